import Derived.Test.YtppblibcbjpfnaaDoorRows
import Derived.Test.YtppblibcbjpfnaaDoorTie
import Derived.Test.YtppblibcbjpfnaaDoorCards
import Derived.Test.YtppblibcbjpfnaaDoorLab
import Derived.Deep.Slices
import Derived.Deep.SlicePairs
import Derived.ProofKit
import Derived.LaidMore
import Derived.LaidSub
import Derived.OpenShut
import Derived.SizedLaws
import Derived.Deep.DeepHandedRow
import Derived.Lib.SmallJoins
import Derived.SevenTiedAt
import Derived.Lay
namespace Go.Proofs.YtppblibcbjpfnaaDoor.L
open Go.ChangeShapes Go.WideShapes Go.ChangeAt Go.RowKit Go.Joins
set_option linter.unusedVariables false
theorem own : ownKnob Tryd.prog.godebug = none := by kernel_rfl
theorem laidOut : laidOutB Tryd.prog = true := by kernel_rfl
theorem cellsT : Tryd.prog.cellsOf 23 = 3 := by kernel_rfl
theorem cellsO : Tryd.prog.cellsOf 25 = 4 := by kernel_rfl
theorem cellsP : Tryd.prog.cellsOf 29 = 12 := by kernel_rfl
theorem cellsLT : Tryd.prog.cellsOf 26 = 1 := by kernel_rfl
theorem cellsLO : Tryd.prog.cellsOf 27 = 1 := by kernel_rfl
theorem cells9 : Tryd.prog.cellsOf 9 = 1 := by kernel_rfl
theorem cells3 : Tryd.prog.cellsOf 3 = 1 := by kernel_rfl
theorem bytesT : Tryd.prog.bytesOf 23 = 48 := by kernel_rfl
theorem bytesO : Tryd.prog.bytesOf 25 = 64 := by kernel_rfl
theorem readP : Tryd.prog.readableRec 29 = true := by kernel_rfl
theorem rowP : 29 < Tryd.prog.types.size := of_decide_eq_true (by kernel_rfl)
theorem reach_num : reachBytes = 140737488351232 := by kernel_rfl
theorem block_lt {w : World} {b o : Nat} {v : Value} (h : w.cell? ⟨b, o, none⟩ = some v) : b < w.heap.size := by
  apply Classical.byContradiction
  intro n
  have : w.heap[b]? = none := Array.getElem?_eq_none (by omega)
  simp [World.cell?, this] at h
theorem all_le {l : List Nat} {b : Nat} (h : l.all (fun x => decide (x ≤ b)) = true) {x : Nat} (hx : x ∈ l) : x ≤ b := by
  rw [List.all_eq_true] at h
  simpa using h x hx
/-- A row of cells that came in is a list. -/
theorem came_mk {α : Type} {m : Nat} {f : α → Nat → ByteArray} {W : World} {a : Addr} {len cap : Nat} (hm0 : 0 < m) (hl : len ≤ cap) (hm : cap ≤ maxLen) (hb : len * (m * 16) ≤ 140737488351232)
    (each : ∀ i, i < len → ∃ q : α, ∀ j, j < m → W.cell? (a.add (i * m + j)) = some (.string (f q j)) ∧ (f q j).size ≤ maxLen) : ∃ l : List α, CameG m f W (.slice (some a) len cap) l ∧ GoodG m f l := by
  obtain ⟨q, hq⟩ : ∃ q : Nat → Option α, ∀ i, i < len → ∃ x, q i = some x ∧ ∀ j, j < m → W.cell? (a.add (i * m + j)) = some (.string (f x j)) ∧ (f x j).size ≤ maxLen := by
    refine ⟨fun i => if h : i < len then some (Classical.choose (each i h)) else none, fun i hi => ?_⟩
    exact ⟨_, dif_pos hi, Classical.choose_spec (each i hi)⟩
  have hlen : ((List.range len).filterMap q).length = len ∧ ∀ j (hj : j < len), ∃ x, q j = some x ∧ ((List.range len).filterMap q)[j]? = some x := by
    have key : ∀ n, n ≤ len → ((List.range n).filterMap q).length = n ∧ ∀ j (hj : j < n), ∃ x, q j = some x ∧ ((List.range n).filterMap q)[j]? = some x := by
      intro n
      induction n with
      | zero => intro _; exact ⟨rfl, fun j hj => by omega⟩
      | succ n ih =>
        intro hn
        obtain ⟨i1, i2⟩ := ih (by omega)
        obtain ⟨x, hx, _⟩ := hq n (by omega)
        rw [List.range_succ, List.filterMap_append]
        have e : List.filterMap q [n] = [x] := by simp [hx]
        rw [e]
        refine ⟨by simp [i1], fun j hj => ?_⟩
        by_cases h : j < n
        · obtain ⟨y, hy, h2⟩ := i2 j h
          exact ⟨y, hy, by rw [List.getElem?_append_left (by rw [i1]; exact h)]; exact h2⟩
        · obtain rfl : j = n := by omega
          exact ⟨x, hx, by rw [List.getElem?_append_right (by rw [i1]; exact Nat.le_refl _), i1]; simp⟩
    exact key len (Nat.le_refl _)
  obtain ⟨h1, h2⟩ := hlen
  refine ⟨(List.range len).filterMap q, Or.inr ⟨a, cap, by rw [h1], by rw [h1]; exact ⟨hl, hm⟩, ?_⟩, ⟨by rw [h1]; omega, by rw [h1]; exact hb⟩, fun x hx i hi => ?_⟩
  · rw [h1]
    by_cases hz : len = 0
    · exact Or.inl hz
    right
    obtain ⟨b, off, spot⟩ := a
    obtain ⟨x, _, k0⟩ := hq 0 (by omega)
    have k0 := (k0 0 hm0).1
    have hspot : spot = none := by simpa [Addr.add] using World.cell?_spot k0
    subst hspot
    refine ⟨b, off, rfl, ?_, fun j hj i hi => ?_⟩
    · rw [Go.WideShapes.add_plain] at k0
      exact block_lt k0
    · have hj' : j < len := by rw [h1] at hj; exact hj
      obtain ⟨x, hx, e⟩ := h2 j hj'
      obtain ⟨y, hy, c⟩ := hq j hj'
      rw [hx] at hy
      cases hy
      have c := (c i hi).1
      rw [Go.WideShapes.add_plain] at c
      rw [Nat.add_assoc]
      rw [List.getElem?_eq_getElem hj] at e
      rw [Option.some.inj e]
      exact c
  · obtain ⟨j, hj, rfl⟩ := List.getElem_of_mem hx
    have hj' : j < len := by rw [h1] at hj; exact hj
    obtain ⟨x, hx', e⟩ := h2 j hj'
    obtain ⟨y, hy, c⟩ := hq j hj'
    rw [hx'] at hy
    cases hy
    rw [List.getElem?_eq_getElem hj] at e
    rw [Option.some.inj e]
    exact (c i hi).2
set_option maxRecDepth 100000 in
theorem cameT_trod {H : Type} {enc : TypeId × Value → H} {W : World} {v : Value} {fuel : Nat} {d : DataW H} {p : List MemPlace} (h : DataW.trod enc Tryd.prog W 0 (fun _ => true) true fuel 26 [v] = some (d, p))
    (hsz : ∀ x ∈ d.weights Tryd.prog 26, x ≤ reachBytes) : ∃ l : List Tn, CameT W v l ∧ GoodT l := by
  rcases Go.Deep.open_slice Tryd.underlying26 h with ⟨hv, hx⟩ | ⟨a, len, cap, m, n, D, Pl, hv, hb, hl, hm, hmm, hx, hc⟩
  · simp at hv
    exact ⟨[], Or.inl ⟨hv, rfl⟩, ⟨by decide, by decide⟩, fun x hx => by cases hx⟩
  · simp at hv
    simp at hmm
    subst hv
    subst hmm
    have hx1 := congrArg Prod.fst hx
    simp only at hx1
    have hbytes : len * 48 ≤ 140737488351232 := by
      have := hsz (m * 48) (by rw [hx1]; simp [DataW.weights, Tryd.underlying26, bytesT]; left; omega)
      rw [reach_num] at this
      omega
    refine came_mk (by decide) hl hm (by omega) fun i hi => ?_
    obtain ⟨cs', h1, h2⟩ := hc i (by omega)
    rw [cellsT] at h1
    obtain ⟨_, hlen, hcell⟩ := World.cells?_some h1
    obtain ⟨xs, k, hk, hxy, _, hxl, hf⟩ := DataW.trod_struct Tryd.underlying23 h2
    match xs, hxl, cs', hlen with
    | [y0, y1, y2], _, [v0, v1, v2], _ =>
      have g0 := hf 0 _ rfl
      have g1 := hf 1 _ rfl
      have g2 := hf 2 _ rfl
      simp [cells9] at g0 g1 g2
      obtain ⟨q0, e0, _, w0⟩ := DataW.trod_string Tryd.underlying9 g0
      obtain ⟨q1, e1, _, w1⟩ := DataW.trod_string Tryd.underlying9 g1
      obtain ⟨q2, e2, _, w2⟩ := DataW.trod_string Tryd.underlying9 g2
      simp at e0 e1 e2
      subst e0 e1 e2
      have f0 := hcell 0 (by omega)
      have f1 := hcell 1 (by omega)
      have f2 := hcell 2 (by omega)
      rw [Go.Deep.add_add] at f0 f1 f2
      refine ⟨(q0, q1, q2), fun j hj => ?_⟩
      match j, hj with
      | 0, _ => exact ⟨by simpa [tf] using f0, w0⟩
      | 1, _ => exact ⟨by simpa [tf] using f1, w1⟩
      | 2, _ => exact ⟨by simpa [tf] using f2, w2⟩
set_option maxRecDepth 100000 in
theorem cameO_trod {H : Type} {enc : TypeId × Value → H} {W : World} {v : Value} {fuel : Nat} {d : DataW H} {p : List MemPlace} (h : DataW.trod enc Tryd.prog W 0 (fun _ => true) true fuel 27 [v] = some (d, p))
    (hsz : ∀ x ∈ d.weights Tryd.prog 27, x ≤ reachBytes) : ∃ l : List To, CameO W v l ∧ GoodO l := by
  rcases Go.Deep.open_slice Tryd.underlying27 h with ⟨hv, hx⟩ | ⟨a, len, cap, m, n, D, Pl, hv, hb, hl, hm, hmm, hx, hc⟩
  · simp at hv
    exact ⟨[], Or.inl ⟨hv, rfl⟩, ⟨by decide, by decide⟩, fun x hx => by cases hx⟩
  · simp at hv
    simp at hmm
    subst hv
    subst hmm
    have hx1 := congrArg Prod.fst hx
    simp only at hx1
    have hbytes : len * 64 ≤ 140737488351232 := by
      have := hsz (m * 64) (by rw [hx1]; simp [DataW.weights, Tryd.underlying27, bytesO]; left; omega)
      rw [reach_num] at this
      omega
    refine came_mk (by decide) hl hm (by omega) fun i hi => ?_
    obtain ⟨cs', h1, h2⟩ := hc i (by omega)
    rw [cellsO] at h1
    obtain ⟨_, hlen, hcell⟩ := World.cells?_some h1
    obtain ⟨xs, k, hk, hxy, _, hxl, hf⟩ := DataW.trod_struct Tryd.underlying25 h2
    match xs, hxl, cs', hlen with
    | [y0, y1, y2, y3], _, [v0, v1, v2, v3], _ =>
      have g0 := hf 0 _ rfl
      have g1 := hf 1 _ rfl
      have g2 := hf 2 _ rfl
      have g3 := hf 3 _ rfl
      simp [cells9] at g0 g1 g2 g3
      obtain ⟨q0, e0, _, w0⟩ := DataW.trod_string Tryd.underlying9 g0
      obtain ⟨q1, e1, _, w1⟩ := DataW.trod_string Tryd.underlying9 g1
      obtain ⟨q2, e2, _, w2⟩ := DataW.trod_string Tryd.underlying9 g2
      obtain ⟨q3, e3, _, w3⟩ := DataW.trod_string Tryd.underlying9 g3
      simp at e0 e1 e2 e3
      subst e0 e1 e2 e3
      have f0 := hcell 0 (by omega)
      have f1 := hcell 1 (by omega)
      have f2 := hcell 2 (by omega)
      have f3 := hcell 3 (by omega)
      rw [Go.Deep.add_add] at f0 f1 f2 f3
      refine ⟨(q0, q1, q2, q3), fun j hj => ?_⟩
      match j, hj with
      | 0, _ => exact ⟨by simpa [ofn] using f0, w0⟩
      | 1, _ => exact ⟨by simpa [ofn] using f1, w1⟩
      | 2, _ => exact ⟨by simpa [ofn] using f2, w2⟩
      | 3, _ => exact ⟨by simpa [ofn] using f3, w3⟩
set_option maxRecDepth 100000 in
/-- The law's argument, opened. -/
theorem op_open {H : Type} {enc : TypeId × Value → H} {W : World} {base : Nat} {v : Value} {d : DataW H} {p : List MemPlace} (hv : Value.okWide Tryd.prog W .any base 29 v) (h : DataW.Trod enc Tryd.prog W 0 (fun _ => true) true 29 v d p)
    (hsz : ∀ x ∈ d.weights Tryd.prog 29, x ≤ reachBytes) : ∃ (kd : Int) (t : Tn) (o : To) (s key : ByteArray) (vl vo : Value) (l : List Tn) (os : List To), v = .agg #[.int .i64 kd, .string t.1, .string t.2.1, .string t.2.2, .string o.1, .string o.2.1, .string o.2.2.1, .string o.2.2.2, .string s, .string key, vl, vo] ∧ CameT W vl l ∧ CameO W vo os ∧ GoodT l ∧ GoodO os ∧
      (t.1.size ≤ 140737488351232 ∧ t.2.1.size ≤ 140737488351232 ∧ t.2.2.size ≤ 140737488351232) ∧ (o.1.size ≤ 140737488351232 ∧ o.2.1.size ≤ 140737488351232 ∧ o.2.2.1.size ≤ 140737488351232 ∧ o.2.2.2.size ≤ 140737488351232) ∧ s.size ≤ 140737488351232 ∧ key.size ≤ 140737488351232 := by
  obtain ⟨cs, rfl, hcs⟩ := okWide_struct Tryd.underlying29 hv
  obtain ⟨fuel, hf⟩ := h
  have hf' : DataW.trod enc Tryd.prog W 0 (fun _ => true) true fuel 29 cs.toList = some (d, p) := by simpa [Value.cells] using hf
  rw [cellsP] at hcs
  obtain ⟨xs, k, hk, hxy, _, hxl, hfl⟩ := DataW.trod_struct Tryd.underlying29 hf'
  obtain ⟨cl, hcl⟩ : ∃ cl, cl = cs.toList := ⟨_, rfl⟩
  have hlen : cl.length = 12 := by rw [hcl]; simpa using hcs
  have hcc : cs = cl.toArray := by rw [hcl]
  rw [← hcl] at hfl
  subst hcc
  clear hf hf' hv hcl hcs
  rw [reach_num] at hsz
  match xs, hxl, cl, hlen with
  | [y0, y1, y2, y3, y4, y5, y6], _, [v0, v1, v2, v3, v4, v5, v6, v7, v8, v9, v10, v11], _ =>
    have g0 := hfl 0 _ rfl
    have g1 := hfl 1 _ rfl
    have g2 := hfl 2 _ rfl
    have g3 := hfl 3 _ rfl
    have g4 := hfl 4 _ rfl
    have g5 := hfl 5 _ rfl
    have g6 := hfl 6 _ rfl
    simp [cells9, cells3, cellsT, cellsO, cellsLT, cellsLO] at g0 g1 g2 g3 g4 g5 g6
    have hD : d = .agg [y0.1, y1.1, y2.1, y3.1, y4.1, y5.1, y6.1] := congrArg Prod.fst hxy
    rw [hD] at hsz
    simp only [DataW.weights, Tryd.underlying29] at hsz
    obtain ⟨kd, e0, _, w0⟩ := DataW.trod_int Tryd.underlying3 g0
    simp at e0
    subst e0
    obtain ⟨xt, kt, hkt, hxt, _, hxtl, hft⟩ := DataW.trod_struct Tryd.underlying23 g1
    obtain ⟨xo, ko, hko, hxo, _, hxol, hfo⟩ := DataW.trod_struct Tryd.underlying25 g2
    obtain ⟨s3, e3, d3, w3⟩ := DataW.trod_string Tryd.underlying9 g3
    obtain ⟨s4, e4, d4, w4⟩ := DataW.trod_string Tryd.underlying9 g4
    simp at e3 e4
    subst e3 e4
    obtain ⟨l, ml, gl⟩ := cameT_trod (d := y5.1) (p := y5.2) g5 (fun x hx => by rw [reach_num]; exact hsz x (by simp [DataW.weightsEach, hx]))
    obtain ⟨os, mo, go⟩ := cameO_trod (d := y6.1) (p := y6.2) g6 (fun x hx => by rw [reach_num]; exact hsz x (by simp [DataW.weightsEach, hx]))
    match xt, hxtl, xo, hxol with
    | [a0, a1, a2], _, [b0, b1, b2, b3], _ =>
      have p0 := hft 0 _ rfl
      have p1 := hft 1 _ rfl
      have p2 := hft 2 _ rfl
      have q0 := hfo 0 _ rfl
      have q1 := hfo 1 _ rfl
      have q2 := hfo 2 _ rfl
      have q3 := hfo 3 _ rfl
      simp [cells9] at p0 p1 p2 q0 q1 q2 q3
      obtain ⟨t0, r0, dt0, u0⟩ := DataW.trod_string Tryd.underlying9 p0
      obtain ⟨t1, r1, dt1, u1⟩ := DataW.trod_string Tryd.underlying9 p1
      obtain ⟨t2, r2, dt2, u2⟩ := DataW.trod_string Tryd.underlying9 p2
      obtain ⟨o0, s0, do0, x0⟩ := DataW.trod_string Tryd.underlying9 q0
      obtain ⟨o1, s1, do1, x1⟩ := DataW.trod_string Tryd.underlying9 q1
      obtain ⟨o2, s2, do2, x2⟩ := DataW.trod_string Tryd.underlying9 q2
      obtain ⟨o3, s3', do3, x3⟩ := DataW.trod_string Tryd.underlying9 q3
      simp at r0 r1 r2 s0 s1 s2 s3'
      subst r0 r1 r2 s0 s1 s2 s3'
      subst dt0 dt1 dt2 do0 do1 do2 do3
      have hy1 : y1.1 = .agg [.lit (.string t0.data.toList), .lit (.string t1.data.toList), .lit (.string t2.data.toList)] := congrArg Prod.fst hxt
      have hy2 : y2.1 = .agg [.lit (.string o0.data.toList), .lit (.string o1.data.toList), .lit (.string o2.data.toList), .lit (.string o3.data.toList)] := congrArg Prod.fst hxo
      subst d3 d4
      rw [hy1, hy2] at hsz
      have ln : ∀ s : ByteArray, s.size = s.data.toList.length := fun s => by simp
      refine ⟨kd, (t0, t1, t2), (o0, o1, o2, o3), s3, s4, _, _, l, os, rfl, ml, mo, gl, go, ⟨?_, ?_, ?_⟩, ⟨?_, ?_, ?_, ?_⟩, ?_, ?_⟩ <;>
        (refine hsz _ ?_; simp only [ln]; simp [DataW.weightsEach, DataW.weights, Tryd.underlying23, Tryd.underlying25])
end Go.Proofs.YtppblibcbjpfnaaDoor.L
