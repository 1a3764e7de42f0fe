import Derived.Test.YtfbagkajbnomoaaRows
import Derived.Test.YtfbagkajbnomoaaQ14
import Derived.ProofKit
import Derived.OpenShut
import Derived.SizedLaws
import Derived.Deep.Slices
namespace Go.Proofs.Ytfbagkajbnomoaa.L
open Go.ChangeShapes Go.WideShapes Go.ChangeAt Go.RowKit Go.Joins Rg Qu
set_option linter.unusedVariables false
set_option linter.unusedSimpArgs false
/-! The script: what comes in, opened. -/
theorem own : ownKnob Try.prog.godebug = none := by kernel_rfl
theorem reach_num : reachBytes = 140737488351232 := by kernel_rfl
theorem laidOut : laidOutB Try.prog = true := by kernel_rfl
theorem cells9 : Try.prog.cellsOf 9 = 1 := by kernel_rfl
theorem cells3 : Try.prog.cellsOf 3 = 1 := by kernel_rfl
theorem cells4 : Try.prog.cellsOf 4 = 1 := by kernel_rfl
theorem cellsWs : Try.prog.cellsOf 27 = 1 := by kernel_rfl
theorem cellsW : Try.prog.cellsOf 40 = 6 := by kernel_rfl
theorem cellsOp : Try.prog.cellsOf 34 = 5 := by kernel_rfl
theorem bytesW : Try.prog.bytesOf 40 = 56 := by kernel_rfl
theorem bytesOp : Try.prog.bytesOf 34 = 64 := by kernel_rfl
theorem readOp : Try.prog.readableRec 22 = true := by kernel_rfl
theorem rowOp : 22 < Try.prog.types.size := of_decide_eq_true (by kernel_rfl)
theorem readIn : Try.prog.readableRec 3 = true := by kernel_rfl
theorem rowIn : 3 < Try.prog.types.size := of_decide_eq_true (by kernel_rfl)
theorem all_le {l : List Nat} {n : Nat} (h : l.all (fun x => decide (x ≤ n)) = true) {x : Nat} (hx : x ∈ l) : x ≤ n := by
  have := List.all_eq_true.1 h x hx
  simpa using this
theorem block_lt {w : World} {b o : Nat} {v : Value} (h : w.cell? ⟨b, o, none⟩ = some v) : b < w.heap.size := by
  apply Classical.byContradiction
  intro n
  have : w.heap[b]? = none := Array.getElem?_eq_none (by omega)
  simp [World.cell?, this] at h
theorem mem_all {H : Type} {P : Program} {e : TypeId} {ds : List (DataW H)} {d : DataW H} (h : d ∈ ds) {x : Nat} (hx : x ∈ d.weights P e) : x ∈ DataW.weightsAll P e ds := by
  induction ds with
  | nil => cases h
  | cons y r ih =>
    rw [DataW.weightsAll, List.mem_append]
    rcases List.mem_cons.1 h with rfl | h
    · exact Or.inl hx
    · exact Or.inr (ih h)
/-- One call of a script. -/
structure Opq where
  kind : Int
  name : ByteArray
  pr : Int
  now : Int
  rows : List Wt
instance : Inhabited Opq := ⟨⟨0, ⟨#[]⟩, 0, 0, []⟩⟩
/-- It stands at this place. -/
def OpR (W : World) (b o : Nat) (x : Opq) : Prop := W.cell? ⟨b, o, none⟩ = some (.int .i64 x.kind) ∧ W.cell? ⟨b, o + 1, none⟩ = some (.string x.name) ∧ W.cell? ⟨b, o + 2, none⟩ = some (.int .i64 x.pr) ∧ W.cell? ⟨b, o + 3, none⟩ = some (.int .i64 x.now) ∧ ∃ ra rc, W.cell? ⟨b, o + 4, none⟩ = some (.slice ra x.rows.length rc) ∧ RdG wtV 6 W ra x.rows ∧ (ra = none → rc = 0) ∧ x.rows.length * 56 ≤ 140737488355328
/-- A script that came in. -/
def ScR (W : World) (a : Option Addr) (sc : List Opq) : Prop := sc.length = 0 ∨ ∃ b off, a = some ⟨b, off, none⟩ ∧ b < W.heap.size ∧ ∀ j, j < sc.length → OpR W b (off + j * 5) (sc.getD j default)
theorem OpR.low {W W' : World} {b o : Nat} {x : Opq} (h : OpR W b o x) (hb : b < W.heap.size) (k : Below W.heap.size W W') : OpR W' b o x := by
  obtain ⟨h0, h1, h2, h3, ra, rc, h4, r, n, l⟩ := h
  exact ⟨(k.cell (p := ⟨b, o, none⟩) hb).trans h0, (k.cell (p := ⟨b, o + 1, none⟩) hb).trans h1, (k.cell (p := ⟨b, o + 2, none⟩) hb).trans h2, (k.cell (p := ⟨b, o + 3, none⟩) hb).trans h3, ra, rc, (k.cell (p := ⟨b, o + 4, none⟩) hb).trans h4, r.low k, n, l⟩
theorem ScR.low {W W' : World} {a : Option Addr} {sc : List Opq} (h : ScR W a sc) (k : Below W.heap.size W W') : ScR W' a sc := by
  rcases h with h | ⟨b, off, rfl, hb, hc⟩
  · exact Or.inl h
  · exact Or.inr ⟨b, off, rfl, Nat.lt_of_lt_of_le hb k.size, fun j hj => (hc j hj).low hb k⟩
theorem scr_at {W : World} {a : Option Addr} {sc : List Opq} (h : ScR W a sc) {k : Nat} (hk : k < sc.length) : ∃ b off, a = some ⟨b, off, none⟩ ∧ b < W.heap.size ∧ OpR W b (off + k * 5) sc[k] := by
  rcases h with h0 | ⟨b, off, e, hb, hc⟩
  · omega
  · have c := hc k hk
    rw [List.getD_eq_getElem?_getD, List.getElem?_eq_getElem hk] at c
    exact ⟨b, off, e, hb, c⟩
/-- The names of a script are texts that may be. -/
def ScN (sc : List Opq) : Prop := ∀ o, o ∈ sc → o.name.size ≤ maxLen ∧ ∀ y, y ∈ o.rows → y.name.size ≤ maxLen
section
variable {H : Type} {enc : TypeId × Value → H} {W : World} {fuel : Nat} {v : Value} {d : DataW H} {p : List MemPlace}
theorem wts_open (h : DataW.trod enc Try.prog W 0 (fun _ => true) true fuel 27 [v] = some (d, p)) (hk : ∀ x ∈ d.weights Try.prog 27, x ≤ reachBytes) :
    ∃ (a : Option Addr) (l : List Wt) (cap : Nat), v = .slice a l.length cap ∧ RdG wtV 6 W a l ∧ (a = none → cap = 0) ∧ l.length * 56 ≤ 140737488355328 ∧ ∀ x, x ∈ l → x.name.size ≤ maxLen := by
  rcases Go.Deep.open_slice Try.underlying27 h with ⟨hv, hx⟩ | ⟨a, len, cap, m, n, D, Pl, hv, hb0, hl, hm, hmm, hx, hc⟩
  · simp at hv
    exact ⟨none, [], 0, hv, Or.inl rfl, fun _ => rfl, by simp, fun x hx => by cases hx⟩
  · simp at hv
    simp at hmm
    rw [cellsW] at hc
    have hx1 := congrArg Prod.fst hx
    simp only at hx1
    have hbytes : len * 56 ≤ 140737488355328 := by
      subst hmm
      have := hk (m * 56) (by rw [hx1]; simp [DataW.weights, Try.underlying27, bytesW]; left; omega)
      rw [reach_num] at this
      omega
    have key : ∀ i, i < len → ∃ s : Wt, (∀ q, q < 6 → W.cell? (a.add (i * 6 + q)) = some ((wtV s).getD q undef)) ∧ s.name.size ≤ maxLen := by
      intro i hi
      obtain ⟨cs', h1, h2⟩ := hc i (by omega)
      obtain ⟨_, hlen, hcell⟩ := World.cells?_some h1
      obtain ⟨xs, k, hk2, hxy, _, hxl, hf⟩ := DataW.trod_struct Try.underlying40 h2
      match xs, hxl, cs', hlen with
      | [y0, y1, y2, y3, y4, y5], _, [v0, v1, v2, v3, v4, v5], _ =>
        have g0 := hf 0 _ rfl
        have g1 := hf 1 _ rfl
        have g2 := hf 2 _ rfl
        have g3 := hf 3 _ rfl
        have g4 := hf 4 _ rfl
        have g5 := hf 5 _ rfl
        simp [cells3, cells9, cells4] at g0 g1 g2 g3 g4 g5
        obtain ⟨z0, e0, _, hz0⟩ := DataW.trod_string Try.underlying9 g0
        obtain ⟨z1, e1, _⟩ := DataW.trod_int Try.underlying3 g1
        obtain ⟨z2, e2, _⟩ := DataW.trod_int Try.underlying3 g2
        obtain ⟨z3, e3, _⟩ := DataW.trod_int Try.underlying3 g3
        obtain ⟨z4, e4, _⟩ := DataW.trod_int Try.underlying3 g4
        obtain ⟨z5, e5, _⟩ := DataW.trod_bool Try.underlying4 g5
        simp at e0 e1 e2 e3 e4 e5
        subst e0 e1 e2 e3 e4 e5
        refine ⟨⟨z0, z1, z2, z3, z4, z5⟩, fun q hq => ?_, hz0⟩
        have f := hcell q (by simpa using hq)
        rw [Go.Deep.add_add] at f
        rw [f]
        rcases (by omega : q = 0 ∨ q = 1 ∨ q = 2 ∨ q = 3 ∨ q = 4 ∨ q = 5) with rfl | rfl | rfl | rfl | rfl | rfl <;> rfl
    obtain ⟨q, hq⟩ := Go.Deep.choose_lt key
    refine ⟨some a, (List.range len).map q, cap, by simpa using hv, ?_, (fun e => by cases e), by simpa using hbytes, fun x hx => by
      obtain ⟨j, hj, rfl⟩ := List.mem_map.1 hx
      exact (hq j (List.mem_range.1 hj)).2⟩
    by_cases h0 : len = 0
    · exact Or.inl (by simpa using h0)
    right
    obtain ⟨b, off, spot⟩ := a
    have k0 := (hq 0 (by omega)).1 0 (by omega)
    have hspot : spot = none := by simpa [Addr.add] using World.cell?_spot k0
    subst hspot
    refine ⟨b, off, rfl, ?_, fun j hj r hr => ?_⟩
    · rw [Go.WideShapes.add_plain] at k0
      exact block_lt k0
    · have hj' : j < len := by simpa using hj
      have e : ((List.range len).map q).getD j default = q j := by simp [List.getD_eq_getElem?_getD, List.getElem?_range hj']
      rw [e]
      have a0 := (hq j hj').1 r hr
      rw [Go.WideShapes.add_plain] at a0
      rw [Nat.add_assoc]
      exact a0
set_option maxRecDepth 100000 in
set_option maxHeartbeats 1000000 in
theorem ops_open (h : DataW.trod enc Try.prog W 0 (fun _ => true) true fuel 22 [v] = some (d, p)) (hk : ∀ x ∈ d.weights Try.prog 22, x ≤ reachBytes) :
    ∃ (a : Option Addr) (sc : List Opq) (cap : Nat), v = .slice a sc.length cap ∧ ScR W a sc ∧ (a = none → cap = 0) ∧ sc.length ≤ cap ∧ sc.length ≤ 140737488355328 ∧ ScN sc := by
  rcases Go.Deep.open_slice Try.underlying22 h with ⟨hv, hx⟩ | ⟨a, len, cap, m, n, D, Pl, hv, hb0, hl, hm, hmm, hx, hc⟩
  · simp at hv
    exact ⟨none, [], 0, hv, Or.inl rfl, fun _ => rfl, by simp, by simp, fun o ho => by cases ho⟩
  · simp at hv
    simp at hmm
    rw [cellsOp] at hc
    have hx1 := congrArg Prod.fst hx
    simp only at hx1
    have hbytes : len ≤ 140737488355328 := by
      subst hmm
      have := hk (m * 64) (by rw [hx1]; simp [DataW.weights, Try.underlying22, bytesOp]; left; omega)
      rw [reach_num] at this
      omega
    have hin : ∀ i, i < len → ∀ x ∈ (D i).weights Try.prog 34, x ≤ reachBytes := by
      intro i hi x hxx
      refine hk x ?_
      rw [hx1]
      have := mem_all (P := Try.prog) (e := 34) (ds := (List.range len).map D) (List.mem_map.2 ⟨i, List.mem_range.2 hi, rfl⟩) hxx
      simp only [DataW.weights, Try.underlying22]
      exact List.mem_cons_of_mem _ (List.mem_append_left _ this)
    have key : ∀ i, i < len → ∃ x : Opq, ∃ ra rc, (∀ q u, ([.int .i64 x.kind, .string x.name, .int .i64 x.pr, .int .i64 x.now, .slice ra x.rows.length rc] : List Value)[q]? = some u → W.cell? (a.add (i * 5 + q)) = some u) ∧ RdG wtV 6 W ra x.rows ∧ (ra = none → rc = 0) ∧ x.rows.length * 56 ≤ 140737488355328 ∧ x.name.size ≤ maxLen ∧ ∀ y, y ∈ x.rows → y.name.size ≤ maxLen := by
      intro i hi
      obtain ⟨cs', h1, h2⟩ := hc i (by omega)
      obtain ⟨_, hlen, hcell⟩ := World.cells?_some h1
      obtain ⟨xs, k, hk2, hxy, _, hxl, hf⟩ := DataW.trod_struct Try.underlying34 h2
      match xs, hxl, cs', hlen with
      | [y0, y1, y2, y3, y4], _, [v0, v1, v2, v3, v4], _ =>
        have g0 := hf 0 _ rfl
        have g1 := hf 1 _ rfl
        have g2 := hf 2 _ rfl
        have g3 := hf 3 _ rfl
        have g4 := hf 4 _ rfl
        simp [cells3, cells9, cellsWs] at g0 g1 g2 g3 g4
        have hD : D i = .agg [y0.1, y1.1, y2.1, y3.1, y4.1] := congrArg Prod.fst hxy
        have hsz := hin i hi
        rw [hD] at hsz
        simp only [DataW.weights, Try.underlying34] at hsz
        obtain ⟨z0, e0, _⟩ := DataW.trod_int Try.underlying3 g0
        obtain ⟨z1, e1, _, hz1⟩ := DataW.trod_string Try.underlying9 g1
        obtain ⟨z2, e2, _⟩ := DataW.trod_int Try.underlying3 g2
        obtain ⟨z3, e3, _⟩ := DataW.trod_int Try.underlying3 g3
        obtain ⟨ra, rl, rc, e4, rr, rn, rb, rs⟩ := wts_open (d := y4.1) (p := y4.2) g4 (fun x hx => hsz x (by simp [DataW.weightsEach, hx]))
        simp at e0 e1 e2 e3
        subst e0 e1 e2 e3 e4
        refine ⟨⟨z0, z1, z2, z3, rl⟩, ra, rc, fun q u hq => ?_, rr, rn, rb, hz1, rs⟩
        have hq5 : q < 5 := by
          have := (List.getElem?_eq_some_iff.1 hq).1
          simpa using this
        have f := hcell q (by simpa using hq5)
        rw [Go.Deep.add_add] at f
        rw [f, ← hq]
    obtain ⟨q, hq⟩ := Go.Deep.choose_lt key
    refine ⟨some a, (List.range len).map q, cap, by simpa using hv, ?_, (fun e => by cases e), by simpa using hl, by simpa using hbytes, fun o ho => by
      obtain ⟨j, hj, rfl⟩ := List.mem_map.1 ho
      obtain ⟨_, _, _, _, _, _, h1, h2⟩ := hq j (List.mem_range.1 hj)
      exact ⟨h1, h2⟩⟩
    by_cases h0 : len = 0
    · exact Or.inl (by simpa using h0)
    right
    obtain ⟨b, off, spot⟩ := a
    obtain ⟨_, _, k0, _⟩ := hq 0 (by omega)
    have k0 := k0 0 _ rfl
    have hspot : spot = none := by simpa [Addr.add] using World.cell?_spot k0
    subst hspot
    refine ⟨b, off, rfl, ?_, fun j hj => ?_⟩
    · rw [Go.WideShapes.add_plain] at k0
      exact block_lt k0
    · have hj' : j < len := by simpa using hj
      have e : ((List.range len).map q).getD j default = q j := by simp [List.getD_eq_getElem?_getD, List.getElem?_range hj']
      rw [e]
      obtain ⟨ra, rc, a0, r1, r2, r3, _⟩ := hq j hj'
      have f : ∀ i u, ([.int .i64 (q j).kind, .string (q j).name, .int .i64 (q j).pr, .int .i64 (q j).now, .slice ra (q j).rows.length rc] : List Value)[i]? = some u → W.cell? ⟨b, off + j * 5 + i, none⟩ = some u := fun i u hi => by
        have := a0 i u hi
        rw [Go.WideShapes.add_plain] at this
        rw [Nat.add_assoc]
        exact this
      exact ⟨f 0 _ rfl, f 1 _ rfl, f 2 _ rfl, f 3 _ rfl, ra, rc, f 4 _ rfl, r1, r2, r3⟩
end
set_option maxRecDepth 100000 in
theorem ops_arg {H : Type} {enc : TypeId × Value → H} {W : World} {base : Nat} {v : Value} {d : DataW H} {p : List MemPlace} (hv : Value.okWide Try.prog W .any base 22 v) (h : DataW.Trod enc Try.prog W 0 (fun _ => true) true 22 v d p)
    (hsz : ∀ x ∈ d.weights Try.prog 22, x ≤ reachBytes) : ∃ (a : Option Addr) (sc : List Opq) (cap : Nat), v = .slice a sc.length cap ∧ ScR W a sc ∧ (a = none → cap = 0) ∧ sc.length ≤ cap ∧ sc.length ≤ 140737488355328 ∧ ScN sc := by
  obtain ⟨a, len, cap, rfl⟩ := okWide_slice Try.underlying22 hv
  obtain ⟨fuel, hf⟩ := h
  exact ops_open (by simpa [Value.cells] using hf) hsz
theorem int_arg {H : Type} {enc : TypeId × Value → H} {W : World} {base : Nat} {v : Value} {d : DataW H} {p : List MemPlace} (hv : Value.okWide Try.prog W .any base 3 v) (h : DataW.Trod enc Try.prog W 0 (fun _ => true) true 3 v d p) : ∃ z : Int, v = .int .i64 z ∧ -9223372036854775808 ≤ z ∧ z ≤ 9223372036854775807 := by
  obtain ⟨n, rfl⟩ := okWide_int Try.underlying3 hv
  obtain ⟨fuel, hf⟩ := h
  obtain ⟨z, e, _, wf⟩ := DataW.trod_int Try.underlying3 (show DataW.trod enc Try.prog W 0 (fun _ => true) true fuel 3 [.int .i64 n] = some (d, p) by simpa [Value.cells] using hf)
  have h : IntKind.i64.min ≤ z ∧ z ≤ IntKind.i64.max := by simpa [Lit.wf] using wf
  exact ⟨z, by simpa using e, h⟩
end Go.Proofs.Ytfbagkajbnomoaa.L
