import Derived.Test.YtfbagkajbnomoaaQ15
import Derived.Test.YtfbagkajbnomoaaQ20
namespace Go.Proofs.Ytfbagkajbnomoaa.L
open Go.ChangeShapes Go.WideShapes Go.ChangeAt Go.RowKit Go.Joins Rg Qu
set_option linter.unusedVariables false
set_option linter.unusedSimpArgs false
/-! The script of small bulk: what comes in, opened. -/
theorem bulk_one {H : Type} (d : DataW H) : 1 ≤ Rows.uptoBulk d := by
  cases d with
  | lit l => cases l <;> simp [Rows.uptoBulk]
  | nil => simp [Rows.uptoBulk]
  | ptr d => simp [Rows.uptoBulk]
  | slice elems spare => simp [Rows.uptoBulk]
  | agg parts => simp [Rows.uptoBulk]
  | iface t d => simp [Rows.uptoBulk]
  | map entries => simp [Rows.uptoBulk]
  | held h => simp [Rows.uptoBulk]
theorem bulk_part {H : Type} {d : DataW H} {l : List (DataW H)} (h : d ∈ l) : Rows.uptoBulk d ≤ Rows.uptoBulkAll l := by
  induction l with
  | nil => cases h
  | cons x r ih =>
    simp only [Rows.uptoBulkAll]
    cases List.mem_cons.1 h with
    | inl e => subst e; omega
    | inr e => have := ih e; omega
theorem bulk_len {H : Type} (l : List (DataW H)) : l.length ≤ Rows.uptoBulkAll l := by
  induction l with
  | nil => simp [Rows.uptoBulkAll]
  | cons x r ih => have := bulk_one x; simp only [Rows.uptoBulkAll, List.length_cons]; omega
section
variable {H : Type} {enc : TypeId × Value → H} {W : World} {fuel : Nat} {v : Value} {d : DataW H} {p : List MemPlace}
theorem wts_upto (h : DataW.trod enc Try.prog W 0 (fun _ => true) true fuel 27 [v] = some (d, p)) (hk : Rows.uptoBulk d ≤ 1048576) :
    ∃ (a : Option Addr) (l : List Wt) (cap : Nat), v = .slice a l.length cap ∧ RdG wtV 6 W a l ∧ (a = none → cap = 0) ∧ l.length * 56 ≤ 140737488355328 ∧ ∀ x, x ∈ l → x.name.size ≤ maxLen := by
  rcases Go.Deep.open_slice Try.underlying27 h with ⟨hv, hx⟩ | ⟨a, len, cap, m, n, D, Pl, hv, hb0, hl, hm, hmm, hx, hc⟩
  · simp at hv
    exact ⟨none, [], 0, hv, Or.inl rfl, fun _ => rfl, by simp, fun x hx => by cases hx⟩
  · simp at hv
    simp at hmm
    rw [cellsW] at hc
    have hx1 := congrArg Prod.fst hx
    simp only at hx1
    rw [hx1] at hk
    simp only [Rows.uptoBulk] at hk
    have hlen0 := bulk_len ((List.range len).map D)
    have hbytes : len * 56 ≤ 140737488355328 := by
      rw [List.length_map, List.length_range] at hlen0
      omega
    have key : ∀ i, i < len → ∃ s : Wt, (∀ q, q < 6 → W.cell? (a.add (i * 6 + q)) = some ((wtV s).getD q undef)) ∧ s.name.size ≤ maxLen := by
      intro i hi
      obtain ⟨cs', h1, h2⟩ := hc i (by omega)
      obtain ⟨_, hlen, hcell⟩ := World.cells?_some h1
      obtain ⟨xs, k, hk2, hxy, _, hxl, hf⟩ := DataW.trod_struct Try.underlying40 h2
      match xs, hxl, cs', hlen with
      | [y0, y1, y2, y3, y4, y5], _, [v0, v1, v2, v3, v4, v5], _ =>
        have g0 := hf 0 _ rfl
        have g1 := hf 1 _ rfl
        have g2 := hf 2 _ rfl
        have g3 := hf 3 _ rfl
        have g4 := hf 4 _ rfl
        have g5 := hf 5 _ rfl
        simp [cells3, cells9, cells4] at g0 g1 g2 g3 g4 g5
        obtain ⟨z0, e0, _, hz0⟩ := DataW.trod_string Try.underlying9 g0
        obtain ⟨z1, e1, _⟩ := DataW.trod_int Try.underlying3 g1
        obtain ⟨z2, e2, _⟩ := DataW.trod_int Try.underlying3 g2
        obtain ⟨z3, e3, _⟩ := DataW.trod_int Try.underlying3 g3
        obtain ⟨z4, e4, _⟩ := DataW.trod_int Try.underlying3 g4
        obtain ⟨z5, e5, _⟩ := DataW.trod_bool Try.underlying4 g5
        simp at e0 e1 e2 e3 e4 e5
        subst e0 e1 e2 e3 e4 e5
        refine ⟨⟨z0, z1, z2, z3, z4, z5⟩, fun q hq => ?_, hz0⟩
        have f := hcell q (by simpa using hq)
        rw [Go.Deep.add_add] at f
        rw [f]
        rcases (by omega : q = 0 ∨ q = 1 ∨ q = 2 ∨ q = 3 ∨ q = 4 ∨ q = 5) with rfl | rfl | rfl | rfl | rfl | rfl <;> rfl
    obtain ⟨q, hq⟩ := Go.Deep.choose_lt key
    refine ⟨some a, (List.range len).map q, cap, by simpa using hv, ?_, (fun e => by cases e), by simpa using hbytes, fun x hx => by
      obtain ⟨j, hj, rfl⟩ := List.mem_map.1 hx
      exact (hq j (List.mem_range.1 hj)).2⟩
    by_cases h0 : len = 0
    · exact Or.inl (by simpa using h0)
    right
    obtain ⟨b, off, spot⟩ := a
    have k0 := (hq 0 (by omega)).1 0 (by omega)
    have hspot : spot = none := by simpa [Addr.add] using World.cell?_spot k0
    subst hspot
    refine ⟨b, off, rfl, ?_, fun j hj r hr => ?_⟩
    · rw [Go.WideShapes.add_plain] at k0
      exact block_lt k0
    · have hj' : j < len := by simpa using hj
      have e : ((List.range len).map q).getD j default = q j := by simp [List.getD_eq_getElem?_getD, List.getElem?_range hj']
      rw [e]
      have a0 := (hq j hj').1 r hr
      rw [Go.WideShapes.add_plain] at a0
      rw [Nat.add_assoc]
      exact a0
set_option maxRecDepth 100000 in
set_option maxHeartbeats 1000000 in
theorem ops_upto (h : DataW.trod enc Try.prog W 0 (fun _ => true) true fuel 22 [v] = some (d, p)) (hk : Rows.uptoBulk d ≤ 1048576) :
    ∃ (a : Option Addr) (sc : List Opq) (cap : Nat), v = .slice a sc.length cap ∧ ScR W a sc ∧ (a = none → cap = 0) ∧ sc.length ≤ cap ∧ sc.length ≤ 1048576 ∧ ScN sc := by
  rcases Go.Deep.open_slice Try.underlying22 h with ⟨hv, hx⟩ | ⟨a, len, cap, m, n, D, Pl, hv, hb0, hl, hm, hmm, hx, hc⟩
  · simp at hv
    exact ⟨none, [], 0, hv, Or.inl rfl, fun _ => rfl, by simp, by simp, fun o ho => by cases ho⟩
  · simp at hv
    simp at hmm
    rw [cellsOp] at hc
    have hx1 := congrArg Prod.fst hx
    simp only at hx1
    rw [hx1] at hk
    simp only [Rows.uptoBulk] at hk
    have hlen0 := bulk_len ((List.range len).map D)
    have hbytes : len ≤ 1048576 := by
      rw [List.length_map, List.length_range] at hlen0
      omega
    have hin : ∀ i, i < len → Rows.uptoBulk (D i) ≤ 1048576 := by
      intro i hi
      have := bulk_part (List.mem_map.2 ⟨i, List.mem_range.2 hi, rfl⟩ : D i ∈ (List.range len).map D)
      omega
    have key : ∀ i, i < len → ∃ x : Opq, ∃ ra rc, (∀ q u, ([.int .i64 x.kind, .string x.name, .int .i64 x.pr, .int .i64 x.now, .slice ra x.rows.length rc] : List Value)[q]? = some u → W.cell? (a.add (i * 5 + q)) = some u) ∧ RdG wtV 6 W ra x.rows ∧ (ra = none → rc = 0) ∧ x.rows.length * 56 ≤ 140737488355328 ∧ x.name.size ≤ maxLen ∧ ∀ y, y ∈ x.rows → y.name.size ≤ maxLen := by
      intro i hi
      obtain ⟨cs', h1, h2⟩ := hc i (by omega)
      obtain ⟨_, hlen, hcell⟩ := World.cells?_some h1
      obtain ⟨xs, k, hk2, hxy, _, hxl, hf⟩ := DataW.trod_struct Try.underlying34 h2
      match xs, hxl, cs', hlen with
      | [y0, y1, y2, y3, y4], _, [v0, v1, v2, v3, v4], _ =>
        have g0 := hf 0 _ rfl
        have g1 := hf 1 _ rfl
        have g2 := hf 2 _ rfl
        have g3 := hf 3 _ rfl
        have g4 := hf 4 _ rfl
        simp [cells3, cells9, cellsWs] at g0 g1 g2 g3 g4
        have hD : D i = .agg [y0.1, y1.1, y2.1, y3.1, y4.1] := congrArg Prod.fst hxy
        have hsz := hin i hi
        rw [hD] at hsz
        simp only [Rows.uptoBulk] at hsz
        have hy4 := bulk_part (by simp : y4.1 ∈ [y0.1, y1.1, y2.1, y3.1, y4.1])
        obtain ⟨z0, e0, _⟩ := DataW.trod_int Try.underlying3 g0
        obtain ⟨z1, e1, _, hz1⟩ := DataW.trod_string Try.underlying9 g1
        obtain ⟨z2, e2, _⟩ := DataW.trod_int Try.underlying3 g2
        obtain ⟨z3, e3, _⟩ := DataW.trod_int Try.underlying3 g3
        obtain ⟨ra, rl, rc, e4, rr, rn, rb, rs⟩ := wts_upto (d := y4.1) (p := y4.2) g4 (by omega)
        simp at e0 e1 e2 e3
        subst e0 e1 e2 e3 e4
        refine ⟨⟨z0, z1, z2, z3, rl⟩, ra, rc, fun q u hq => ?_, rr, rn, rb, hz1, rs⟩
        have hq5 : q < 5 := by
          have := (List.getElem?_eq_some_iff.1 hq).1
          simpa using this
        have f := hcell q (by simpa using hq5)
        rw [Go.Deep.add_add] at f
        rw [f, ← hq]
    obtain ⟨q, hq⟩ := Go.Deep.choose_lt key
    refine ⟨some a, (List.range len).map q, cap, by simpa using hv, ?_, (fun e => by cases e), by simpa using hl, by simpa using hbytes, fun o ho => by
      obtain ⟨j, hj, rfl⟩ := List.mem_map.1 ho
      obtain ⟨_, _, _, _, _, _, h1, h2⟩ := hq j (List.mem_range.1 hj)
      exact ⟨h1, h2⟩⟩
    by_cases h0 : len = 0
    · exact Or.inl (by simpa using h0)
    right
    obtain ⟨b, off, spot⟩ := a
    obtain ⟨_, _, k0, _⟩ := hq 0 (by omega)
    have k0 := k0 0 _ rfl
    have hspot : spot = none := by simpa [Addr.add] using World.cell?_spot k0
    subst hspot
    refine ⟨b, off, rfl, ?_, fun j hj => ?_⟩
    · rw [Go.WideShapes.add_plain] at k0
      exact block_lt k0
    · have hj' : j < len := by simpa using hj
      have e : ((List.range len).map q).getD j default = q j := by simp [List.getD_eq_getElem?_getD, List.getElem?_range hj']
      rw [e]
      obtain ⟨ra, rc, a0, r1, r2, r3, _⟩ := hq j hj'
      have f : ∀ i u, ([.int .i64 (q j).kind, .string (q j).name, .int .i64 (q j).pr, .int .i64 (q j).now, .slice ra (q j).rows.length rc] : List Value)[i]? = some u → W.cell? ⟨b, off + j * 5 + i, none⟩ = some u := fun i u hi => by
        have := a0 i u hi
        rw [Go.WideShapes.add_plain] at this
        rw [Nat.add_assoc]
        exact this
      exact ⟨f 0 _ rfl, f 1 _ rfl, f 2 _ rfl, f 3 _ rfl, ra, rc, f 4 _ rfl, r1, r2, r3⟩
end
set_option maxRecDepth 100000 in
theorem ops_argU {H : Type} {enc : TypeId × Value → H} {W : World} {base : Nat} {v : Value} {d : DataW H} {p : List MemPlace} (hv : Value.okWide Try.prog W .any base 22 v) (h : DataW.Trod enc Try.prog W 0 (fun _ => true) true 22 v d p)
    (hsz : Rows.uptoBulk d ≤ 1048576) : ∃ (a : Option Addr) (sc : List Opq) (cap : Nat), v = .slice a sc.length cap ∧ ScR W a sc ∧ (a = none → cap = 0) ∧ sc.length ≤ cap ∧ sc.length ≤ 1048576 ∧ ScN sc := by
  obtain ⟨a, len, cap, rfl⟩ := okWide_slice Try.underlying22 hv
  obtain ⟨fuel, hf⟩ := h
  exact ops_upto (by simpa [Value.cells] using hf) hsz
end Go.Proofs.Ytfbagkajbnomoaa.L
