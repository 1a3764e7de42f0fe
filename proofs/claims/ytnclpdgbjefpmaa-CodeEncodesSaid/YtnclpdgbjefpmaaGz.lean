import Derived.Test.YtnclpdgbjefpmaaGy
import Derived.Test.YtnclpdgbjefpmaaGn
namespace Go.Proofs.Ytnclpdgbjefpmaa.L
open Go.ChangeShapes Go.WideShapes Go.ChangeAt Go.RowKit Go.Joins
set_option linter.unusedVariables false
set_option linter.unusedSimpArgs false
theorem bytesPg : Try.prog.bytesOf 30 = 136 := by kernel_rfl
theorem cellsBl : Try.prog.cellsOf 32 = 1 := by kernel_rfl
theorem bytesBl : Try.prog.bytesOf 32 = 24 := by kernel_rfl
theorem readPl : Try.prog.readableRec 22 = true := by kernel_rfl
theorem rowPl : 22 < Try.prog.types.size := of_decide_eq_true (by kernel_rfl)
theorem readBl : Try.prog.readableRec 41 = true := by kernel_rfl
theorem rowBl : 41 < Try.prog.types.size := of_decide_eq_true (by kernel_rfl)
set_option maxRecDepth 100000 in
set_option maxHeartbeats 1000000 in
theorem prog_in {H : Type} {enc : TypeId × Value → H} {W : World} {fuel : Nat} {cs : Array Value} {d : DataW H} {p : List MemPlace} (hf' : DataW.trod enc Try.prog W 0 (fun _ => true) true fuel 30 cs.toList = some (d, p))
    (hsz : ∀ x ∈ d.weights Try.prog 30, x ≤ reachBytes) : ∃ (q : Pg), PgN W cs q ∧ GdP q := by
  obtain ⟨xs, k, hk2, hxy, hcl, hxl, hff⟩ := DataW.trod_struct Try.underlying30 hf'
  match hce : cs.toList, xs, hxl, hcl with
  | [c0, c1, c2, c3, c4, c5, c6], [y0, y1, y2, y3, y4, y5, y6], _, _ =>
    rw [hce] at hff
    have g0 := hff 0 _ rfl
    have g1 := hff 1 _ rfl
    have g2 := hff 2 _ rfl
    have g3 := hff 3 _ rfl
    have g4 := hff 4 _ rfl
    have g5 := hff 5 _ rfl
    have g6 := hff 6 _ rfl
    simp [cells3, cellsSt, cellsNt, cellsSs, cellsNs, cellsIl] at g0 g1 g2 g3 g4 g5 g6
    have hD : d = .agg [y0.1, y1.1, y2.1, y3.1, y4.1, y5.1, y6.1] := congrArg Prod.fst hxy
    rw [hD] at hsz
    simp only [DataW.weights, Try.underlying30] at hsz
    obtain ⟨a0, l0, c0', rfl, r0, n0, b0⟩ := texts_open (d := y0.1) (p := y0.2) g0 (fun x hx => hsz x (by simp [DataW.weightsEach, hx]))
    obtain ⟨a1, l1, c1', rfl, r1, n1, b1⟩ := nums_open (d := y1.1) (p := y1.2) g1 (fun x hx => hsz x (by simp [DataW.weightsEach, hx]))
    obtain ⟨a2, l2, c2', rfl, r2, n2, b2, e2⟩ := sets_open (d := y2.1) (p := y2.2) g2 (fun x hx => hsz x (by simp [DataW.weightsEach, hx]))
    obtain ⟨a3, l3, c3', rfl, r3, n3, b3, e3⟩ := nsets_open (d := y3.1) (p := y3.2) g3 (fun x hx => hsz x (by simp [DataW.weightsEach, hx]))
    obtain ⟨a4, l4, c4', rfl, r4, n4, b4⟩ := code_open (d := y4.1) (p := y4.2) g4 (fun x hx => hsz x (by simp [DataW.weightsEach, hx]))
    obtain ⟨z5, e5, _⟩ := DataW.trod_int Try.underlying3 g5
    obtain ⟨z6, e6, _⟩ := DataW.trod_int Try.underlying3 g6
    simp at e5 e6
    subst e5 e6
    refine ⟨⟨l0, l1, l2, l3, l4, z5, z6⟩, ⟨a0, c0', a1, c1', a2, c2', a3, c3', a4, c4', ?_, r0, r1, r2, r3, r4, n0, n1, n4⟩, ⟨b0, b1, b2, b3, b4, e2, e3⟩⟩
    apply Array.ext'
    rw [hce]
set_option maxRecDepth 100000 in
set_option maxHeartbeats 1000000 in
theorem progs_open {H : Type} {enc : TypeId × Value → H} {W : World} {fuel : Nat} {v : Value} {d : DataW H} {p : List MemPlace} (h : DataW.trod enc Try.prog W 0 (fun _ => true) true fuel 22 [v] = some (d, p)) (hk : ∀ x ∈ d.weights Try.prog 22, x ≤ reachBytes) :
    ∃ (a : Option Addr) (n : Nat) (cap : Nat), v = .slice a n cap ∧ PgL W a n ∧ n ≤ 140737488355328 := by
  rcases Go.Deep.open_slice Try.underlying22 h with ⟨hv, hx⟩ | ⟨a, len, cap, m, n, D, Pl, hv, hb0, hl, hm, hmm, hx, hc⟩
  · simp at hv
    exact ⟨none, 0, 0, hv, Or.inl rfl, by omega⟩
  · simp at hv
    simp at hmm
    rw [cellsPg] at hc
    have hx1 := congrArg Prod.fst hx
    simp only at hx1
    have hbytes : len ≤ 140737488355328 := by
      subst hmm
      have := hk (m * 136) (by rw [hx1]; simp [DataW.weights, Try.underlying22, bytesPg]; left; omega)
      rw [reach_num] at this
      omega
    have hin : ∀ i, i < len → ∀ x ∈ (D i).weights Try.prog 30, x ≤ reachBytes := by
      intro i hi x hxx
      refine hk x ?_
      rw [hx1]
      have := mem_all (P := Try.prog) (e := 30) (ds := (List.range len).map D) (List.mem_map.2 ⟨i, List.mem_range.2 hi, rfl⟩) hxx
      simp only [DataW.weights, Try.underlying22]
      exact List.mem_cons_of_mem _ (List.mem_append_left _ this)
    have key : ∀ i, i < len → ∃ pv q, PgN W pv q ∧ GdP q ∧ ∀ j, j < 7 → W.cell? ((a.add (i * 7)).add j) = some (pv.getD j undef) := by
      intro i hi
      obtain ⟨cs', h1, h2⟩ := hc i (by omega)
      obtain ⟨_, hlen, hcell⟩ := World.cells?_some h1
      obtain ⟨q, g1, g2⟩ := prog_in (cs := cs'.toArray) (by simpa using h2) (hin i hi)
      refine ⟨cs'.toArray, q, g1, g2, fun j hj => ?_⟩
      rw [hcell j (by omega)]
      simp [Array.getD_eq_getD_getElem?, List.getElem?_eq_getElem (show j < cs'.length by omega)]
    refine ⟨some a, len, cap, by simpa using hv, ?_, hbytes⟩
    by_cases h0 : len = 0
    · exact Or.inl h0
    right
    obtain ⟨b, off, spot⟩ := a
    obtain ⟨_, _, _, _, k0⟩ := key 0 (by omega)
    have k0 := k0 0 (by omega)
    have hspot : spot = none := by simpa [Addr.add] using World.cell?_spot k0
    subst hspot
    refine ⟨b, off, rfl, ?_, fun j hj => ?_⟩
    · rw [Go.WideShapes.add_plain, Go.WideShapes.add_plain] at k0
      exact block_lt k0
    · obtain ⟨pv, q, g1, g2, g3⟩ := key j hj
      have f : ∀ i, i < 7 → W.cell? ⟨b, off + j * 7 + i, none⟩ = some (pv.getD i undef) := fun i hi => by
        have := g3 i hi
        rw [Go.WideShapes.add_plain, Go.WideShapes.add_plain] at this
        exact this
      exact ⟨pv, q, g1, g2, f 0 (by omega), f 1 (by omega), f 2 (by omega), f 3 (by omega), f 4 (by omega), f 5 (by omega), f 6 (by omega)⟩
set_option maxRecDepth 100000 in
theorem progs_arg {H : Type} {enc : TypeId × Value → H} {W : World} {base : Nat} {v : Value} {d : DataW H} {p : List MemPlace} (hv : Value.okWide Try.prog W .any base 22 v) (h : DataW.Trod enc Try.prog W 0 (fun _ => true) true 22 v d p)
    (hsz : ∀ x ∈ d.weights Try.prog 22, x ≤ reachBytes) : ∃ (a : Option Addr) (n : Nat) (cap : Nat), v = .slice a n cap ∧ PgL W a n ∧ n ≤ 140737488355328 := by
  obtain ⟨a, len, cap, rfl⟩ := okWide_slice Try.underlying22 hv
  obtain ⟨fuel, hf⟩ := h
  exact progs_open (by simpa [Value.cells] using hf) hsz
/-- Lists of bytes that came in. -/
def BsL (W : World) (a : Option Addr) (n : Nat) : Prop := n = 0 ∨ ∃ b off, a = some ⟨b, off, none⟩ ∧ b < W.heap.size ∧ ∀ j, j < n → ∃ ea ec l, W.cell? ⟨b, off + j, none⟩ = some (.slice ea (List.length l) ec) ∧ BsN W ea ec l
theorem BsL.low {W W' : World} {a : Option Addr} {n : Nat} (h : BsL W a n) (k : Below W.heap.size W W') : BsL W' a n := by
  rcases h with h | ⟨b, off, rfl, hb, h3⟩
  · exact Or.inl h
  · refine Or.inr ⟨b, off, rfl, Nat.lt_of_lt_of_le hb k.size, fun j hj => ?_⟩
    obtain ⟨ea, ec, l, h1, h2⟩ := h3 j hj
    exact ⟨ea, ec, l, (k.cell hb).trans h1, h2.low k⟩
set_option maxRecDepth 100000 in
theorem bytess_arg {H : Type} {enc : TypeId × Value → H} {W : World} {base : Nat} {v : Value} {d : DataW H} {p : List MemPlace} (hv : Value.okWide Try.prog W .any base 41 v) (h : DataW.Trod enc Try.prog W 0 (fun _ => true) true 41 v d p)
    (hsz : ∀ x ∈ d.weights Try.prog 41, x ≤ reachBytes) : ∃ (a : Option Addr) (n : Nat) (cap : Nat), v = .slice a n cap ∧ BsL W a n ∧ n ≤ 140737488355328 := by
  obtain ⟨a, len, cap, rfl⟩ := okWide_slice Try.underlying41 hv
  obtain ⟨fuel, hf⟩ := h
  have hf' : DataW.trod enc Try.prog W 0 (fun _ => true) true fuel 41 [.slice a len cap] = some (d, p) := by simpa [Value.cells] using hf
  obtain ⟨a', zs, cap', e, r, _, l, ok⟩ := one_open (Prod.fst : Value × List UInt8 → Value) (fun z => ∃ ea ec, z.1 = .slice ea z.2.length ec ∧ BsN W ea ec z.2) Try.underlying41 cellsBl bytesBl (by omega) hf' hsz (fun {_} {u} {_} {_} h2 hk2 => by
    obtain ⟨ea, A, ec, e1, b1⟩ := bytes_open h2 hk2
    exact ⟨(u, A), rfl, ea, ec, e1, b1⟩)
  refine ⟨a', zs.length, cap', e, ?_, l⟩
  rcases r with h0 | ⟨b, off, ha, hb, hc⟩
  · exact Or.inl (by simpa using h0)
  · refine Or.inr ⟨b, off, ha, hb, fun j hj => ?_⟩
    obtain ⟨ea, ec, e2, b2⟩ := ok zs[j] (List.getElem_mem hj)
    refine ⟨ea, ec, zs[j].2, ?_, b2⟩
    rw [hc j (by simpa using hj)]
    simp only [List.getD_eq_getElem?_getD, List.getElem?_map, List.getElem?_eq_getElem hj]
    show some (zs[j].1) = _
    rw [e2]
end Go.Proofs.Ytnclpdgbjefpmaa.L
