import Derived.Test.YtdhjoimiejdgbaaDoorSop
import Derived.Test.YtdhjoimiejdgbaaDoorFi2
namespace Go.Proofs.YtdhjoimiejdgbaaDoor.L
open Go.ChangeShapes Go.WideShapes Go.ChangeAt Go.RowKit Go.Joins Go.ChangeMaps
set_option linter.unusedVariables false
theorem wf_i64b {a : Int} (h : (Lit.int .i64 a).wf = true) : -9223372036854775808 ≤ a ∧ a ≤ 9223372036854775807 := by
  simp [Lit.wf] at h
  exact h
theorem readI : Tryd.prog.readableRec 84 = true := by kernel_rfl
theorem rowI : 84 < Tryd.prog.types.size := of_decide_eq_true (by kernel_rfl)
/-- A slice of numbers, opened. -/
theorem ints_open {H : Type} {enc : TypeId × Value → H} {W : World} {fuel : Nat} {v : Value} {y : DataW H × List MemPlace} (h : DataW.trod enc Tryd.prog W 0 (fun _ => true) true fuel 84 [v] = some y) :
    ∃ zs : List Int, ItemsI W v zs ∧ zs.length ≤ maxLen ∧ ∀ z ∈ zs, -9223372036854775808 ≤ z ∧ z ≤ 9223372036854775807 := by
  rcases open_ints Tryd.underlying84 Tryd.underlying3 cells3 h with ⟨hv, hx⟩ | ⟨a, len, cap, zs, hv, _, hl, hm, hz, hx, hc, hw⟩
  · simp at hv
    exact ⟨[], ⟨none, 0, hv, Or.inl rfl⟩, Nat.zero_le _, fun z hz => by cases hz⟩
  · simp at hv
    subst hv
    simp at hz
    have hlen : (zs.take len).length = len := by rw [List.length_take]; omega
    refine ⟨zs.take len, ⟨some a, cap, by rw [hlen], ?_⟩, by rw [hlen]; exact Nat.le_trans hl hm, fun z hz => wf_i64b (hw z (List.mem_of_mem_take hz))⟩
    by_cases h0 : len = 0
    · exact Or.inl (hlen.trans h0)
    right
    obtain ⟨b, off, spot⟩ := a
    have k0 := hc 0 (by omega)
    have hspot : spot = none := by simpa [Addr.add] using World.cell?_spot k0
    subst hspot
    refine ⟨b, off, rfl, ?_, fun j hj => ?_⟩
    · rw [Go.WideShapes.add_plain] at k0
      exact lt_of_cell0 k0
    · have hj' : j < zs.length := by rw [hlen] at hj; omega
      have := hc j hj'
      rw [Go.WideShapes.add_plain] at this
      rw [this, List.getElem_take, List.getD_eq_getElem?_getD, List.getElem?_eq_getElem hj']
      rfl
set_option maxRecDepth 100000 in
theorem ints_arg {H : Type} {enc : TypeId × Value → H} {W : World} {base : Nat} {v : Value} {d : DataW H} {p : List MemPlace} (hv : Value.okWide Tryd.prog W .any base 84 v) (h : DataW.Trod enc Tryd.prog W 0 (fun _ => true) true 84 v d p) :
    ∃ zs : List Int, ItemsI W v zs ∧ zs.length ≤ maxLen ∧ ∀ z ∈ zs, -9223372036854775808 ≤ z ∧ z ≤ 9223372036854775807 := by
  obtain ⟨a, len, cap, rfl⟩ := okWide_slice Tryd.underlying84 hv
  obtain ⟨fuel, hf⟩ := h
  exact ints_open (y := (d, p)) (by simpa [Value.cells] using hf)
set_option maxRecDepth 100000 in
theorem fills_vars {W : World} (h : laidMetH Tryd.prog Rows.slotsFillsRow.laid W) : Tab W ∧ Pw W := by
  have pick : ∀ nm, laidMetH Tryd.prog (Rows.slotsFillsRow.laid.filter fun x => x.1 == nm) W := fun nm => h.filter _
  have k1 : laidMet Tryd.prog [("internal/strconv.uint64pow10", Rows.laid_internal_strconv_uint64pow10)] W := pick "internal/strconv.uint64pow10"
  have k2 : laidMet Tryd.prog [("math/bits.deBruijn64tab", Rows.laid_math_bits_deBruijn64tab)] W := pick "math/bits.deBruijn64tab"
  refine ⟨tab_is (Lib.tabIs_of_head (rest := []) gTab gTabType Tryd.underlying157 Tryd.underlying5 cells5 cellsA k2), ?_⟩
  exact Lib.tabIs_of_head (rest := []) (g := 0) (t := 154) (by kernel_rfl) (by kernel_rfl) Tryd.underlying154 Tryd.underlying129 (by kernel_rfl) (by kernel_rfl) k1
end Go.Proofs.YtdhjoimiejdgbaaDoor.L
namespace Go.Proofs.YtdhjoimiejdgbaaDoor.slotsFills
open Go.ChangeShapes Go.WideShapes Go.ChangeAt Go.RowKit Go.Joins Go.ChangeMaps L
set_option linter.unusedVariables false
set_option maxRecDepth 100000 in
theorem contract (H : Type) (enc : TypeId × Value → H) (W : World) (base : Nat) (args : Array Value) (ds gs : List (DataW H)) (before : List MemPlace)
    (hval : ∀ (j : Nat) t v, Tryd.f6.params[j]? = some t → args[j]? = some v → Value.okWide Tryd.prog W .any base t v)
    (hW : DataW.Whole enc Tryd.prog Tryd.f6.params.toList Rows.slotsFillsSpec.vars false W args.toList ds gs before)
    (hsz : (DataW.weightsEach Tryd.prog (Tryd.f6.params.toList ++ (OpenSpec.ofChange Rows.slotsFillsSpec).bare.plain.varTypes Tryd.prog) (ds ++ gs)).all (· ≤ reachBytes) = true) (hL : laidMetH Tryd.prog Rows.slotsFillsRow.laid W) :
    Calls Tryd.prog 6 args W fun e W' => ∃ v, e = .returned v ∧ Rows.slotsFillsSpec.post enc Tryd.prog Tryd.f6 false true false false W args v W' := by
  have hW' := hW
  obtain ⟨p, q, hA0, hV, rfl, hfz, hnd⟩ := hW
  have hA : DataW.TrodAll enc Tryd.prog W 0 (fun _ => true) true Tryd.f6.params.toList args.toList ds p := hA0
  have hsz' : (DataW.weightsEach Tryd.prog (Tryd.f6.params.toList ++ []) (ds ++ gs)).all (fun x => decide (x ≤ reachBytes)) = true := hsz
  rw [Tryd.params6] at hA hval hsz'
  obtain ⟨v0, vs0, d0, ds0, p0, q0, hargs, rfl, rfl, h0, r0⟩ := trodAll_cons hA
  obtain ⟨v1, vs1, d1, ds1, p1, q1, hargs1, rfl, rfl, h1, r1⟩ := trodAll_cons r0
  obtain ⟨rfl, rfl, rfl⟩ := trodAll_nil r1
  obtain rfl : args = #[v0, v1] := by cases args; simp_all
  obtain ⟨rfl, rfl⟩ := trodVars_none hV
  clear hA0 hsz
  simp only [List.append_nil] at hW' hsz'
  have hlt1 : ∀ x ∈ p1, x.block < W.heap.size := fun x hx => hW'.lt x (by simp [hx])
  obtain ⟨n, rfl, rfl, rfl, wn⟩ := open_int Tryd.underlying3 (hval 0 3 v0 rfl rfl) h0
  obtain ⟨zs, iI, lI, bI⟩ := ints_arg (hval 1 84 v1 rfl rfl) h1
  obtain ⟨tb, pw⟩ := fills_vars hL
  refine (fills_law n v1 zs W iI lI bI tb pw).mono fun e W' ⟨he, hb⟩ => ?_
  subst he
  refine ⟨_, rfl, [.lit (.int .i64 n), d1], [], p1, [], p1, [], by simpa using hW', ?_, ?_, ?_, hb.frame _, fun h => by cases h⟩
  · exact trodAll_cons_mk (shut_bool Tryd.underlying4 _) trodAll_mk0
  · have := trodAll_cons_mk (shut_int Tryd.underlying3 wn) (trodAll_cons_mk (Below.trod laidOut readI rowI h1 hb hlt1) (trodAll_mk0 (P := Tryd.prog) (enc := enc) (w := W') (base := 0) (spare := fun b => decide (b < W.heap.size)) (held := true)))
    rw [List.append_nil] at this
    exact this
  · rfl
theorem laid_met (os : Os) : laidMetH Tryd.prog Rows.slotsFillsRow.laid ((World.laidAll Tryd.prog os Rows.slotsFillsRow.laid).forCall (fun _ _ => 0) ⟨#[], #[.int .i64 0, .slice none 0 0], []⟩).memory := by
  rw [MakeChecks.laidMetH_plain _ _ _ (by kernel_rfl)]
  exact laidMet_laidAll _ (by kernel_rfl) (by kernel_rfl)
theorem reads (os : Os) {H : Type} (enc : TypeId × Value → H) : ∃ places, DataW.whole enc Tryd.prog ((World.laidAll Tryd.prog os Rows.slotsFillsRow.laid).forCall (fun _ _ => 0) ⟨#[], #[.int .i64 0, .slice none 0 0], []⟩).memory Tryd.f6.params.toList Rows.slotsFillsSpec.vars false #[Value.int .i64 0, .slice none 0 0].toList 8 = some ([.lit (.int .i64 0), .nil], [], places) :=
  ⟨[], by kernel_rfl⟩
set_option maxRecDepth 100000 in
theorem lifted (os : Os) (started : os.Started) (H : Type) (enc : TypeId × Value → H) (F : Stop.Interp) :
    ReturnsInHanded {} Tryd.checked os 6 .any ((OpenSpec.ofChange Rows.slotsFillsSpec).preRow enc Tryd.prog Tryd.f6 Rows.slotsFillsRow.domain false Rows.slotsFillsRow.laid) (((OpenSpec.ofChange Rows.slotsFillsSpec).at F).post enc Tryd.prog Tryd.f6 false true false false) := by
  obtain ⟨places, hx⟩ := reads os enc
  refine returnsInHanded_of_row (C := Tryd.checked) (s := OpenSpec.ofChange Rows.slotsFillsSpec) own started (by kernel_rfl) Tryd.func6
    (witness_row_at (enc := enc) (C := Tryd.checked) false (World.laidAll Tryd.prog os Rows.slotsFillsRow.laid) #[.int .i64 0, .slice none 0 0] (World.laidAll_os _ _ _) (by kernel_rfl) (by kernel_rfl) (by kernel_rfl)
      (OpenSpec.preRow_of_cond 8 hx (by kernel_rfl) (fun k hk => by cases hk) (by kernel_rfl) (laid_met os))) ?_
  intro W base args ds gs before hval hW _ _ hsz hL _ _
  exact contract H enc W base args ds gs before hval hW hsz hL
theorem said : Rows.SlotsFillsSaid :=
  OpenClaim.holds_of_cond 6 Tryd.f6 rfl rfl rfl rfl rfl rfl rfl ⟨rfl, rfl, rfl, rfl, rfl⟩ rfl rfl rfl rfl rfl (by kernel_rfl) Tryd.func6 (by kernel_rfl)
    (of_decide_eq_true (by kernel_rfl)) (by unfold Func.isWrapper; first | (rw [if_pos (by decide +kernel)]; kernel_rfl) | (rw [if_neg (by decide +kernel)]; exact ⟨rfl, rfl⟩))
    (fun os started H enc _ F => by rw [OpenClaim.pre_eq_preRow]; exact lifted os started H enc F)
theorem plain (f : FuncId) (fn : Func) (hf : Tryd.pinned.checked.prog.funcNamed "berth/berthlaw05.SlotsFills" = some f) (hfn : Tryd.pinned.checked.prog.funcs[f]? = some fn) :
    true = Tryd.pinned.checked.prog.looks [] ∧ ∀ (j : Nat) t, fn.params[j]? = some t → Tryd.pinned.checked.prog.wantsStandIn t = false := by
  obtain rfl : f = 6 := Option.some.inj ((show Tryd.prog.funcNamed "berth/berthlaw05.SlotsFills" = some 6 by kernel_rfl).symm.trans hf) |>.symm
  obtain rfl : fn = Tryd.f6 := (Option.some.inj (Tryd.func6.symm.trans hfn)).symm
  refine ⟨by kernel_rfl, fun j t ht => ?_⟩
  rw [Tryd.params6] at ht
  have hm : t ∈ [3, 84] := by simpa using Array.mem_of_getElem? ht
  have hall : ([3, 84].all fun u => !Tryd.prog.wantsStandIn u) = true := by kernel_rfl
  exact (show Tryd.prog.wantsStandIn t = false by simpa using List.all_eq_true.1 hall t hm)
/-- THE CARD. -/
theorem card : Rows.SlotsFillsCardSaid :=
  Claim7.holds_tied_plain_at .later [] _ _ _ _ said (fun _ h => by cases h) (by kernel_rfl) (fun _ h => by cases h) slotsFills_row_tie rfl ⟨rfl, rfl⟩ (by kernel_rfl) rfl plain (by kernel_rfl)
end Go.Proofs.YtdhjoimiejdgbaaDoor.slotsFills
namespace Go.Proofs.YtdhjoimiejdgbaaDoor
/-- THE STATEMENT, AS IT IS HANDED IN. -/
theorem slotsFills_card : Rows.SlotsFillsCardSaid := slotsFills.card
end Go.Proofs.YtdhjoimiejdgbaaDoor
