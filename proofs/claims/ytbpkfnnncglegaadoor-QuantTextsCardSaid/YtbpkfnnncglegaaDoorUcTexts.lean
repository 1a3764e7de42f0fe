import Derived.Test.YtbpkfnnncglegaaDoorRows
import Derived.Test.YtbpkfnnncglegaaDoorTie
import Derived.Test.YtbpkfnnncglegaaDoorCards
import Derived.Test.YtbpkfnnncglegaaDoorU9
import Derived.Deep.Slices
import Derived.ProofKit
import Derived.LaidMore
import Derived.LaidSub
import Derived.OpenShut
import Derived.SizedLaws
import Derived.Deep.DeepHandedRow
import Derived.Lib.SmallJoins
import Derived.Lib.LaidTab
import Derived.SevenTiedAt
import Derived.Lay
namespace Go.Proofs.YtbpkfnnncglegaaDoor.L
open Go.ChangeShapes Go.WideShapes Go.ChangeAt Go.RowKit Go.Joins Go.ChangeMaps
set_option linter.unusedVariables false
theorem own : ownKnob Tryd.prog.godebug = none := by kernel_rfl
theorem laidOut : laidOutB Tryd.prog = true := by kernel_rfl
theorem cells3 : Tryd.prog.cellsOf 3 = 1 := by kernel_rfl
theorem cells9 : Tryd.prog.cellsOf 9 = 1 := by kernel_rfl
theorem cellsU : Tryd.prog.cellsOf 31 = 1 := by kernel_rfl
theorem cells33 : Tryd.prog.cellsOf 33 = 2 := by kernel_rfl
theorem cells34 : Tryd.prog.cellsOf 34 = 26 := by kernel_rfl
theorem lt_of_cell0 {w : World} {b o : Nat} {v : Value} (h : w.cell? ⟨b, o, none⟩ = some v) : b < w.heap.size := by
  apply Classical.byContradiction
  intro n
  have : w.heap[b]? = none := Array.getElem?_eq_none (by omega)
  simp [World.cell?, this] at h
def unD (i : Nat) : DataW Unit := .agg [.lit (.string (uI i)), .lit (.int .u64 (wI i : Int))]
theorem unD_all : (Rows.laid_berth_quant_units : DataW Unit) = .agg ((List.range 13).map unD) := by kernel_rfl
theorem units_laid {W : World} (h : laidMet Tryd.prog [("berth/quant.units", Rows.laid_berth_quant_units)] W) : ∃ ua, UnW W ua := by
  obtain ⟨ps, ⟨g', t', cs, fuel, p, q, hg', ht', hvar, hd, _, _⟩, _⟩ := h
  have hg : Tryd.prog.globalNamed "berth/quant.units" = some 0 := by kernel_rfl
  have hty : (Tryd.prog.globals[0]?).map (·.type) = some 34 := by kernel_rfl
  obtain rfl := Option.some.inj (hg.symm.trans hg')
  obtain rfl := Option.some.inj (hty.symm.trans ht')
  obtain ⟨xs, m, hm, hx, hlen, hxl, hat⟩ := DataW.trod_array Tryd.underlying34 hd
  rw [cells34] at hlen
  rw [unD_all] at hx
  have hmap : (List.range 13).map unD = xs.map (·.1) := by
    have := congrArg Prod.fst hx
    simpa using this
  have hblk : ∃ t fr, W.heap[0]? = some (.cells cs t fr) := by
    unfold World.var? at hvar
    rw [hg] at hvar
    simp only [Option.bind_some] at hvar
    cases e : W.heap[0]? with
    | none => rw [e] at hvar; cases hvar
    | some o =>
      rw [e] at hvar
      cases o with
      | cells c t fr =>
        simp at hvar
        subst hvar
        exact ⟨t, fr, rfl⟩
      | _ => cases hvar
  refine ⟨cs, hblk, by simpa using hlen, fun k hk => ?_⟩
  have h1 := hat k hk
  rw [cells33] at h1
  have hkx : k < xs.length := by omega
  rw [List.getElem?_eq_getElem hkx] at h1
  have hD : (xs[k]).1 = unD k := by
    have h2 := congrArg (·[k]?) hmap
    simp only [List.getElem?_map, List.getElem?_range hk, List.getElem?_eq_getElem hkx, Option.map_some] at h2
    exact (Option.some.inj h2).symm
  obtain ⟨ys, m2, hm2, hy, hl2, hyl, hf⟩ := DataW.trod_struct Tryd.underlying33 h1
  have hyl2 : ys.length = 2 := hyl
  match ys, hyl2 with
  | [y0, y1], _ =>
    have g0 := hf 0 _ rfl
    have g1 := hf 1 _ rfl
    simp [cells9, cellsU] at g0 g1
    have hy1 := congrArg Prod.fst hy
    rw [hD] at hy1
    simp [unD] at hy1
    obtain ⟨s, e0, f0, _⟩ := DataW.trod_string Tryd.underlying9 g0
    obtain ⟨z, e1, f1, _⟩ := DataW.trod_int Tryd.underlying31 g1
    have hs : y0.1 = .lit (.string s.data.toList) := congrArg Prod.fst f0
    have hz : y1.1 = .lit (.int .u64 z) := congrArg Prod.fst f1
    rw [hs, hz] at hy1
    simp at hy1
    have c0 : cs.toList[k * 2]? = some (.string s) := by
      have := congrArg (·[0]?) e0
      simpa [List.getElem?_take, List.getElem?_drop] using this
    have c1 : cs.toList[k * 2 + 1]? = some (.int .u64 z) := by
      have := congrArg (·[0]?) e1
      simpa [List.getElem?_take, List.getElem?_drop] using this
    refine ⟨?_, ?_⟩
    · have es : s = S (uI k) := by
        rw [hy1.1]
      rw [← es]
      simpa using c0
    · rw [hy1.2]
      simpa using c1
theorem wf_i64b {a : Int} (h : (Lit.int .i64 a).wf = true) : -9223372036854775808 ≤ a ∧ a ≤ 9223372036854775807 := by
  simp [Lit.wf] at h
  exact h
theorem readI : Tryd.prog.readableRec 22 = true := by kernel_rfl
theorem rowI : 22 < Tryd.prog.types.size := of_decide_eq_true (by kernel_rfl)
/-- A slice of numbers, opened. -/
theorem ints_open {H : Type} {enc : TypeId × Value → H} {W : World} {fuel : Nat} {v : Value} {y : DataW H × List MemPlace} (h : DataW.trod enc Tryd.prog W 0 (fun _ => true) true fuel 22 [v] = some y) :
    ∃ zs : List Int, ItemsI W v zs ∧ zs.length ≤ maxLen ∧ ∀ z ∈ zs, -9223372036854775808 ≤ z ∧ z ≤ 9223372036854775807 := by
  rcases open_ints Tryd.underlying22 Tryd.underlying3 cells3 h with ⟨hv, hx⟩ | ⟨a, len, cap, zs, hv, _, hl, hm, hz, hx, hc, hw⟩
  · simp at hv
    exact ⟨[], ⟨none, 0, hv, Or.inl rfl⟩, Nat.zero_le _, fun z hz => by cases hz⟩
  · simp at hv
    subst hv
    simp at hz
    have hlen : (zs.take len).length = len := by rw [List.length_take]; omega
    refine ⟨zs.take len, ⟨some a, cap, by rw [hlen], ?_⟩, by rw [hlen]; exact Nat.le_trans hl hm, fun z hz => wf_i64b (hw z (List.mem_of_mem_take hz))⟩
    by_cases h0 : len = 0
    · exact Or.inl (hlen.trans h0)
    right
    obtain ⟨b, off, spot⟩ := a
    have k0 := hc 0 (by omega)
    have hspot : spot = none := by simpa [Addr.add] using World.cell?_spot k0
    subst hspot
    refine ⟨b, off, rfl, ?_, fun j hj => ?_⟩
    · rw [Go.WideShapes.add_plain] at k0
      exact lt_of_cell0 k0
    · have hj' : j < zs.length := by rw [hlen] at hj; omega
      have := hc j hj'
      rw [Go.WideShapes.add_plain] at this
      rw [this, List.getElem_take, List.getD_eq_getElem?_getD, List.getElem?_eq_getElem hj']
      rfl
set_option maxRecDepth 100000 in
theorem ints_arg {H : Type} {enc : TypeId × Value → H} {W : World} {base : Nat} {v : Value} {d : DataW H} {p : List MemPlace} (hv : Value.okWide Tryd.prog W .any base 22 v) (h : DataW.Trod enc Tryd.prog W 0 (fun _ => true) true 22 v d p) :
    ∃ zs : List Int, ItemsI W v zs ∧ zs.length ≤ maxLen ∧ ∀ z ∈ zs, -9223372036854775808 ≤ z ∧ z ≤ 9223372036854775807 := by
  obtain ⟨a, len, cap, rfl⟩ := okWide_slice Tryd.underlying22 hv
  obtain ⟨fuel, hf⟩ := h
  exact ints_open (y := (d, p)) (by simpa [Value.cells] using hf)
set_option maxRecDepth 100000 in
theorem texts_vars {W : World} (h : laidMetH Tryd.prog Rows.quantTextsRow.laid W) : TabW W ∧ ∃ ua, UnW W ua := by
  have pick : ∀ nm, laidMetH Tryd.prog (Rows.quantTextsRow.laid.filter fun x => x.1 == nm) W := fun nm => h.filter _
  have k1 : laidMet Tryd.prog [("internal/strconv.uint64pow10", Rows.laid_internal_strconv_uint64pow10)] W := pick "internal/strconv.uint64pow10"
  have k2 : laidMet Tryd.prog [("berth/quant.units", Rows.laid_berth_quant_units)] W := pick "berth/quant.units"
  refine ⟨?_, units_laid k2⟩
  exact Lib.tabIs_of_head (rest := []) (g := 1) (t := 50) (by kernel_rfl) (by kernel_rfl) Tryd.underlying50 Tryd.underlying31 (by kernel_rfl) (by kernel_rfl) k1
end Go.Proofs.YtbpkfnnncglegaaDoor.L
namespace Go.Proofs.YtbpkfnnncglegaaDoor.quantTexts
open Go.ChangeShapes Go.WideShapes Go.ChangeAt Go.RowKit Go.Joins Go.ChangeMaps L
set_option linter.unusedVariables false
set_option maxRecDepth 100000 in
theorem contract (H : Type) (enc : TypeId × Value → H) (W : World) (base : Nat) (args : Array Value) (ds gs : List (DataW H)) (before : List MemPlace)
    (hval : ∀ (j : Nat) t v, Tryd.f3.params[j]? = some t → args[j]? = some v → Value.okWide Tryd.prog W .any base t v)
    (hW : DataW.Whole enc Tryd.prog Tryd.f3.params.toList Rows.quantTextsSpec.vars false W args.toList ds gs before)
    (hsz : (DataW.weightsEach Tryd.prog (Tryd.f3.params.toList ++ (OpenSpec.ofChange Rows.quantTextsSpec).bare.plain.varTypes Tryd.prog) (ds ++ gs)).all (· ≤ reachBytes) = true) (hL : laidMetH Tryd.prog Rows.quantTextsRow.laid W) :
    Calls Tryd.prog 3 args W fun e W' => ∃ v, e = .returned v ∧ Rows.quantTextsSpec.post enc Tryd.prog Tryd.f3 false true false false W args v W' := by
  have hW' := hW
  obtain ⟨p, q, hA0, hV, rfl, hfz, hnd⟩ := hW
  have hA : DataW.TrodAll enc Tryd.prog W 0 (fun _ => true) true Tryd.f3.params.toList args.toList ds p := hA0
  have hsz' : (DataW.weightsEach Tryd.prog (Tryd.f3.params.toList ++ []) (ds ++ gs)).all (fun x => decide (x ≤ reachBytes)) = true := hsz
  rw [Tryd.params3] at hA hval hsz'
  obtain ⟨v0, vs0, d0, ds0, p0, q0, hargs, rfl, rfl, h0, r0⟩ := trodAll_cons hA
  obtain ⟨rfl, rfl, rfl⟩ := trodAll_nil r0
  obtain rfl : args = #[v0] := by cases args; simp_all
  obtain ⟨rfl, rfl⟩ := trodVars_none hV
  clear hA0 hsz
  simp only [List.append_nil] at hW' hsz'
  have hlt1 : ∀ x ∈ p0, x.block < W.heap.size := fun x hx => hW'.lt x (by simp [hx])
  obtain ⟨zs, iI, lI, bI⟩ := ints_arg (hval 0 22 v0 rfl rfl) h0
  obtain ⟨tb, ua, hu⟩ := texts_vars hL
  refine (texts_law v0 zs W iI lI bI tb ua hu).mono fun e W' ⟨he, hb⟩ => ?_
  subst he
  refine ⟨_, rfl, [d0], [], p0, [], p0, [], by simpa using hW', ?_, ?_, ?_, hb.frame _, fun h => by cases h⟩
  · exact trodAll_cons_mk (shut_bool Tryd.underlying4 _) trodAll_mk0
  · have := trodAll_cons_mk (Below.trod laidOut readI rowI h0 hb hlt1) (trodAll_mk0 (P := Tryd.prog) (enc := enc) (w := W') (base := 0) (spare := fun b => decide (b < W.heap.size)) (held := true))
    rw [List.append_nil] at this
    exact this
  · rfl
theorem laid_met (os : Os) : laidMetH Tryd.prog Rows.quantTextsRow.laid ((World.laidAll Tryd.prog os Rows.quantTextsRow.laid).forCall (fun _ _ => 0) ⟨#[], #[.slice none 0 0], []⟩).memory := by
  rw [MakeChecks.laidMetH_plain _ _ _ (by kernel_rfl)]
  exact laidMet_laidAll _ (by kernel_rfl) (by kernel_rfl)
theorem reads (os : Os) {H : Type} (enc : TypeId × Value → H) : ∃ places, DataW.whole enc Tryd.prog ((World.laidAll Tryd.prog os Rows.quantTextsRow.laid).forCall (fun _ _ => 0) ⟨#[], #[.slice none 0 0], []⟩).memory Tryd.f3.params.toList Rows.quantTextsSpec.vars false #[Value.slice none 0 0].toList 8 = some ([.nil], [], places) :=
  ⟨[], by kernel_rfl⟩
set_option maxRecDepth 100000 in
theorem lifted (os : Os) (started : os.Started) (H : Type) (enc : TypeId × Value → H) (F : Stop.Interp) :
    ReturnsInHanded {} Tryd.checked os 3 .any ((OpenSpec.ofChange Rows.quantTextsSpec).preRow enc Tryd.prog Tryd.f3 Rows.quantTextsRow.domain false Rows.quantTextsRow.laid) (((OpenSpec.ofChange Rows.quantTextsSpec).at F).post enc Tryd.prog Tryd.f3 false true false false) := by
  obtain ⟨places, hx⟩ := reads os enc
  refine returnsInHanded_of_row (C := Tryd.checked) (s := OpenSpec.ofChange Rows.quantTextsSpec) own started (by kernel_rfl) Tryd.func3
    (witness_row_at (enc := enc) (C := Tryd.checked) false (World.laidAll Tryd.prog os Rows.quantTextsRow.laid) #[.slice none 0 0] (World.laidAll_os _ _ _) (by kernel_rfl) (by kernel_rfl) (by kernel_rfl)
      (OpenSpec.preRow_of_cond 8 hx (by kernel_rfl) (fun k hk => by cases hk) (by kernel_rfl) (laid_met os))) ?_
  intro W base args ds gs before hval hW _ _ hsz hL _ _
  exact contract H enc W base args ds gs before hval hW hsz hL
theorem said : Rows.QuantTextsSaid :=
  OpenClaim.holds_of_cond 3 Tryd.f3 rfl rfl rfl rfl rfl rfl rfl ⟨rfl, rfl, rfl, rfl, rfl⟩ rfl rfl rfl rfl rfl (by kernel_rfl) Tryd.func3 (by kernel_rfl)
    (of_decide_eq_true (by kernel_rfl)) (by unfold Func.isWrapper; first | (rw [if_pos (by decide +kernel)]; kernel_rfl) | (rw [if_neg (by decide +kernel)]; exact ⟨rfl, rfl⟩))
    (fun os started H enc _ F => by rw [OpenClaim.pre_eq_preRow]; exact lifted os started H enc F)
theorem plain (f : FuncId) (fn : Func) (hf : Tryd.pinned.checked.prog.funcNamed "berth/berthlaw02.QuantTexts" = some f) (hfn : Tryd.pinned.checked.prog.funcs[f]? = some fn) :
    false = Tryd.pinned.checked.prog.looks [] ∧ ∀ (j : Nat) t, fn.params[j]? = some t → Tryd.pinned.checked.prog.wantsStandIn t = false := by
  obtain rfl : f = 3 := Option.some.inj ((show Tryd.prog.funcNamed "berth/berthlaw02.QuantTexts" = some 3 by kernel_rfl).symm.trans hf) |>.symm
  obtain rfl : fn = Tryd.f3 := (Option.some.inj (Tryd.func3.symm.trans hfn)).symm
  refine ⟨by kernel_rfl, fun j t ht => ?_⟩
  rw [Tryd.params3] at ht
  have hm : t ∈ [22] := by simpa using Array.mem_of_getElem? ht
  have hall : ([22].all fun u => !Tryd.prog.wantsStandIn u) = true := by kernel_rfl
  exact (show Tryd.prog.wantsStandIn t = false by simpa using List.all_eq_true.1 hall t hm)
/-- THE CARD. -/
theorem card : Rows.QuantTextsCardSaid :=
  Claim7.holds_tied_plain_at .later [] _ _ _ _ said (fun _ h => by cases h) (by kernel_rfl) (fun _ h => by cases h) quantTexts_row_tie rfl ⟨rfl, rfl⟩ (by kernel_rfl) rfl plain (by kernel_rfl)
end Go.Proofs.YtbpkfnnncglegaaDoor.quantTexts
namespace Go.Proofs.YtbpkfnnncglegaaDoor
/-- THE STATEMENT, AS IT IS HANDED IN. -/
theorem quantTexts_card : Rows.QuantTextsCardSaid := quantTexts.card
end Go.Proofs.YtbpkfnnncglegaaDoor
