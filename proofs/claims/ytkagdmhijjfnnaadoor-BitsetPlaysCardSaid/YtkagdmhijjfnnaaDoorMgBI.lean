import Derived.Test.YtkagdmhijjfnnaaDoorMgBH
import Derived.Deep.Slices
import Derived.Test.YtkagdmhijjfnnaaDoorMgBB
namespace Go.Proofs.YtkagdmhijjfnnaaDoor
open Go.ChangeShapes Go.WideShapes Go.ChangeAt Go.RowKit Go.Joins Bs
set_option linter.unusedVariables false
theorem wf_i64 {a : Int} (h : (Lit.int .i64 a).wf = true) : -9223372036854775808 ≤ a ∧ a ≤ 9223372036854775807 := by
  simp [Lit.wf] at h
  exact h
theorem wf_u64 {a : Int} (h : (Lit.int .u64 a).wf = true) : 0 ≤ a ∧ a < 18446744073709551616 := by
  simp [Lit.wf] at h
  have e1 : IntKind.u64.min = 0 := by decide
  have e2 : IntKind.u64.max = 18446744073709551615 := by decide
  omega
theorem cells59 : Tryd.prog.cellsOf 59 = 1 := by kernel_rfl
theorem bytes59 : Tryd.prog.bytesOf 59 = 8 := by kernel_rfl
theorem cellsOp : Tryd.prog.cellsOf 37 = 7 := by kernel_rfl
theorem cellsLI : Tryd.prog.cellsOf 28 = 1 := by kernel_rfl
theorem cellsLW : Tryd.prog.cellsOf 35 = 1 := by kernel_rfl
theorem readS : Tryd.prog.readableRec 22 = true := by kernel_rfl
theorem rowS : 22 < Tryd.prog.types.size := of_decide_eq_true (by kernel_rfl)
theorem in_ints {H : Type} {enc : TypeId × Value → H} {W : World} {fuel : Nat} {v : Value} {y : DataW H × List MemPlace} (h : DataW.trod enc Tryd.prog W 0 (fun _ => true) true fuel 28 [v] = some y) (hsz : ∀ x ∈ y.1.weights Tryd.prog 28, x ≤ reachBytes) : ∃ zs : List Int, HoldsG W v zs ∧ zs.length ≤ 17592186043904 := by
  rcases open_ints Tryd.underlying28 Tryd.underlying3 cells3 h with ⟨hv, hx⟩ | ⟨a, len, cap, zs, hv, _, hl, hm, hz, hx, hc, hw⟩
  · simp at hv
    exact ⟨[], Or.inl ⟨Or.inl ⟨hv, rfl⟩⟩, by decide⟩
  · simp at hv
    subst hv
    simp at hz
    have hlen : (zs.take len).length = len := by rw [List.length_take]; omega
    have hb := reach_ints (zs := zs.take len) hsz (Or.inl ⟨_, _, by rw [hx], by simp [lits]⟩)
    by_cases h0 : len = 0
    · subst h0
      exact ⟨[], Or.inr ⟨rfl, _, cap, rfl⟩, by decide⟩
    · obtain ⟨b, off, rfl, hc'⟩ := ints_at hc (by omega)
      refine ⟨zs.take len, Or.inl ⟨Or.inr ⟨b, off, cap, by rw [hlen], fun j hj => ?_⟩⟩, by omega⟩
      rw [hlen] at hj
      rw [hc' j (by omega)]
      simp [hj]
theorem in_words {H : Type} {enc : TypeId × Value → H} {W : World} {fuel : Nat} {v : Value} {y : DataW H × List MemPlace} (h : DataW.trod enc Tryd.prog W 0 (fun _ => true) true fuel 35 [v] = some y) (hsz : ∀ x ∈ y.1.weights Tryd.prog 35, x ≤ reachBytes) : ∃ us : List Nat, HoldsWG W v us ∧ Wd us ∧ us.length ≤ 17592186043904 := by
  rcases open_ints Tryd.underlying35 Tryd.underlying59 cells59 h with ⟨hv, hx⟩ | ⟨a, len, cap, zs, hv, _, hl, hm, hz, hx, hc, hw⟩
  · simp at hv
    exact ⟨[], Or.inl ⟨Or.inl ⟨hv, rfl⟩⟩, (fun x hx => by cases hx), by decide⟩
  · simp at hv
    subst hv
    simp at hz
    have hbb : (cap : Nat) * 8 ≤ 140737488351232 := by
      have := hsz (zs.length * 8) (by rw [hx]; simp [DataW.weights, Tryd.underlying35, bytes59, lits]; left; omega)
      rw [reach_num] at this
      omega
    by_cases h0 : len = 0
    · subst h0
      exact ⟨[], Or.inr ⟨rfl, _, cap, rfl⟩, (fun x hx => by cases hx), by decide⟩
    · obtain ⟨b, off, rfl, hc'⟩ := ints_at hc (by omega)
      have hlen : ((zs.take len).map Int.toNat).length = len := by rw [List.length_map, List.length_take]; omega
      refine ⟨(zs.take len).map Int.toNat, Or.inl ⟨Or.inr ⟨b, off, cap, by rw [hlen], fun j hj => ?_⟩⟩, fun x hx => ?_, by omega⟩
      · rw [hlen] at hj
        rw [hc' j (by omega)]
        have hz' : j < zs.length := by omega
        have wz := wf_u64 (hw zs[j] (List.getElem_mem hz'))
        have e1 : zs.getD j 0 = zs[j] := getD_at hz'
        have e2 : ((zs.take len).map Int.toNat).getD j 0 = zs[j].toNat := by
          rw [List.getD_eq_getElem?_getD, List.getElem?_map, List.getElem?_take, if_pos hj, List.getElem?_eq_getElem hz']
          rfl
        rw [e1, e2]
        congr 2
        omega
      · obtain ⟨z, hz9, rfl⟩ := List.mem_map.1 hx
        have := wf_u64 (hw z (List.mem_of_mem_take hz9))
        omega
set_option maxRecDepth 100000 in
theorem op_cells {H : Type} {enc : TypeId × Value → H} {W : World} {fuel : Nat} {cl : List Value} {d : DataW H} {p : List MemPlace} (hf' : DataW.trod enc Tryd.prog W 0 (fun _ => true) true fuel 37 cl = some (d, p)) (hlen : cl.length = 7)
    (hsz : ∀ x ∈ d.weights Tryd.prog 37, x ≤ reachBytes) : ∃ (k oa ob oc oi : Int) (vL vW : Value), cl = [.int .i64 k, .int .i64 oa, .int .i64 ob, .int .i64 oc, .int .i64 oi, vL, vW] ∧ In W vL vW ∧ oi ≤ 9223372036854775807 := by
  obtain ⟨xs, k, hk, hxy, _, hxl, hfl⟩ := DataW.trod_struct Tryd.underlying37 hf'
  match xs, hxl, cl, hlen with
  | [y0, y1, y2, y3, y4, y5, y6], _, [v0, v1, v2, v3, v4, v5, v6], _ =>
    have g0 := hfl 0 _ rfl
    have g1 := hfl 1 _ rfl
    have g2 := hfl 2 _ rfl
    have g3 := hfl 3 _ rfl
    have g4 := hfl 4 _ rfl
    have g5 := hfl 5 _ rfl
    have g6 := hfl 6 _ rfl
    simp [cells3, cellsLI, cellsLW] at g0 g1 g2 g3 g4 g5 g6
    have hD : d = .agg [y0.1, y1.1, y2.1, y3.1, y4.1, y5.1, y6.1] := congrArg Prod.fst hxy
    rw [hD] at hsz
    simp only [DataW.weights, Tryd.underlying37] at hsz
    obtain ⟨k0, e0, _, _⟩ := DataW.trod_int Tryd.underlying3 g0
    obtain ⟨k1, e1, _, _⟩ := DataW.trod_int Tryd.underlying3 g1
    obtain ⟨k2, e2, _, _⟩ := DataW.trod_int Tryd.underlying3 g2
    obtain ⟨k3, e3, _, _⟩ := DataW.trod_int Tryd.underlying3 g3
    obtain ⟨k4, e4, _, w4⟩ := DataW.trod_int Tryd.underlying3 g4
    simp at e0 e1 e2 e3 e4
    subst e0 e1 e2 e3 e4
    obtain ⟨zs, hz, hzl⟩ := in_ints g5 (fun x hx => hsz x (by simp [DataW.weightsEach, hx]))
    obtain ⟨us, hu, wd, hul⟩ := in_words g6 (fun x hx => hsz x (by simp [DataW.weightsEach, hx]))
    exact ⟨k0, k1, k2, k3, k4, v5, v6, rfl, ⟨⟨zs, hz, hzl⟩, ⟨us, hu, wd, hul⟩⟩, (wf_i64 w4).2⟩
theorem mem_all {H : Type} {P : Program} {e : TypeId} {ds : List (DataW H)} {d : DataW H} (h : d ∈ ds) {x : Nat} (hx : x ∈ d.weights P e) : x ∈ DataW.weightsAll P e ds := by
  induction ds with
  | nil => cases h
  | cons y r ih =>
    rw [DataW.weightsAll, List.mem_append]
    rcases List.mem_cons.1 h with rfl | h
    · exact Or.inl hx
    · exact Or.inr (ih h)
set_option maxRecDepth 100000 in
set_option maxHeartbeats 1000000 in
theorem ops_open {H : Type} {enc : TypeId × Value → H} {W : World} {fuel : Nat} {v : Value} {y : DataW H × List MemPlace} (h : DataW.trod enc Tryd.prog W 0 (fun _ => true) true fuel 22 [v] = some y)
    (hsz : ∀ x ∈ y.1.weights Tryd.prog 22, x ≤ reachBytes) : ∃ a len cap, v = .slice a len cap ∧ List7 W a len := by
  rcases Go.Deep.open_slice Tryd.underlying22 h with ⟨hv, hx⟩ | ⟨a, len, cap, m, n, D, Pl, hv, hb, hl, hm, hmm, hx, hc⟩
  · simp at hv
    exact ⟨none, 0, 0, hv, Nat.zero_le _, Or.inl rfl⟩
  · simp at hv
    simp at hmm
    refine ⟨some a, len, cap, hv, Nat.le_trans hl hm, ?_⟩
    by_cases h0 : len = 0
    · exact Or.inl h0
    right
    rw [cellsOp] at hc
    have hin : ∀ i, i < len → ∀ x ∈ (D i).weights Tryd.prog 37, x ≤ reachBytes := by
      intro i hi x hxx
      refine hsz x ?_
      rw [hx]
      have := mem_all (P := Tryd.prog) (e := 37) (ds := (List.range len).map D) (List.mem_map.2 ⟨i, List.mem_range.2 hi, rfl⟩) hxx
      simp only [DataW.weights, Tryd.underlying22]
      exact List.mem_cons_of_mem _ (List.mem_append_left _ this)
    have key : ∀ i, i < len → ∃ (k oa ob oc oi : Int) (vL vW : Value), (W.cell? (a.add (i * 7)) = some (.int .i64 k) ∧ W.cell? (a.add (i * 7 + 1)) = some (.int .i64 oa) ∧ W.cell? (a.add (i * 7 + 2)) = some (.int .i64 ob) ∧ W.cell? (a.add (i * 7 + 3)) = some (.int .i64 oc) ∧ W.cell? (a.add (i * 7 + 4)) = some (.int .i64 oi) ∧ W.cell? (a.add (i * 7 + 5)) = some vL ∧ W.cell? (a.add (i * 7 + 6)) = some vW) ∧ In W vL vW ∧ oi ≤ 9223372036854775807 := by
      intro i hi
      obtain ⟨cs', h1, h2⟩ := hc i (by omega)
      obtain ⟨_, hlen, hcell⟩ := World.cells?_some h1
      obtain ⟨k, oa, ob, oc, oi, vL, vW, rfl, r⟩ := op_cells h2 hlen (hin i hi)
      have f0 := hcell 0 (by omega)
      have f1 := hcell 1 (by omega)
      have f2 := hcell 2 (by omega)
      have f3 := hcell 3 (by omega)
      have f4 := hcell 4 (by omega)
      have f5 := hcell 5 (by omega)
      have f6 := hcell 6 (by omega)
      rw [Go.Deep.add_add] at f0 f1 f2 f3 f4 f5 f6
      exact ⟨k, oa, ob, oc, oi, vL, vW, ⟨by simpa using f0, by simpa using f1, by simpa using f2, by simpa using f3, by simpa using f4, by simpa using f5, by simpa using f6⟩, r⟩
    obtain ⟨b, off, spot⟩ := a
    obtain ⟨_, _, _, _, _, _, _, ⟨k0, _⟩, _⟩ := key 0 (by omega)
    have hspot : spot = none := by simpa [Addr.add] using World.cell?_spot k0
    subst hspot
    refine ⟨b, off, rfl, ?_, fun j hj => ?_⟩
    · rw [Go.WideShapes.add_plain] at k0
      exact block_lt_of_cell k0
    · obtain ⟨k, oa, ob, oc, oi, vL, vW, ⟨a0, a1, a2, a3, a4, a5, a6⟩, r⟩ := key j hj
      rw [Go.WideShapes.add_plain] at a0 a1 a2 a3 a4 a5 a6
      exact ⟨k, oa, ob, oc, oi, vL, vW, ⟨a0, by rw [Nat.add_assoc]; exact a1, by rw [Nat.add_assoc]; exact a2, by rw [Nat.add_assoc]; exact a3, by rw [Nat.add_assoc]; exact a4, by rw [Nat.add_assoc]; exact a5, by rw [Nat.add_assoc]; exact a6⟩, r⟩
set_option maxRecDepth 100000 in
theorem ops_arg {H : Type} {enc : TypeId × Value → H} {W : World} {base : Nat} {v : Value} {d : DataW H} {p : List MemPlace} (hv : Value.okWide Tryd.prog W .any base 22 v) (h : DataW.Trod enc Tryd.prog W 0 (fun _ => true) true 22 v d p)
    (hsz : ∀ x ∈ d.weights Tryd.prog 22, x ≤ reachBytes) : ∃ a len cap, v = .slice a len cap ∧ List7 W a len := by
  obtain ⟨a, len, cap, rfl⟩ := okWide_slice Tryd.underlying22 hv
  obtain ⟨fuel, hf⟩ := h
  exact ops_open (y := (d, p)) (by simpa [Value.cells] using hf) hsz
end Go.Proofs.YtkagdmhijjfnnaaDoor
namespace Go.Proofs.YtkagdmhijjfnnaaDoor
open Go.RowKit Bs
set_option linter.unusedVariables false
theorem walk_o {v : Value} {q n : Nat} {S : Nat → Bool} (ms : List Int) (w : World) (h : SO w v q n S) (ht : Tab w) (hms : MsOf n S ms) (hL : ms.length ≤ 65536) :
    Calls Tryd.prog 90 #[v, .int .i64 (ms.length : Int)] w fun e w' => ∃ v', e = .returned v' ∧ OwnI w' w.heap.size v' ms ∧ Below w.heap.size w w' := by
  rcases h with ⟨rfl, rfl, hS⟩ | ⟨p, rfl, h⟩
  · have e : ms = [] := List.eq_nil_of_length_eq_zero (by rw [hms.len]; rfl)
    subst e
    refine (walk_nil _ w ht).mono ?_
    rintro e w' ⟨rfl, hb⟩
    exact ⟨_, rfl, World.ownsRow_nil _ _ _ _, hb⟩
  · exact walk_set p q n S ms _ w h ht hms (Int.le_refl _) hL
theorem words_o {v : Value} {q n : Nat} {S : Nat → Bool} (w : World) (h : SO w v q n S) :
    Calls Tryd.prog 35 #[v] w fun e w' => ∃ g cap us, e = .returned (.slice (some ⟨g, 0, none⟩) us.length cap) ∧ Rw w' (some ⟨g, 0, none⟩) us ∧ us.length = nw n ∧ Wd us ∧ (∀ i, mem us i = S i) ∧ Below w.heap.size w w' := by
  rcases h with ⟨rfl, rfl, hS⟩ | ⟨p, rfl, ⟨ws, x, hx⟩⟩
  · refine (words_nil w).mono ?_
    rintro e w' ⟨v, rfl, rfl, hl, hb⟩
    exact ⟨_, _, [], rfl, Or.inl rfl, rfl, (fun a ha => by cases ha), (fun i => by rw [hS]; simp [mem]), hb⟩
  · refine (words_any p q n ws w x).mono ?_
    rintro e w' ⟨v, rfl, sl, hb⟩
    have hv := sl.hv
    subst hv
    exact ⟨_, _, ws, rfl, Or.inr ⟨_, 0, rfl, sl.hg, fun j hj => by rw [Nat.zero_add]; exact sl.hc j hj⟩, x.hl, x.wd, hx, hb⟩
theorem dwords_two (n : Nat) (a : Option Addr) (cap : Nat) (ms : List Int) (S : Nat → Bool) (us : List Nat) (w : World) (hn : n ≤ 65536) (h : Rd w a ms) (hs : MsOf n S ms) (hb : ∀ t, n ≤ t → S t = false) (hL : ms.length ≤ 65536) (hl : us.length = nw n) (wd : Wd us) (hu : ∀ i, mem us i = S i) :
    Calls Tryd.prog 89 #[.agg #[.int .i64 (n : Int), .slice a ms.length cap]] w fun e w' => ∃ g, e = .returned (.slice (some ⟨g, 0, none⟩) us.length us.length) ∧ Rw w' (some ⟨g, 0, none⟩) us ∧ Below w.heap.size w w' := by
  refine (dwords n a cap ms w hn h hs.up hL (fun z hz => by obtain ⟨i, e, h1, _⟩ := hs.bel hz; exact ⟨i, e, h1⟩)).mono ?_
  rintro e w' ⟨g, us', rfl, hr, hl', wd', hm', hb'⟩
  have e : us' = us := words_ext (by rw [hl, hl']) wd' wd fun i => by
    rw [hm' i, hu i, Bool.eq_iff_iff, decide_eq_true_iff]
    rw [has_in hs hb]
    constructor
    · rintro ⟨a, e, y⟩; obtain rfl : i = a := by omega
      exact y
    · intro y; exact ⟨i, rfl, y⟩
  subst e
  rw [← hl']
  exact ⟨g, rfl, Or.inr ⟨g, 0, rfl, lt_of_block hr, fun j hj => by rw [Nat.zero_add, cell_of_row _ _ j _ _ _ hr, row_get us' j hj]⟩, hb'⟩
theorem sub_len {n n' : Nat} {S T : Nat → Bool} {A C : List Int} (hA : MsOf n S A) (hC : MsOf n' T C) (bS : ∀ t, n ≤ t → S t = false) (bT : ∀ t, n' ≤ t → T t = false) : decide ((pk true false false A C).length = 0) = true ↔ ∀ i, S i = true → T i = true := by
  have m := pk_is (m := n) (U := fun i => S i && !T i) hA hC bS bT (al := true) (ot := false) (bo := false) (fun i => by cases S i <;> cases T i <;> rfl) (fun i e => by simp at e; exact Nat.lt_of_not_le fun c => by rw [bS i c] at e; cases e.1)
  rw [decide_eq_true_iff, m.len, card_zero_iff]
  constructor
  · intro h i hi
    have hin : i < n := Nat.lt_of_not_le fun c => by rw [bS i c] at hi; cases hi
    have := h i hin
    rw [hi] at this
    simpa using this
  · intro h i _
    cases e : S i
    · rfl
    · simp [h i e]
theorem meet_len {n n' : Nat} {S T : Nat → Bool} {A C : List Int} (hA : MsOf n S A) (hC : MsOf n' T C) (bS : ∀ t, n ≤ t → S t = false) (bT : ∀ t, n' ≤ t → T t = false) : decide (0 < (pk false false true A C).length) = true ↔ ∃ i, S i = true ∧ T i = true := by
  have m := pk_is (m := n) (U := fun i => S i && T i) hA hC bS bT (al := false) (ot := false) (bo := true) (fun i => by cases S i <;> cases T i <;> rfl) (fun i e => by simp at e; exact Nat.lt_of_not_le fun c => by rw [bS i c] at e; cases e.1)
  rw [decide_eq_true_iff, m.len]
  constructor
  · intro h
    apply Classical.byContradiction
    intro c
    have z := (card_zero_iff (fun i => S i && T i) n).2 (fun i _ => by
      cases e : S i
      · simp
      · cases f : T i
        · simp
        · exact absurd ⟨i, e, f⟩ c)
    omega
  · rintro ⟨i, e, f⟩
    have hin : i < n := Nat.lt_of_not_le fun c => by rw [bS i c] at e; cases e
    apply Classical.byContradiction
    intro c
    have := (card_zero_iff (fun i => S i && T i) n).1 (by omega) i hin
    simp [e, f] at this
theorem eq_len {n n' : Nat} {S T : Nat → Bool} {A C : List Int} (hA : MsOf n S A) (hC : MsOf n' T C) (bS : ∀ t, n ≤ t → S t = false) (bT : ∀ t, n' ≤ t → T t = false) : decide ((pk true true false A C).length = 0) = true ↔ ∀ i, S i = T i := by
  have m := pk_is (m := max n n') (U := fun i => S i ^^ T i) hA hC bS bT (al := true) (ot := true) (bo := false) (fun i => by cases S i <;> cases T i <;> rfl) (fun i e => Nat.lt_of_not_le fun c => by
    have c1 : n ≤ i := Nat.le_trans (Nat.le_max_left _ _) c
    have c2 : n' ≤ i := Nat.le_trans (Nat.le_max_right _ _) c
    rw [bS i c1, bT i c2] at e; cases e)
  rw [decide_eq_true_iff, m.len, card_zero_iff]
  constructor
  · intro h i
    by_cases hi : i < max n n'
    · have := h i hi
      revert this
      cases S i <;> cases T i <;> simp
    · have c1 : n ≤ i := Nat.le_trans (Nat.le_max_left _ _) (Nat.le_of_not_lt hi)
      have c2 : n' ≤ i := Nat.le_trans (Nat.le_max_right _ _) (Nat.le_of_not_lt hi)
      rw [bS i c1, bT i c2]
  · intro h i _
    rw [h i]
    cases T i <;> rfl
end Go.Proofs.YtkagdmhijjfnnaaDoor
