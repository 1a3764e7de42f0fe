import Derived.Test.YtnlohjcjboelgaaUni2
namespace Go.Proofs.Ytnlohjcjboelgaa.L
open Go.RowKit
set_option linter.unusedVariables false
/-- The sum of the i-th name is too great. -/
def overI (l c B : List It) (i : Nat) : Prop := 9223372036854775807 - getN c (nm B i) < getN l (nm B i)
/-- The least name so far whose sum is too great. -/
def BadI (l c B : List It) (k : Nat) (bd : ByteArray) : Prop := (bd = ⟨#[]⟩ ∧ ∀ i, i < k → ¬ overI l c B i) ∨ ∃ q, q < k ∧ overI l c B q ∧ bd = nm B q ∧ ∀ i, i < k → overI l c B i → (nm B i).toList = (nm B q).toList ∨ Op.bytesLess (nm B q).toList (nm B i).toList = true
theorem bad_skip {l c B : List It} {k : Nat} {bd : ByteArray} (h : BadI l c B k bd) (n : ¬ overI l c B k) : BadI l c B (k + 1) bd := by
  rcases h with ⟨h1, h2⟩ | ⟨q, h1, h2, h3, h4⟩
  · refine Or.inl ⟨h1, fun i hi => ?_⟩
    by_cases e : i = k
    · rw [e]; exact n
    · exact h2 i (by omega)
  · refine Or.inr ⟨q, by omega, h2, h3, fun i hi ho => ?_⟩
    by_cases e : i = k
    · rw [e] at ho; exact absurd ho n
    · exact h4 i (by omega) ho
theorem bad_first {l c B : List It} {k : Nat} (h : ∀ i, i < k → ¬ overI l c B i) (o : overI l c B k) : BadI l c B (k + 1) (nm B k) := by
  refine Or.inr ⟨k, by omega, o, rfl, fun i hi ho => ?_⟩
  by_cases e : i = k
  · rw [e]; exact Or.inl rfl
  · exact absurd ho (h i (by omega))
theorem bad_take {l c B : List It} {k q : Nat} (h : ∀ i, i < k → overI l c B i → (nm B i).toList = (nm B q).toList ∨ Op.bytesLess (nm B q).toList (nm B i).toList = true) (o : overI l c B k) (hl : Op.bytesLess (nm B k).toList (nm B q).toList = true) : BadI l c B (k + 1) (nm B k) := by
  refine Or.inr ⟨k, by omega, o, rfl, fun i hi ho => ?_⟩
  by_cases e : i = k
  · rw [e]; exact Or.inl rfl
  · rcases h i (by omega) ho with g | g
    · rw [g]; exact Or.inr hl
    · exact Or.inr (less_trans _ _ _ hl g)
theorem bad_keep {l c B : List It} {k q : Nat} (hq : q < k) (oq : overI l c B q) (h : ∀ i, i < k → overI l c B i → (nm B i).toList = (nm B q).toList ∨ Op.bytesLess (nm B q).toList (nm B i).toList = true) (hl : Op.bytesLess (nm B k).toList (nm B q).toList = false) : BadI l c B (k + 1) (nm B q) := by
  refine Or.inr ⟨q, by omega, oq, rfl, fun i hi ho => ?_⟩
  by_cases e : i = k
  · rw [e]
    rcases less_total (nm B k).toList (nm B q).toList with g | g | g
    · rw [hl] at g; cases g
    · exact Or.inl g
    · exact Or.inr g
  · exact h i (by omega) ho
theorem cellsF_set (A : List It) (k : Nat) (v : Int) (h : k < A.length) : (cellsF A).set (k * 2 + 1) (.int .i64 v) = cellsF (A.set k (nm A k, v)) := by
  induction A generalizing k with
  | nil => simp at h
  | cons x A ih =>
    cases k with
    | zero => simp [cellsF, nm]
    | succ k =>
      have := ih k (by simp at h; omega)
      rw [show (k + 1) * 2 + 1 = k * 2 + 1 + 2 by omega]
      simp [cellsF, nm] at this ⊢
      exact this
theorem nm_set (A : List It) (k i : Nat) (v : Int) (h : k < A.length) : nm (A.set k (nm A k, v)) i = nm A i := by
  unfold nm
  by_cases e : i = k
  · subst e; simp [h]
  · simp [show ¬ k = i by omega]
theorem am_set (A : List It) (k i : Nat) (v : Int) (h : k < A.length) : am (A.set k (nm A k, v)) i = if i = k then v else am A i := by
  unfold am
  by_cases e : i = k
  · subst e; simp [h]
  · simp [show ¬ k = i by omega, e]
def RAddPost (l c : List It) (w w' : World) (v : Value) (s : ByteArray) (er : Int) : Prop :=
  (∃ q, q < (bothL l c).length ∧ overI l c (bothL l c) q ∧ s = nm (bothL l c) q ∧ (∀ i, i < (bothL l c).length → overI l c (bothL l c) i → (nm (bothL l c) i).toList = s.toList ∨ Op.bytesLess s.toList (nm (bothL l c) i).toList = true) ∧ v = .slice none 0 0 ∧ er = 28) ∨
  ((∀ i, i < (bothL l c).length → ¬ overI l c (bothL l c) i) ∧ w'.ownsRow w.heap.size 41 2 v (nonz (sums (mrg 40 l c))).length (cellsF (nonz (sums (mrg 40 l c)))) ∧ s = ByteArray.empty ∧ er = 0)
theorem own_form {w : World} {base n : Nat} {e : TypeId} {size : Nat} {v : Value} {xs : List Value} (h : w.ownsRow base e size v n xs) : (v = .slice none 0 0 ∧ n = 0) ∨ ∃ g cap, v = .slice (some ⟨g, 0, none⟩) n cap ∧ base ≤ g ∧ g < w.heap.size := by
  rcases h.2 with h2 | ⟨g, cap, cur, rfl, hb, hh, _⟩
  · exact Or.inl h2
  · refine Or.inr ⟨g, cap, rfl, hb, ?_⟩
    apply Classical.byContradiction
    intro n
    rw [Array.getElem?_eq_none (by omega)] at hh
    cases hh
theorem chk_two (l c : List It) : chkAll (two l c) 2 0 = if checkN l = 0 then checkN c else checkN l := by
  show (if checkN l = 0 then (if checkN c = 0 then 0 else checkN c) else checkN l) = _
  by_cases h : checkN l = 0
  · rw [if_pos h, if_pos h]
    split <;> simp_all
  · rw [if_neg h, if_neg h]
set_option maxHeartbeats 8000000 in
theorem radd_bad (v1 v2 : Value) (l c : List It) (w : World) (i1 : Items w v1 l) (i2 : Items w v2 c) (g1 : Good l) (g2 : Good c) (bad : chkAll (two l c) 2 0 ≠ 0) :
    Calls Try.prog 12 #[v1, v2] w fun e w' => e = .returned (.tuple #[.slice none 0 0, .string ByteArray.empty, .int .i64 (chkAll (two l c) 2 0)]) ∧ Below w.heap.size w w' := by
  have C1 := hid (rcheck_any v1 l w i1 g1)
  have C2 := hid (fun n => rcheck_any v2 c (w.drewN n) (i2.lowN n) g2)
  rw [chk_two] at bad ⊢
  by_cases h : checkN l = 0
  · rw [if_pos h] at bad ⊢
    rw [h] at C1
    have ne : (checkN c != 0) = true := by simpa using bad
    generalize checkN c = k at *
    go_enter Try.func12, Try.ntmps12
    go_wp2_with fail
    refine C1.out.mono ?_
    rintro e w1 ⟨rfl, n, hww⟩
    subst hww
    go_wp2_with fail
    refine (C2.out n).mono ?_
    rintro e w1 ⟨rfl, n2, hww⟩
    subst hww
    go_wp2_with fail
    go_ret3
    exact ⟨rfl, below_drewN (Below.refl _ _) _⟩
  · rw [if_neg h] at bad ⊢
    have ne : (checkN l != 0) = true := by simpa using h
    have ne2 : (checkN l == 0) = false := by simpa using h
    generalize checkN l = k at *
    go_enter Try.func12, Try.ntmps12
    go_wp2_with fail
    refine C1.out.mono ?_
    rintro e w1 ⟨rfl, n, hww⟩
    subst hww
    go_wp2_with fail
    go_ret3
    exact ⟨rfl, below_drewN (Below.refl _ _) _⟩
set_option maxHeartbeats 8000000 in
set_option maxRecDepth 100000 in
theorem radd_few (v1 v2 : Value) (l c : List It) (w : World) (i1 : Items w v1 l) (i2 : Items w v2 c) (g1 : Good l) (g2 : Good c) (o1 : checkN l = 0) (o2 : checkN c = 0) (hlen : (bothL l c).length ≤ 16) :
    Calls Try.prog 12 #[v1, v2] w fun e w' => ∃ v s er, e = .returned (.tuple #[v, .string s, .int .i64 er]) ∧ Below w.heap.size w w' ∧ RAddPost l c w w' v s er := by
  have hem : (⟨#[]⟩ : ByteArray).toList = [] := (toList_nil_iff_emptyBytes _).2 rfl
  have SO := hid (fun (A : List It) (e1 : A.length = (bothL l c).length) (e2 : ∀ i, i < A.length → nm A i = nm (bothL l c) i) (e3 : ∀ i, i < A.length → am A i = getN l (nm (bothL l c) i) + getN c (nm (bothL l c) i)) => sorts_of (A := A) (fun z => z.2.1 + z.2.2) (by have := check_len o1; have := check_len o2; omega) (up_of o1) (up_of o2) (fun x hx => (right_mem o1 g1 x hx).2.1) (fun z hz => (mrg_right o1 o2 g1 g2 40 z hz).1) e1 e2 (fun i hi z hz e => by
    have gg := mrg_get 40 l c (by have := check_len o1; have := check_len o2; omega) (up_of o1) (up_of o2) z hz
    rw [e3 i hi, get_eq, get_eq, ← e, gg.1, gg.2]))
  have NMB := hid (show ∀ i, i < (bothL l c).length → nameB (nm (bothL l c) i) = true ∧ (nm (bothL l c) i).size ≤ maxLen from fun i hi => by
    obtain ⟨z, hz, e⟩ := mrg_of_both (by have := check_len o1; have := check_len o2; omega) i hi
    have := mrg_right o1 o2 g1 g2 40 z hz
    rw [← e]
    exact ⟨this.1, this.2.1⟩)
  have GB := hid (show ∀ s, 0 ≤ getN l s ∧ getN l s ≤ 9223372036854775807 ∧ 0 ≤ getN c s ∧ getN c s ≤ 9223372036854775807 from fun s => ⟨get_nonneg o1 s l.length 0 (by omega), (get_bound l s g1 l.length 0 (by omega)).2, get_nonneg o2 s c.length 0 (by omega), (get_bound c s g2 c.length 0 (by omega)).2⟩)
  have GL := hid (fun W s (hB : Below w.heap.size w W) (hs : s.size ≤ maxLen) => rget_any v1 l s W (i1.low hB) g1 hs)
  have GU := hid (fun W s (hB : Below w.heap.size w W) (hs : s.size ≤ maxLen) => rget_any v2 c s W (i2.low hB) g2 hs)
  have RI := hid (fun W v A (h : Items W v A) (h1 : A.length ≤ 32) (h2 : Sorts A (sums (mrg 40 l c))) => rising_any v A (sums (mrg 40 l c)) W h h1 h2)
  have POST := hid (show ∀ w' v s er, RAddPost l c w w' v s er ↔ RAddPost l c w w' v s er from fun _ _ _ _ => Iff.rfl)
  have C1 := hid (rcheck_any v1 l w i1 g1)
  have C2 := hid (fun n => rcheck_any v2 c (w.drewN n) (i2.lowN n) g2)
  have BO := hid (fun n => both_any v1 v2 l c (w.drewN n) (i1.lowN n) (i2.lowN n) g1 g2 (check_len o1) (check_len o2))
  rw [o1] at C1
  rw [o2] at C2
  change Hid (∀ n, Calls Try.prog 23 #[v1, v2] (w.drewN n) fun e w' => ∃ v, e = .returned v ∧ w'.ownsRow w.heap.size 41 2 v (bothL l c).length (cellsF (bothL l c)) ∧ Below w.heap.size (w.drewN n) w') at BO
  obtain ⟨B, hB⟩ : ∃ B, B = bothL l c := ⟨_, rfl⟩
  rw [← hB] at BO hlen
  rw [← hB] at SO NMB
  have EB := hid hB
  clear hB i1 i2 g1 g2 o1 o2 POST
  go_enter Try.func12, Try.ntmps12
  go_wp2_with fail
  refine C1.out.mono ?_
  rintro e w1 ⟨rfl, n1, hww⟩
  subst hww
  go_wp2_with fail
  refine (C2.out n1).mono ?_
  rintro e w1 ⟨rfl, n2, hww⟩
  subst hww
  go_wp2_with fail
  refine (BO.out _).mono ?_
  rintro e w1 ⟨v, rfl, hown, hb1⟩
  have BE := hid (show Below w.heap.size w w1 from (below_drewN (Below.refl _ _) _).trans hb1)
  clear hb1
  rcases own_form hown with ⟨rfl, hz⟩ | ⟨g, cap, rfl, hg1, hg2⟩
  · have OW := hid hown
    clear hown
    have N0 := hid hz
    go_wp2_with fail
    refine wp_loop_rounds 1 ?_
    rw [rounds_succ]
    go_wp2_with fail
    refine (RI.out _ _ [] ⟨_, _, rfl, Or.inl rfl⟩ (by decide) (SO.out [] (by rw [N0.out]; rfl) (fun i hi => by simp at hi) (fun i hi => by simp at hi))).mono ?_
    rintro e w2 ⟨v', rfl, ho, hb2⟩
    have B2 := hid (BE.out.trans (hb2.mono BE.out.size))
    have O2 := hid (own_wider ho BE.out.size)
    clear ho hb2
    go_wp2_with fail
    go_ret3
    exact ⟨_, _, _, rfl, B2.out, Or.inr ⟨fun i hi => by rw [← EB.out, N0.out] at hi; omega, O2.out, rfl, rfl⟩⟩
  · have OW := hid hown
    obtain ⟨len, hle⟩ : ∃ n, n = B.length := ⟨_, rfl⟩
    have EL := hid hle
    rw [← hle] at hlen OW NMB SO ⊢
    clear hown hle
    go_wp2_with fail
    go_loopw [9, 10] (fun x i wr => ∃ (k : Nat) (bd : ByteArray) (A : List It), k ≤ len ∧ x = .string bd ∧ i = .int .i64 k ∧ Hid (A.length = len) ∧ Hid (∀ j, j < len → nm A j = nm B j) ∧ Hid (∀ j, j < k → ¬ overI l c B j → am A j = getN l (nm B j) + getN c (nm B j)) ∧ Hid (BadI l c B k bd) ∧ Hid (Below w.heap.size w wr) ∧ Hid (wr.ownsRow w.heap.size 41 2 (.slice (some ⟨g, 0, none⟩) len cap) len (cellsF A))) (fun _ i _ => len - (intOf i).toNat)
    case atStart => exact ⟨0, _, B, Nat.zero_le _, rfl, rfl, hid EL.out.symm, hid (fun _ _ => rfl), hid (fun j hj => by omega), hid (Or.inl ⟨rfl, fun j hj => by omega⟩), BE, OW⟩
    case round =>
      obtain ⟨k, bd, A, hk, rfl, rfl, LA, NA, VA, BD, BW, OW⟩ := hrel
      have hgw : g < wr.heap.size := by
        rcases own_form OW.out with ⟨e, _⟩ | ⟨g', cap', e, _, h⟩
        · cases e
        · cases e; exact h
      by_cases hlt : k < len
      · have hat := cellsF_at A k (by rw [LA.out]; exact hlt)
        have c0 : wr.cell? ⟨g, k * 2, none⟩ = some (.string (nm B k)) := by rw [OW.out.cellAt _ (by omega), hat.1, NA.out k hlt]
        have c1 : wr.cell? ⟨g, k * 2 + 1, none⟩ = some (.int .i64 (am A k)) := by rw [OW.out.cellAt _ (by omega), hat.2]
        have f1 : wr.frozen? ⟨g, k * 2 + 1, none⟩ = false := OW.out.frozenAt _
        obtain ⟨nb, ns⟩ := NMB.out k hlt
        obtain ⟨x0, x1, y0, y1⟩ := GB.out (nm B k)
        have GL2 := hid (fun m => GL.out (wr.drewN m) (nm B k) (below_drewN BW.out m) ns)
        have GU2 := hid (fun m => GU.out (wr.drewN m) (nm B k) (below_drewN BW.out m) ns)
        by_cases ov : overI l c B k
        · have BNX := hid (show (bd = ⟨#[]⟩ → BadI l c B (k + 1) (nm B k)) ∧ (bd ≠ ⟨#[]⟩ → Op.bytesLess (nm B k).toList bd.toList = true → BadI l c B (k + 1) (nm B k)) ∧ (bd ≠ ⟨#[]⟩ → Op.bytesLess (nm B k).toList bd.toList = false → BadI l c B (k + 1) bd) from by
            rcases BD.out with ⟨h1, h2⟩ | ⟨q, h1, h2, h3, h4⟩
            · exact ⟨fun _ => bad_first h2 ov, fun h => absurd h1 h, fun h => absurd h1 h⟩
            · subst h3
              refine ⟨fun h => ?_, fun _ hl => bad_take h4 ov hl, fun _ hl => bad_keep h1 h2 h4 hl⟩
              exact absurd h (by intro e; have := less_nil (NMB.out q (by omega)).1; rw [e, less_irrefl] at this; cases this))
          have NEQ := hid (show bd ≠ ⟨#[]⟩ → (bd.toList == []) = false from fun h => by
            cases hb : bd.toList with
            | nil => exact absurd ((toList_nil_iff_emptyBytes bd).1 hb) h
            | cons a x => rfl)
          have ov' : 9223372036854775807 - getN c (nm B k) < getN l (nm B k) := ov
          have VN := hid (show ∀ j, j < k + 1 → ¬ overI l c B j → am A j = getN l (nm B j) + getN c (nm B j) from fun j hj hn => by
            by_cases e : j = k
            · rw [e] at hn; exact absurd ov hn
            · exact VA.out j (by omega) hn)
          generalize getN l (nm B k) = x at *
          generalize getN c (nm B k) = y at *
          generalize nm B k = s at *
          generalize am A k = z at *
          by_cases be : bd = ⟨#[]⟩
          · have BN := hid (BNX.out.1 be)
            subst be
            clear ov hat nb
            go_wp2_with fail
            go_quiet ((first | (go_at_call_of 24 v1; exact Calls.quiet_of (GL2.out _)) | (go_at_call_of 24 v2; exact Calls.quiet_of (GU2.out _))))
            go_wp2_with fail
            exact ⟨⟨k + 1, s, A, by omega, rfl, by go_num, LA, NA, VN, BN, hid (below_drewN BW.out _), hid (own_low OW.out (below_drewN (Below.refl _ _) _) BW.out.size)⟩, by simp [intOf]; omega⟩
          · have ne := NEQ.out be
            cases hl : Op.bytesLess s.toList bd.toList
            · have BN := hid (BNX.out.2.2 be hl)
              clear ov hat nb be
              go_wp2_with fail
              go_quiet ((first | (go_at_call_of 24 v1; exact Calls.quiet_of (GL2.out _)) | (go_at_call_of 24 v2; exact Calls.quiet_of (GU2.out _))))
              go_wp2_with fail
              exact ⟨⟨k + 1, bd, A, by omega, rfl, by go_num, LA, NA, VN, BN, hid (below_drewN BW.out _), hid (own_low OW.out (below_drewN (Below.refl _ _) _) BW.out.size)⟩, by simp [intOf]; omega⟩
            · have BN := hid (BNX.out.2.1 be hl)
              clear ov hat nb be
              go_wp2_with fail
              go_quiet ((first | (go_at_call_of 24 v1; exact Calls.quiet_of (GL2.out _)) | (go_at_call_of 24 v2; exact Calls.quiet_of (GU2.out _))))
              go_wp2_with fail
              exact ⟨⟨k + 1, s, A, by omega, rfl, by go_num, LA, NA, VN, BN, hid (below_drewN BW.out _), hid (own_low OW.out (below_drewN (Below.refl _ _) _) BW.out.size)⟩, by simp [intOf]; omega⟩
        · have BN := hid (bad_skip BD.out ov)
          have ov' : ¬ 9223372036854775807 - getN c (nm B k) < getN l (nm B k) := ov
          have hAk : k < A.length := by rw [LA.out]; exact hlt
          have LA2 := hid (show (A.set k (nm A k, getN l (nm B k) + getN c (nm B k))).length = len by rw [List.length_set]; exact LA.out)
          have NA2 := hid (show ∀ j, j < len → nm (A.set k (nm A k, getN l (nm B k) + getN c (nm B k))) j = nm B j from fun j hj => by rw [nm_set _ _ _ _ hAk]; exact NA.out j hj)
          have VN := hid (show ∀ j, j < k + 1 → ¬ overI l c B j → am (A.set k (nm A k, getN l (nm B k) + getN c (nm B k))) j = getN l (nm B j) + getN c (nm B j) from fun j hj hn => by
            rw [am_set _ _ _ _ hAk]
            by_cases e : j = k
            · rw [if_pos e, e]
            · rw [if_neg e]
              exact VA.out j (by omega) hn)
          have OS := hid (show ∀ m, ((wr.drewN m).setCell ⟨g, k * 2 + 1, none⟩ (.int .i64 (getN l (nm B k) + getN c (nm B k)))).ownsRow w.heap.size 41 2 (.slice (some ⟨g, 0, none⟩) len cap) len (cellsF (A.set k (nm A k, getN l (nm B k) + getN c (nm B k)))) from fun m => by
            have o := (World.ownsRow.stored (own_low OW.out (below_drewN (Below.refl _ _) m) BW.out.size) (k * 2 + 1) (.int .i64 (getN l (nm B k) + getN c (nm B k)))).1
            rw [cellsF_set _ _ _ hAk] at o
            exact o)
          generalize A.set k (nm A k, getN l (nm B k) + getN c (nm B k)) = A2 at *
          generalize getN l (nm B k) = x at *
          generalize getN c (nm B k) = y at *
          generalize nm B k = s at *
          generalize am A k = z at *
          clear ov hat nb
          go_wp2_with fail
          go_quiet ((first | (go_at_call_of 24 v1; exact Calls.quiet_of (GL2.out _)) | (go_at_call_of 24 v2; exact Calls.quiet_of (GU2.out _))))
          go_wp2_with fail

          exact ⟨⟨k + 1, bd, A2, by omega, rfl, by go_num, LA2, NA2, VN, BN, hid ((below_drewN BW.out _).setCell hg1 _), hid (OS.out _)⟩, by simp [intOf]; omega⟩
      · obtain rfl : k = len := by omega
        rcases BD.out with ⟨rfl, h2⟩ | ⟨q, h1, h2, rfl, h4⟩
        · have HN2 := hid h2
          have SRT := hid (SO.out A LA.out (fun i hi => by rw [NA.out i (by rw [← LA.out]; exact hi), EB.out]) (fun i hi => by rw [VA.out i (by rw [← LA.out]; exact hi) (h2 i (by rw [← LA.out]; exact hi)), EB.out]))
          have AIT := hid (show Items wr (.slice (some ⟨g, 0, none⟩) k cap) A from by have o := OW.out; rw [← LA.out, cellsF_eq] at o; have := items_own o; rw [LA.out] at this; exact this)
          have AL := hid (show A.length ≤ 32 by rw [LA.out]; omega)
          clear h2
          go_wp2_with fail
          refine (RI.out _ _ A AIT.out AL.out SRT.out).mono ?_
          rintro e w2 ⟨v', rfl, ho, hb2⟩
          have B2 := hid (BW.out.trans (hb2.mono BW.out.size))
          have O2 := hid (own_wider ho BW.out.size)
          clear ho hb2
          go_wp2_with fail
          go_ret3
          exact ⟨_, _, _, rfl, B2.out, Or.inr ⟨by rw [← EB.out, ← EL.out]; exact HN2.out, O2.out, rfl, rfl⟩⟩
        · have ne : ((nm B q).toList == []) = false := by
            cases hb : (nm B q).toList with
            | nil =>
              have := less_nil (NMB.out q h1).1
              rw [hem, hb] at this
              cases this
            | cons a x => rfl
          have HB4 := hid (show ∃ q', q' < (bothL l c).length ∧ overI l c (bothL l c) q' ∧ nm B q = nm (bothL l c) q' ∧ (∀ i, i < (bothL l c).length → overI l c (bothL l c) i → (nm (bothL l c) i).toList = (nm B q).toList ∨ Op.bytesLess (nm B q).toList (nm (bothL l c) i).toList = true) from by
            rw [← EB.out, ← EL.out]
            exact ⟨q, h1, h2, rfl, h4⟩)
          clear h2 h4
          generalize nm B q = s at *
          go_wp2_with fail
          try (go_quiet (fail))
          try (go_wp2_with fail)
          go_ret3
          obtain ⟨q', a1, a2, a3, a4⟩ := HB4.out
          exact ⟨_, _, _, rfl, by first | exact BW.out | exact below_drewN BW.out _, Or.inl ⟨q', a1, a2, a3, a4, rfl, rfl⟩⟩
end Go.Proofs.Ytnlohjcjboelgaa.L
