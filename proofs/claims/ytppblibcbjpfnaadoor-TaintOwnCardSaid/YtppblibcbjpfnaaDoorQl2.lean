import Derived.Test.YtppblibcbjpfnaaDoorQl1
namespace Go.Proofs.YtppblibcbjpfnaaDoor.L
open Go.RowKit
set_option linter.unusedVariables false
/-- A list with one more, at its place. -/
def lo (t : Tn) (l : List Tn) : List Tn := l.takeWhile fun x => tltB x t
def hi' (t : Tn) (l : List Tn) : List Tn := l.dropWhile fun x => tltB x t
def insT (l : List Tn) (t : Tn) : List Tn := lo t l ++ t :: hi' t l
theorem lo_hi (t : Tn) (l : List Tn) : lo t l ++ hi' t l = l := List.takeWhile_append_dropWhile
theorem ins_perm (l : List Tn) (t : Tn) : (insT l t).Perm (l ++ [t]) := by
  have h : (lo t l ++ t :: hi' t l).Perm (t :: (lo t l ++ hi' t l)) := List.perm_middle
  rw [lo_hi] at h
  exact h.trans (List.perm_append_singleton t l).symm
theorem ins_up {l : List Tn} {t : Tn} (hu : Up l) (hd : ∀ x ∈ l, ¬ sameK x t) : Up (insT l t) := by
  unfold insT
  have hl := lo_hi t l
  have hu' : Up (lo t l ++ hi' t l) := by rw [hl]; exact hu
  obtain ⟨u1, u2, u3⟩ := List.pairwise_append.1 hu'
  have hlo : ∀ x ∈ lo t l, tltB x t = true := by
    intro x hx
    unfold lo at hx
    clear hl hu' u1 u2 u3 hu hd
    induction l with
    | nil => simp at hx
    | cons y l ih =>
      rw [List.takeWhile_cons] at hx
      split at hx
      · rcases List.mem_cons.1 hx with rfl | hx
        · assumption
        · exact ih hx
      · simp at hx
  have hhi : ∀ x ∈ hi' t l, tltB t x = true := by
    intro x hx
    cases e : hi' t l with
    | nil => rw [e] at hx; simp at hx
    | cons y r =>
      have hy : tltB y t = false := by
        have := List.head?_dropWhile_not (fun x => tltB x t) l
        unfold hi' at e
        rw [e] at this
        simpa using this
      have hym : y ∈ l := by rw [← hl, e]; simp
      have hty : tltB t y = true := by
        rcases tlt_total t y with g | g | g
        · exact g
        · exact absurd ⟨g.1.symm, g.2.symm⟩ (hd y hym)
        · rw [hy] at g; cases g
      rw [e] at hx u2
      rcases List.mem_cons.1 hx with rfl | hx
      · exact hty
      · exact tlt_trans _ _ _ hty ((List.pairwise_cons.1 u2).1 x hx)
  refine List.pairwise_append.2 ⟨u1, List.pairwise_cons.2 ⟨hhi, u2⟩, fun x hx y hy => ?_⟩
  rcases List.mem_cons.1 hy with rfl | hy
  · exact hlo x hx
  · exact u3 x hx y hy
theorem lo_step {t : Tn} {l : List Tn} {k : Nat} (h : ∀ j (hj : j < l.length), j < k → tltB l[j] t = true) (hk : k ≤ l.length) (hn : ∀ (h : k < l.length), tltB l[k] t = false) : lo t l = l.take k ∧ hi' t l = l.drop k := by
  unfold lo hi'
  induction l generalizing k with
  | nil => simp
  | cons x l ih =>
    cases k with
    | zero =>
      have := hn (by simp)
      simp only [List.getElem_cons_zero] at this
      simp [this]
    | succ k =>
      have h0 := h 0 (by simp) (by omega)
      simp only [List.getElem_cons_zero] at h0
      obtain ⟨e1, e2⟩ := ih (k := k) (fun j hj hjk => by have := h (j + 1) (by simp; omega) (by omega); simpa using this) (by simp at hk; omega) (fun hk' => by have := hn (by simp; omega); simpa using this)
      simp [h0, e1, e2]
theorem six_cells {W W' : World} {b1 b2 i1 i2 i3 i4 i5 i6 : Nat} {u1 u2 u3 u4 u5 u6 : Value} (h : W.cell? ⟨b1, i1, none⟩ = some u1 ∧ W.cell? ⟨b1, i2, none⟩ = some u2 ∧ W.cell? ⟨b1, i3, none⟩ = some u3 ∧ W.cell? ⟨b2, i4, none⟩ = some u4 ∧ W.cell? ⟨b2, i5, none⟩ = some u5 ∧ W.cell? ⟨b2, i6, none⟩ = some u6) (hb : Below W.heap.size W W') (h1 : b1 < W.heap.size) (h2 : b2 < W.heap.size) :
    W'.cell? ⟨b1, i1, none⟩ = some u1 ∧ W'.cell? ⟨b1, i2, none⟩ = some u2 ∧ W'.cell? ⟨b1, i3, none⟩ = some u3 ∧ W'.cell? ⟨b2, i4, none⟩ = some u4 ∧ W'.cell? ⟨b2, i5, none⟩ = some u5 ∧ W'.cell? ⟨b2, i6, none⟩ = some u6 := by
  obtain ⟨a1, a2, a3, a4, a5, a6⟩ := h
  exact ⟨(hb.cell (p := ⟨b1, i1, none⟩) h1).trans a1, (hb.cell (p := ⟨b1, i2, none⟩) h1).trans a2, (hb.cell (p := ⟨b1, i3, none⟩) h1).trans a3, (hb.cell (p := ⟨b2, i4, none⟩) h2).trans a4, (hb.cell (p := ⟨b2, i5, none⟩) h2).trans a5, (hb.cell (p := ⟨b2, i6, none⟩) h2).trans a6⟩
set_option maxHeartbeats 8000000 in
set_option maxRecDepth 100000 in
theorem qwith_any (v : Value) (l : List Tn) (t : Tn) (w : World) (hc : ItemsG 3 tf w v l) (hl : l.length ≤ 16) : Calls Tryd.prog 49 #[v, tv t] w fun e w' => ∃ v', e = .returned v' ∧ OwnT w' w.heap.size v' (insT l t) ∧ Below w.heap.size w w' := by
  obtain ⟨i0, hi0, hz0, hz1, hz2⟩ := info_parts infoT
  obtain ⟨a, cap, rfl, hc⟩ := hc
  have HA := hid hc
  have HM := hid (fun x W => qabove_any t x W)
  have HLS := hid (fun k h hk hn => lo_step (t := t) (l := l) (k := k) h hk hn)
  clear hc
  obtain ⟨len, hlen⟩ : ∃ n, n = l.length := ⟨_, rfl⟩
  have HLEN := hid hlen
  rw [← hlen] at hl ⊢
  clear hlen
  obtain ⟨t0, t1, t2⟩ := t
  simp only [tv] at HM ⊢
  have HW := hid (belowA w (.cells #[.string t0, .string t1, .string t2] 23))
  have HT3 := hid (three w (.string t0) (.string t1) (.string t2) 23)
  go_enter Tryd.func49, Tryd.ntmps49
  go_wp2
  generalize hW1 : w.alloc (.cells #[.string t0, .string t1, .string t2] 23) = W1 at *
  have hsz : w.heap.size < W1.heap.size := by rw [← hW1]; simp
  clear hW1
  go_loopw [5, 6] (fun o i wr => ∃ k : Nat, k ≤ len ∧ i = .int .i64 k ∧ Hid (Below W1.heap.size W1 wr) ∧ Hid (OwnT wr W1.heap.size o (l.take k)) ∧ Hid (∀ j (hj : j < l.length), j < k → tltB l[j] (t0, t1, t2) = true)) (fun _ i _ => len - (intOf i).toNat)
  case atStart => exact ⟨0, Nat.zero_le _, rfl, hid (Below.refl _ _), hid (World.ownsRow_nil _ _ _ _), hid (fun j hj h => by omega)⟩
  case round =>
    obtain ⟨k, hk, rfl, HB, OW, HO⟩ := hrel
    have hws : W1.heap.size ≤ wr.heap.size := HB.out.size
    by_cases hlt : k < len
    · have hkl' : k < l.length := by rw [← HLEN.out]; exact hlt
      rcases HA.out with h0 | ⟨b, off, rfl, hat⟩
      · omega
      have hbl := hat.1
      have HBW := hid (HW.out.trans (HB.out.mono HW.out.size))
      have c0 : wr.cell? ⟨b, off + k * 3, none⟩ = some (.string l[k].1) := (HBW.out.cell (p := ⟨b, off + k * 3, none⟩) hbl).trans (hat.2 k hkl' 0 (by decide))
      have c1 : wr.cell? ⟨b, off + k * 3 + 1, none⟩ = some (.string l[k].2.1) := (HBW.out.cell (p := ⟨b, off + k * 3 + 1, none⟩) hbl).trans (hat.2 k hkl' 1 (by decide))
      have c2 : wr.cell? ⟨b, off + k * 3 + 2, none⟩ = some (.string l[k].2.2) := (HBW.out.cell (p := ⟨b, off + k * 3 + 2, none⟩) hbl).trans (hat.2 k hkl' 2 (by decide))
      have s2 : b < wr.heap.size := Nat.lt_of_lt_of_le hbl HBW.out.size
      have d0 : wr.cell? ⟨w.heap.size, 0, none⟩ = some (.string t0) := (HB.out.cell (p := ⟨w.heap.size, 0, none⟩) hsz).trans HT3.out.1
      have d1 : wr.cell? ⟨w.heap.size, 1, none⟩ = some (.string t1) := (HB.out.cell (p := ⟨w.heap.size, 1, none⟩) hsz).trans HT3.out.2.1
      have d2 : wr.cell? ⟨w.heap.size, 2, none⟩ = some (.string t2) := (HB.out.cell (p := ⟨w.heap.size, 2, none⟩) hsz).trans HT3.out.2.2
      have s1 : w.heap.size < wr.heap.size := Nat.lt_of_lt_of_le hsz HB.out.size
      have HMk := hid (fun W => HM.out l[k] W)
      have HT := hid (List.take_succ_eq_append_getElem hkl')
      have HOk := hid (fun h : tltB l[k] (t0, t1, t2) = true => show ∀ j (hj : j < l.length), j < k + 1 → tltB l[j] (t0, t1, t2) = true from fun j hj h' => by
        by_cases e : j < k
        · exact HO.out j hj e
        · obtain rfl : j = k := by omega
          exact h)
      have HX := hid (fun h : tltB l[k] (t0, t1, t2) = false => HLS.out k HO.out (by rw [← HLEN.out]; exact hk) (fun _ => h))
      have g1 : (k : Int) < (len : Int) := by omega
      have g2 : (0 : Int) ≤ (k : Int) := by omega
      generalize hr : tltB l[k] (t0, t1, t2) = r at *
      generalize l[k] = x at *
      obtain ⟨x0, x1, x2⟩ := x
      simp only at c0 c1 c2 HMk
      have HAT := hid hat
      clear hat HO hr
      have T0 : wr.drew.cell? ⟨w.heap.size, 0, none⟩ = some (.string t0) ∧ wr.drew.cell? ⟨w.heap.size, 1, none⟩ = some (.string t1) ∧ wr.drew.cell? ⟨w.heap.size, 2, none⟩ = some (.string t2) ∧ wr.drew.cell? ⟨b, off + k * 3, none⟩ = some (.string x0) ∧ wr.drew.cell? ⟨b, off + k * 3 + 1, none⟩ = some (.string x1) ∧ wr.drew.cell? ⟨b, off + k * 3 + 2, none⟩ = some (.string x2) := ⟨d0, d1, d2, c0, c1, c2⟩
      go_wp2_with fail
      go_region_held3 (fun W => W.cell? ⟨w.heap.size, 0, none⟩ = some (.string t0) ∧ W.cell? ⟨w.heap.size, 1, none⟩ = some (.string t1) ∧ W.cell? ⟨w.heap.size, 2, none⟩ = some (.string t2) ∧ W.cell? ⟨b, off + k * 3, none⟩ = some (.string x0) ∧ W.cell? ⟨b, off + k * 3 + 1, none⟩ = some (.string x1) ∧ W.cell? ⟨b, off + k * 3 + 2, none⟩ = some (.string x2))
        (first | exact T0 | exact T1)
        (first
          | (go_at_call 64; refine (HMk.out _).mono ?_; rintro e w2 ⟨rfl, hb⟩; have T1 := six_cells T0 hb s1 s2; have D1 := hid hb; clear hb))
      have B2 := hid (show Below W1.heap.size W1 w2 from HB.out.drew.trans (D1.out.mono HB.out.size))
      have O2 := hid (ownG_low OW.out (show Below wr.heap.size wr w2 from (Below.refl _ _).drew.trans D1.out))
      obtain ⟨-, -, -, c0', c1', c2'⟩ := T1
      have hw2 : W1.heap.size ≤ w2.heap.size := B2.out.size
      have hkl2 : (l.take k).length ≤ 16 := by rw [List.length_take]; omega
      have s3 : b < w2.heap.size := Nat.lt_of_lt_of_le s2 D1.out.size
      clear T0 D1 c0 c1 c2 d0 d1 d2
      cases r
      · have HLH := hid (HX.out rfl)
        clear HX HOk HT c0' c1' c2' hkl2
        have d0 : w2.cell? ⟨w.heap.size, 0, none⟩ = some (.string t0) := (B2.out.cell (p := ⟨w.heap.size, 0, none⟩) hsz).trans HT3.out.1
        have d1 : w2.cell? ⟨w.heap.size, 1, none⟩ = some (.string t1) := (B2.out.cell (p := ⟨w.heap.size, 1, none⟩) hsz).trans HT3.out.2.1
        have d2 : w2.cell? ⟨w.heap.size, 2, none⟩ = some (.string t2) := (B2.out.cell (p := ⟨w.heap.size, 2, none⟩) hsz).trans HT3.out.2.2
        have z1 : w.heap.size < w2.heap.size := Nat.lt_of_lt_of_le hsz B2.out.size
        have hwx : W1.heap.size ≤ w2.heap.size := B2.out.size
        have hkl : (l.take k).length ≤ 16 := by rw [List.length_take]; omega
        generalize hS : l.take k = S at *
        go_wp2_with (first
          | (at_builtin; refine wpList_append_own _ rfl _ _ 26 rfl W1.heap.size 23 i0 (.agg #[.string ByteArray.empty, .string ByteArray.empty, .string ByteArray.empty]) 3 48 Tryd.underlying26 hi0 hz0 hz1 hz2 rfl (by decide) _ _ _ rfl (World.ownsRow.alloc O2.out _) ⟨_, 0, none⟩ 1 1 [.string t0, .string t1, .string t2] rfl rfl (cell_three_at _ _ _ _ _ _ (by simp)) (fun x hx => by simp at hx; rcases hx with rfl | rfl | rfl <;> rfl) (by unfold maxLen; omega) (by omega) (by simp; omega) ?_; intro v' w3 hown' hgrow3 hnil3)
          | go_in)
        clear hnil3
        have B3 := hid (show Below W1.heap.size W1 w3 from (B2.out.alloc hwx _).grown hgrow3 (by simp; omega) (fun j hj => own_base O2.out j hj))
        have O3 := hid (show OwnT w3 W1.heap.size v' (S ++ [(t0, t1, t2)] ++ (l.drop k).take (k - k)) by
          rw [Nat.sub_self, List.take_zero, List.append_nil]
          exact ownT_snoc hown')
        clear hown' hgrow3 d0 d1 d2 hS
        go_loopw [5, 6] (fun o i wq => ∃ m : Nat, k ≤ m ∧ m ≤ len ∧ i = .int .i64 m ∧ Hid (Below W1.heap.size W1 wq) ∧ Hid (OwnT wq W1.heap.size o (S ++ [(t0, t1, t2)] ++ (l.drop k).take (m - k)))) (fun _ i _ => len - (intOf i).toNat)
        case atStart => exact ⟨k, Nat.le_refl _, hk, rfl, B3, O3⟩
        case round =>
          obtain ⟨m, hkm, hm, rfl, HB9, OW9⟩ := hrel
          have hw9 : W1.heap.size ≤ wr.heap.size := HB9.out.size
          by_cases hlm : m < len
          · have hml : m < l.length := by rw [← HLEN.out]; exact hlm
            have hat := HAT.out
            have hbl := hat.1
            have HBW := hid (HW.out.trans (HB9.out.mono HW.out.size))
            have c0 : wr.cell? ⟨b, off + m * 3, none⟩ = some (.string l[m].1) := (HBW.out.cell (p := ⟨b, off + m * 3, none⟩) hbl).trans (hat.2 m hml 0 (by decide))
            have c1 : wr.cell? ⟨b, off + m * 3 + 1, none⟩ = some (.string l[m].2.1) := (HBW.out.cell (p := ⟨b, off + m * 3 + 1, none⟩) hbl).trans (hat.2 m hml 1 (by decide))
            have c2 : wr.cell? ⟨b, off + m * 3 + 2, none⟩ = some (.string l[m].2.2) := (HBW.out.cell (p := ⟨b, off + m * 3 + 2, none⟩) hbl).trans (hat.2 m hml 2 (by decide))
            have s2 : b < wr.heap.size := Nat.lt_of_lt_of_le hbl HBW.out.size
            have HT := hid (show S ++ [(t0, t1, t2)] ++ (l.drop k).take (m + 1 - k) = S ++ [(t0, t1, t2)] ++ (l.drop k).take (m - k) ++ [l[m]] by
              rw [show m + 1 - k = (m - k) + 1 by omega, List.take_succ_eq_append_getElem (by rw [List.length_drop]; omega), ← List.append_assoc]
              congr 2
              rw [List.getElem_drop]
              congr 1
              omega)
            have hol : (S ++ [(t0, t1, t2)] ++ (l.drop k).take (m - k)).length ≤ 40 := by
              rw [List.length_append, List.length_append, List.length_take, List.length_drop]
              simp
              omega
            generalize S ++ [(t0, t1, t2)] ++ (l.drop k).take (m - k) = Q at *
            generalize l[m] = x at *
            obtain ⟨x0, x1, x2⟩ := x
            simp only at c0 c1 c2
            clear hat
            have g1 : (m : Int) < (len : Int) := by omega
            have g2 : (0 : Int) ≤ (m : Int) := by omega
            go_wp2_with (first
              | (at_builtin; refine wpList_append_own _ rfl _ _ 26 rfl W1.heap.size 23 i0 (.agg #[.string ByteArray.empty, .string ByteArray.empty, .string ByteArray.empty]) 3 48 Tryd.underlying26 hi0 hz0 hz1 hz2 rfl (by decide) _ _ _ rfl (World.ownsRow.alloc OW9.out _) ⟨_, 0, none⟩ 1 1 [.string x0, .string x1, .string x2] rfl rfl (cell_three_at _ _ _ _ _ _ (by simp)) (fun x hx => by simp at hx; rcases hx with rfl | rfl | rfl <;> rfl) (by unfold maxLen; omega) (by omega) (by simp; omega) ?_; intro v' w3 hown' hgrow3 hnil3)
              | go_in)
            clear hnil3
            have B4 : Below W1.heap.size W1 w3 := (HB9.out.alloc hw9 _).grown hgrow3 (by simp; omega) (fun j hj => own_base OW9.out j hj)
            exact ⟨⟨m + 1, by omega, by omega, by go_num, hid B4, hid (by rw [HT.out]; exact ownT_snoc hown')⟩, by simp [intOf]; omega⟩
          · obtain rfl : m = len := by omega
            have HF := hid (show OwnT wr W1.heap.size _ (insT l (t0, t1, t2)) by
              have o := OW9.out
              rw [show (l.drop k).take (m - k) = l.drop k by rw [List.take_of_length_le (by rw [List.length_drop, ← HLEN.out]; exact Nat.le_refl _)], ← HLH.out.1, ← HLH.out.2, List.append_assoc] at o
              exact o)
            have HB8 := hid (HW.out.trans (HB9.out.mono HW.out.size))
            go_wp2_with fail
            go_ret
            exact ⟨_, rfl, row_base HF.out HW.out.size, HB8.out⟩
      · have HO2 := hid (HOk.out rfl)
        clear HX HOk
        generalize l.take k = S at *
        go_wp2_with (first
          | (at_builtin; refine wpList_append_own _ rfl _ _ 26 rfl W1.heap.size 23 i0 (.agg #[.string ByteArray.empty, .string ByteArray.empty, .string ByteArray.empty]) 3 48 Tryd.underlying26 hi0 hz0 hz1 hz2 rfl (by decide) _ _ _ rfl (World.ownsRow.alloc O2.out _) ⟨_, 0, none⟩ 1 1 [.string x0, .string x1, .string x2] rfl rfl (cell_three_at _ _ _ _ _ _ (by simp)) (fun x hx => by simp at hx; rcases hx with rfl | rfl | rfl <;> rfl) (by unfold maxLen; omega) (by omega) (by simp; omega) ?_; intro v' w3 hown' hgrow3 hnil3)
          | go_in)
        clear hnil3
        have B4 : Below W1.heap.size W1 w3 := (B2.out.alloc hw2 _).grown hgrow3 (by simp; omega) (fun j hj => own_base O2.out j hj)
        exact ⟨⟨k + 1, by omega, by go_num, hid B4, hid (by rw [HT.out]; exact ownT_snoc hown'), HO2⟩, by simp [intOf]; omega⟩
    · have HLH := hid (HLS.out k HO.out (by rw [← HLEN.out]; exact hk) (fun h => by rw [← HLEN.out] at h; omega))
      clear HO
      have g1 : ¬ (k : Int) < (len : Int) := by omega
      go_wp2_with fail
      go_quiet (fail)
      have HBq := hid (below_drewN HB.out nq)
      have OWq := hid (ownG_low OW.out (below_drewN (Below.refl wr.heap.size wr) nq))
      have d0 : (wr.drewN nq).cell? ⟨w.heap.size, 0, none⟩ = some (.string t0) := (HBq.out.cell (p := ⟨w.heap.size, 0, none⟩) hsz).trans HT3.out.1
      have d1 : (wr.drewN nq).cell? ⟨w.heap.size, 1, none⟩ = some (.string t1) := (HBq.out.cell (p := ⟨w.heap.size, 1, none⟩) hsz).trans HT3.out.2.1
      have d2 : (wr.drewN nq).cell? ⟨w.heap.size, 2, none⟩ = some (.string t2) := (HBq.out.cell (p := ⟨w.heap.size, 2, none⟩) hsz).trans HT3.out.2.2
      have z1 : w.heap.size < (wr.drewN nq).heap.size := Nat.lt_of_lt_of_le hsz HBq.out.size
      have hwx : W1.heap.size ≤ (wr.drewN nq).heap.size := HBq.out.size
      have hkl : (l.take k).length ≤ 16 := by rw [List.length_take]; omega
      generalize hS : l.take k = S at *
      go_wp2_with (first
        | (at_builtin; refine wpList_append_own _ rfl _ _ 26 rfl W1.heap.size 23 i0 (.agg #[.string ByteArray.empty, .string ByteArray.empty, .string ByteArray.empty]) 3 48 Tryd.underlying26 hi0 hz0 hz1 hz2 rfl (by decide) _ _ _ rfl (World.ownsRow.alloc OWq.out _) ⟨_, 0, none⟩ 1 1 [.string t0, .string t1, .string t2] rfl rfl (cell_three_at _ _ _ _ _ _ (by simp)) (fun x hx => by simp at hx; rcases hx with rfl | rfl | rfl <;> rfl) (by unfold maxLen; omega) (by omega) (by simp; omega) ?_; intro v' w3 hown' hgrow3 hnil3)
        | go_in)
      clear hnil3
      have B3 := hid (show Below W1.heap.size W1 w3 from (HBq.out.alloc hwx _).grown hgrow3 (by simp; omega) (fun j hj => own_base OWq.out j hj))
      have O3 := hid (show OwnT w3 W1.heap.size v' (S ++ [(t0, t1, t2)] ++ (l.drop k).take (k - k)) by
        rw [Nat.sub_self, List.take_zero, List.append_nil]
        exact ownT_snoc hown')
      clear hown' hgrow3 d0 d1 d2 hS
      go_loopw [5, 6] (fun o i wq => ∃ m : Nat, k ≤ m ∧ m ≤ len ∧ i = .int .i64 m ∧ Hid (Below W1.heap.size W1 wq) ∧ Hid (OwnT wq W1.heap.size o (S ++ [(t0, t1, t2)] ++ (l.drop k).take (m - k)))) (fun _ i _ => len - (intOf i).toNat)
      case atStart => exact ⟨k, Nat.le_refl _, hk, rfl, B3, O3⟩
      case round =>
        obtain ⟨m, hkm, hm, rfl, HB9, OW9⟩ := hrel
        have hw9 : W1.heap.size ≤ wr.heap.size := HB9.out.size
        by_cases hlm : m < len
        · omega
        · obtain rfl : m = len := by omega
          have HF := hid (show OwnT wr W1.heap.size _ (insT l (t0, t1, t2)) by
            have o := OW9.out
            rw [show (l.drop k).take (m - k) = l.drop k by rw [List.take_of_length_le (by rw [List.length_drop, ← HLEN.out]; exact Nat.le_refl _)], ← HLH.out.1, ← HLH.out.2, List.append_assoc] at o
            exact o)
          have HB8 := hid (HW.out.trans (HB9.out.mono HW.out.size))
          go_wp2_with fail
          go_ret
          exact ⟨_, rfl, row_base HF.out HW.out.size, HB8.out⟩
end Go.Proofs.YtppblibcbjpfnaaDoor.L
