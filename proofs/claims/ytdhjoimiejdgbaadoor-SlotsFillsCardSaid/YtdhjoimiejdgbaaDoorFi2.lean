import Derived.Test.YtdhjoimiejdgbaaDoorFi1
namespace Go.Proofs.YtdhjoimiejdgbaaDoor.L
open Go.RowKit Go.Sort Bs Go.Maps
set_option linter.unusedVariables false
/-- A row of numbers, to be read. -/
def ItemsI (w : World) (val : Value) (zs : List Int) : Prop := ∃ a cap, val = .slice a zs.length cap ∧ (zs.length = 0 ∨ ∃ b off, a = some ⟨b, off, none⟩ ∧ b < w.heap.size ∧ ∀ j (hj : j < zs.length), w.cell? ⟨b, off + j, none⟩ = some (.int .i64 zs[j]))
theorem put_there_k (p m k : Nat) (F : List Nat) (v : Int) (w : World) (h : Tb w p m (fl (k + 1)) F) (hk : k < 200) : Calls Tryd.prog 35 #[.pointer (some ⟨p, 0, none⟩), .string (nn k), .int .i64 v] w fun e w' => e = .returned (.tuple #[.int .i64 0, .int .i64 52]) ∧ w' = w :=
  put_there p m k (fl (k + 1)) F (nn k) v w h (nn_ok hk).1 (fl_yes (Nat.lt_succ_self k)).1 (fl_yes (Nat.lt_succ_self k)).2
theorem put_next (p m k : Nat) (F : List Nat) (w : World) (h : Tb w p m (fl k) F) (ht : Tab w) (hk : k < 200) (hm : k < m) : Calls Tryd.prog 35 #[.pointer (some ⟨p, 0, none⟩), .string (nn k), .int .i64 (k : Int)] w fun e w' => ∃ F', e = .returned (.tuple #[.int .i64 (k : Int), .int .i64 0]) ∧ Tb w' p m (fl (k + 1)) F' ∧ Mv F F' w w' := by
  refine (put_ok p m (fl k) F (nn k) k w h ht (nn_ok hk).1 (fl_no (Nat.le_refl _) hk) (by rw [fl_cnt]; exact hm)).mono ?_
  rintro e w' ⟨F', rfl, hT, hM⟩
  rw [fl_wrt] at hT
  exact ⟨F', by rw [fl_low], hT, hM⟩
theorem put_back (p m n d : Nat) (F : List Nat) (w : World) (h : Tb w p m (fd n d) F) (ht : Tab w) (hd : d < n) (hn : n ≤ 200) (hm : n ≤ m) : Calls Tryd.prog 35 #[.pointer (some ⟨p, 0, none⟩), .string (nn d), .int .i64 (d : Int)] w fun e w' => ∃ F', e = .returned (.tuple #[.int .i64 (d : Int), .int .i64 0]) ∧ Tb w' p m (fl n) F' ∧ Mv F F' w w' := by
  have hc := fd_cnt hd
  refine (put_ok p m (fd n d) F (nn d) d w h ht (nn_ok (by omega)).1 (fd_no hd hn) (by omega)).mono ?_
  rintro e w' ⟨F', rfl, hT, hM⟩
  rw [fd_wrt hd] at hT
  exact ⟨F', by rw [fd_low hd], hT, hM⟩
theorem drop_at (p m n d : Nat) (F : List Nat) (w : World) (h : Tb w p m (fl n) F) (hd : d < n) (hn : n ≤ 200) : Calls Tryd.prog 37 #[.pointer (some ⟨p, 0, none⟩), .string (nn d)] w fun e w' => ∃ F', e = .returned (.tuple #[.int .i64 (d : Int), .int .i64 0]) ∧ Tb w' p m (fd n d) F' ∧ Mv F F' w w' :=
  drop_ok p m d (fl n) F (nn d) w h (nn_ok (by omega)).1 (fl_yes hd).1 (fl_yes hd).2
set_option maxHeartbeats 8000000 in
set_option maxRecDepth 100000 in
theorem fills_law (most : Int) (v : Value) (zs : List Int) (w : World) (hv : ItemsI w v zs) (hg : zs.length ≤ maxLen) (hz : ∀ z ∈ zs, -9223372036854775808 ≤ z ∧ z ≤ 9223372036854775807) (ht : Tab w) (hp : Pw w) :
    Calls Tryd.prog 6 #[.int .i64 most, v] w fun e w' => e = .returned (.bool true) ∧ Below w.heap.size w w' := by
  have FX := hid (fixed_any w ht)
  obtain ⟨a, cap, rfl, hi⟩ := hv
  obtain ⟨L, hL⟩ : ∃ L, L = zs.length := ⟨_, rfl⟩
  rw [← hL] at hg ⊢
  have HI := hid hi
  have HL := hid hL
  have HT := hid ht
  have HP := hid hp
  have HZ := hid hz
  unfold maxLen at hg
  clear hL hi ht hp hz
  generalize hQ : (fun (e : Ending) (w' : World) => e = .returned (.bool true) ∧ Below w.heap.size w w') = Q
  have HQ := hid hQ
  clear hQ
  by_cases hmost : most < 0 ∨ 65536 < most
  · have NO := hid (fun W => new_no most W hmost)
    by_cases h0 : most < 0
    · clear hmost
      go_enter Tryd.func6, Tryd.ntmps6
      go_wp2_with (first
        | (go_at_call 9; refine FX.out.mono ?_; rintro e w1 ⟨rfl, B1⟩; replace B1 := hid B1)
        | (go_at_call 34; refine (NO.out _).mono ?_; rintro e w2 ⟨rfl, hw2⟩; replace hw2 := hw2.symm; subst hw2))
      rw [← HQ.out]
      exact ⟨rfl, B1.out⟩
    · have h1 : 65536 < most := by omega
      clear hmost
      go_enter Tryd.func6, Tryd.ntmps6
      go_wp2_with (first
        | (go_at_call 9; refine FX.out.mono ?_; rintro e w1 ⟨rfl, B1⟩; replace B1 := hid B1)
        | (go_at_call 34; refine (NO.out _).mono ?_; rintro e w2 ⟨rfl, hw2⟩; replace hw2 := hw2.symm; subst hw2))
      rw [← HQ.out]
      exact ⟨rfl, B1.out⟩
  · obtain ⟨m, rfl⟩ : ∃ m : Nat, most = m := ⟨most.toNat, by omega⟩
    have hm6 : m ≤ 65536 := by omega
    have NA := hid (fun W => new_any m W hm6)
    clear hmost
    go_enter Tryd.func6, Tryd.ntmps6
    go_wp2_with (first
      | (go_at_call 9; refine FX.out.mono ?_; rintro e w1 ⟨rfl, B1⟩; replace B1 := hid B1)
      | (go_at_call 34; refine (NA.out _).mono ?_
         rintro e w2 ⟨p, F, rfl, T2, F2, B2⟩
         have I0 : Hid (∃ F, FI w w2 p m 0 F) := hid ⟨F, T2, fun k hk => Nat.le_trans B1.out.size (F2 k hk), B1.out.trans (B2.mono B1.out.size)⟩
         clear T2 F2 B2))
    obtain ⟨n, hn⟩ : ∃ n : Nat, n = min m 200 := ⟨_, rfl⟩
    have hmin : min (m : Int) 200 = (n : Int) := by omega
    rw [hmin]
    have hn2 : n ≤ 200 := by omega
    have hnm : n ≤ m := by omega
    have HN := hid hn
    clear hmin hn FX NA B1
    go_loopw [8] (fun i wr => ∃ k : Nat, k ≤ n ∧ i = .int .i64 k ∧ Hid (∃ F, FI w wr p m k F)) (fun i _ => n - (intOf i).toNat)
    case atStart => exact ⟨0, Nat.zero_le _, rfl, I0⟩
    case round =>
      obtain ⟨k, hk, rfl, HX⟩ := hrel
      obtain ⟨F3, IV⟩ := HX.out
      clear HX I0
      by_cases hlt : k < n
      · have hk2 : k < 200 := by omega
        have hkm : k < m := by omega
        have IT := hid (fun W (hp : Pw W) => itoa_any (k : Int) (by omega) (by omega) W hp)
        have tsz : (tx (k : Int)).size ≤ 16 := by rw [tx_size]; exact (itoa_form (k : Int) (by omega) (by omega)).1
        have PN := hid (fun W F (h : Tb W p m (fl k) F) (ht : Tab W) => put_next p m k F W h ht hk2 hkm)
        have PT := hid (fun W F (h : Tb W p m (fl (k + 1)) F) => put_there_k p m k F (k : Int) W h hk2)
        have PB := hid (fun W => put_bad p ByteArray.empty (k : Int) W (by decide) (by decide))
        have NN : Hid (nn k = ⟨#[110]⟩ ++ tx (k : Int)) := hid rfl
        rw [NN.out] at PN PT
        have HIV := hid IV
        clear IV NN
        generalize tx (k : Int) = t at *
        go_wp2_with fail
        refine (IT.out _ (HP.out.low HIV.out.bl)).mono ?_
        rintro e w4 ⟨rfl, b4⟩
        have J4 := hid (HIV.out.low b4)
        clear b4 HIV
        go_wp2_with fail
        refine (PN.out _ _ J4.out.tb (HT.out.low J4.out.bl)).mono ?_
        rintro e w5 ⟨F5, rfl, T5, M5⟩
        have J5 := hid (J4.out.mv T5 M5)
        clear T5 M5 J4
        go_wp2_with fail
        refine (IT.out _ (HP.out.low J5.out.bl)).mono ?_
        rintro e w6 ⟨rfl, b6⟩
        have J6 := hid (J5.out.low b6)
        clear b6 J5
        go_wp2_with fail
        refine (PT.out _ _ J6.out.tb).mono ?_
        rintro e w7 ⟨rfl, hw7⟩
        replace hw7 := hw7.symm
        subst hw7
        go_wp2_with fail
        refine (PB.out _).mono ?_
        rintro e w8 ⟨rfl, hw8⟩
        replace hw8 := hw8.symm
        subst hw8
        go_wp2_with fail
        exact ⟨⟨k + 1, by omega, by go_num, hid ⟨_, J6.out⟩⟩, by simp [intOf]; omega⟩
      · obtain rfl : k = n := by omega
        have LN := hid (len_any p m (fl k) F3 _ IV.tb)
        rw [fl_cnt] at LN
        have HIV := hid IV
        clear IV
        by_cases hkm : k < m
        · go_wp2_with (go_at_call 38; refine LN.out.mono ?_; rintro e w4 ⟨rfl, hw4⟩; replace hw4 := hw4.symm; subst hw4)
          rw [← HQ.out]
          exact ⟨by simp, HIV.out.bl⟩
        · obtain rfl : k = m := by omega
          go_wp2_with fail
          go_loopw [103] (fun i wr => ∃ j : Nat, j ≤ L ∧ i = .int .i64 j ∧ Hid (∃ F, FI w wr p k k F)) (fun i _ => L - (intOf i).toNat)
          case atStart => exact ⟨0, Nat.zero_le _, rfl, hid ⟨_, HIV.out⟩⟩
          case round =>
            clear HIV LN
            obtain ⟨j, hj, rfl, HX⟩ := hrel
            obtain ⟨F4, IV⟩ := HX.out
            clear HX
            by_cases hjl : j < L
            · have hkl : j < zs.length := by rw [← HL.out]; exact hjl
              rcases HI.out with h0 | ⟨b, off, ea, hbl, hc⟩
              · omega
              subst ea
              have x0 := hc j hkl
              rw [← IV.bl.cell (p := ⟨b, off + j, none⟩) hbl] at x0
              have hzb := HZ.out _ (List.getElem_mem hkl)
              generalize zs[j] = z at *
              have PF := hid (put_full p k (fl k) F4 ⟨#[109, 111, 114, 101]⟩ 0 wr IV.tb (by decide) (fl_more k) (fl_cnt k))
              have HIV := hid IV
              have LN := hid (fun W F (h : Tb W p k (fl k) F) => len_any p k (fl k) F W h)
              have SP := hid (fun W F (h : Tb W p k (fl k) F) => span_any p k (fl k) F W h)
              rw [fl_cnt] at LN
              rw [fl_len] at SP
              clear hc IV HI
              by_cases h0 : k = 0
              · have HK0 := hid h0
                have hk0 : ((k : Int) == 0) = true := by rw [beq_iff_eq]; omega
                clear h0
                go_wp2_with (first
                  | (go_at_call 35; refine PF.out.mono ?_; rintro e w4 ⟨rfl, n4, hw4⟩
                     have J4 := hid (show FI w w4 p k k F4 by rw [hw4]; exact HIV.out.drewN n4)
                     clear hw4)
                  | (go_at_call 38; refine (LN.out _ _ J4.out.tb).mono ?_; rintro e w5 ⟨rfl, hw5⟩; replace hw5 := hw5.symm; subst hw5)
                  | (go_at_call 40; refine (SP.out _ _ J4.out.tb).mono ?_; rintro e w5 ⟨rfl, hw5⟩; replace hw5 := hw5.symm; subst hw5))
                exact ⟨⟨j + 1, by omega, by go_num, hid ⟨_, J4.out⟩⟩, by simp [intOf]; omega⟩
              · have hk0 : ((k : Int) == 0) = false := by rw [beq_eq_false_iff_ne]; omega
                have hkp : 0 < (k : Int) := by omega
                obtain ⟨z1, hz1⟩ : ∃ z1, z1 = z.tmod (k : Int) := ⟨_, rfl⟩
                have hz1b : -(k : Int) < z1 ∧ z1 < k := by
                  rw [hz1]
                  exact ⟨Int.lt_tmod_of_pos z hkp, Int.tmod_lt_of_pos z hkp⟩
                obtain ⟨d, hd⟩ : ∃ d : Nat, (z1 + (k : Int)).tmod (k : Int) = d := ⟨((z1 + (k : Int)).tmod (k : Int)).toNat, by
                  have := Int.tmod_nonneg (k : Int) (show 0 ≤ z1 + (k : Int) by omega)
                  omega⟩
                have hdk : d < k := by
                  have := Int.tmod_lt_of_pos (z1 + (k : Int)) hkp
                  omega
                have hz1' := hz1.symm
                clear hz1 h0
                go_wp2_with (first
                  | (go_at_call 35; refine PF.out.mono ?_; rintro e w4 ⟨rfl, n4, hw4⟩
                     have J4 := hid (show FI w w4 p k k F4 by rw [hw4]; exact HIV.out.drewN n4)
                     clear hw4)
                  | (go_at_call 38; refine (LN.out _ _ J4.out.tb).mono ?_; rintro e w5 ⟨rfl, hw5⟩; replace hw5 := hw5.symm; subst hw5)
                  | (go_at_call 40; refine (SP.out _ _ J4.out.tb).mono ?_; rintro e w5 ⟨rfl, hw5⟩; replace hw5 := hw5.symm; subst hw5))
                have IT := hid (fun W (hp : Pw W) => itoa_any (d : Int) (by omega) (by omega) W hp)
                have tsz : (tx (d : Int)).size ≤ 16 := by rw [tx_size]; exact (itoa_form (d : Int) (by omega) (by omega)).1
                have DA := hid (fun W F (h : Tb W p k (fl k) F) => drop_at p k k d F W h hdk hn2)
                have PBK := hid (fun W F (h : Tb W p k (fd k d) F) (ht : Tab W) => put_back p k k d F W h ht hdk hn2 (Nat.le_refl _))
                have NN : Hid (nn d = ⟨#[110]⟩ ++ tx (d : Int)) := hid rfl
                rw [NN.out] at DA PBK
                clear NN PF LN SP x0 hz1' hd
                generalize tx (d : Int) = t at *
                refine (IT.out _ (HP.out.low J4.out.bl)).mono ?_
                rintro e w5 ⟨rfl, b5⟩
                have J5 := hid (J4.out.low b5)
                clear b5 J4 HIV
                go_wp2_with fail
                refine (DA.out _ _ J5.out.tb).mono ?_
                rintro e w6 ⟨F6, rfl, T6, M6⟩
                have HT6 := hid T6
                have A6 := hid (M6.above J5.out.bl.size J5.out.fB)
                have B6 := hid (J5.out.bl.trans (M6.below J5.out.bl.size J5.out.fB))
                clear T6 M6 J5
                go_wp2_with fail
                refine (IT.out _ (HP.out.low B6.out)).mono ?_
                rintro e w7 ⟨rfl, b7⟩
                have HT7 := hid (HT6.out.low b7)
                have B7 := hid (B6.out.trans (b7.mono B6.out.size))
                clear b7 HT6 B6
                go_wp2_with fail
                refine (PBK.out _ _ HT7.out (HT.out.low B7.out)).mono ?_
                rintro e w8 ⟨F8, rfl, T8, M8⟩
                have J8 : Hid (∃ F, FI w w8 p k k F) := hid ⟨F8, T8, M8.above B7.out.size A6.out, B7.out.trans (M8.below B7.out.size A6.out)⟩
                clear T8 M8 HT7 B7 A6
                go_wp2_with fail
                exact ⟨⟨j + 1, by omega, by go_num, J8⟩, by simp [intOf]; omega⟩
            · obtain rfl : j = L := by omega
              have BW := hid IV.bl
              clear IV
              go_wp2_with fail
              rw [← HQ.out]
              exact ⟨rfl, BW.out⟩
end Go.Proofs.YtdhjoimiejdgbaaDoor.L
