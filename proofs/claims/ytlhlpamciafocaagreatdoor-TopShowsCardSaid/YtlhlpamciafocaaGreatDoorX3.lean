import Derived.Test.YtlhlpamciafocaaGreatDoorMgAB
namespace Go.Proofs.YtlhlpamciafocaaGreatDoor.L
open Go.RowKit Go.Shelf
set_option linter.unusedVariables false
def hx (n : Nat) : UInt8 := sixteen.data.toList.getD n 0
/-- What Quote writes for a byte. -/
def qB (c : UInt8) : List UInt8 :=
  if c = 34 then [92, 34] else if c = 92 then [92, 92] else if c = 10 then [92, 110] else if c = 9 then [92, 116] else if c = 13 then [92, 114]
  else if 32 ≤ iv c ∧ iv c ≤ 126 then [c] else [92, 120, hx (c.toNat / 16), hx (c.toNat % 16)]
theorem qB_len (c : UInt8) : (qB c).length ≤ 4 := by
  unfold qB
  repeat' split
  all_goals simp
def plainB : ByteArray := ⟨#[34, 92, 10, 9, 13]⟩
theorem idx_plain (a : UInt8) (h1 : a ≠ 34) (h2 : a ≠ 92) (h3 : a ≠ 10) (h4 : a ≠ 9) (h5 : a ≠ 13) : idx plainB a = -1 := by
  have := all_u8 (p := fun a => a == 34 || a == 92 || a == 10 || a == 9 || a == 13 || decide (idx plainB a = -1)) (by decide +kernel) a
  simpa [h1, h2, h3, h4, h5] using this
set_option maxHeartbeats 2000000 in
theorem qb_two (B b : Nat) (l : List UInt8) (c v : UInt8) (w : World) (h : Bld B b l w) (hl : l.length ≤ 7000000) (hB : B ≤ w.heap.size) (hc : (c = 34 ∧ v = 34) ∨ (c = 92 ∧ v = 92) ∨ (c = 10 ∧ v = 110) ∨ (c = 9 ∧ v = 116) ∨ (c = 13 ∧ v = 114)) :
    Calls Tryz.prog 63 #[.pointer (some ⟨b, 0, none⟩), .int .u8 (iv c)] w fun e w' => e = .returned (.tuple #[]) ∧ Bld B b (l ++ [92, v]) w' ∧ Below B w w' := by
  have HI := hid (fun W => sib_any plainB c W)
  have HW1 := hid (wbyte_any B b l 92 w h (by omega) hB)
  have HW2 := hid (fun W (h : Bld B b (l ++ [92]) W) hb => wbyte_any B b (l ++ [92]) v W h (by simp; omega) hb)
  unfold plainB at HI
  rcases hc with ⟨rfl, rfl⟩ | ⟨rfl, rfl⟩ | ⟨rfl, rfl⟩ | ⟨rfl, rfl⟩ | ⟨rfl, rfl⟩ <;>
  · simp only [show ∀ c, idx ⟨#[34, 92, 10, 9, 13]⟩ c = Lib.indexByte [34, 92, 10, 9, 13] c from fun c => rfl, Lib.indexByte] at HI
    simp at HI
    simp only [iv] at HI HW1 HW2 ⊢
    simp only [UInt8.toNat_ofNat, Nat.reduceMod, Nat.reducePow, Int.cast_ofNat_Int] at HI HW1 HW2 ⊢
    go_enter Tryz.func63, Tryz.ntmps63
    go_wp2_with (go_at_call 77; refine (HI.out _).mono ?_; rintro e w1 ⟨rfl, hww⟩; subst hww)
    refine HW1.out.mono ?_
    rintro e w2 ⟨rfl, b2, l2, o2⟩
    have L2 := hid l2
    have HW3 := hid (HW2.out w2 b2 (Nat.le_trans hB l2.size))
    clear HW2 b2 o2 l2
    go_wp2_with fail
    refine HW3.out.mono ?_
    rintro e w3 ⟨rfl, b3, l3, o3⟩
    have L3 := hid l3
    have B3 := hid b3
    clear b3 l3 o3
    go_wp2
    (try simp only [Exit.inBlock, Exit.then]); refine bodyPost_ret (results_none rfl _ _ _) rfl ?_
    exact ⟨rfl, by simpa using B3.out, L2.out.trans L3.out⟩
set_option maxHeartbeats 2000000 in
theorem qb_self (B b : Nat) (l : List UInt8) (c : UInt8) (w : World) (h : Bld B b l w) (hl : l.length ≤ 7000000) (hB : B ≤ w.heap.size) (hi : idx plainB c = -1) (h1 : 32 ≤ iv c) (h2 : iv c ≤ 126) :
    Calls Tryz.prog 63 #[.pointer (some ⟨b, 0, none⟩), .int .u8 (iv c)] w fun e w' => e = .returned (.tuple #[]) ∧ Bld B b (l ++ [c]) w' ∧ Below B w w' := by
  have HI := hid (fun W => sib_any plainB c W)
  rw [hi] at HI
  have HW1 := hid (wbyte_any B b l c w h (by omega) hB)
  unfold plainB at HI
  clear hi h
  generalize iv c = x at *
  go_enter Tryz.func63, Tryz.ntmps63
  go_wp2_with (go_at_call 77; refine (HI.out _).mono ?_; rintro e w1 ⟨rfl, hww⟩; subst hww)
  refine HW1.out.mono ?_
  rintro e w2 ⟨rfl, b2, l2, o2⟩
  have B2 := hid b2
  have L2 := hid l2
  clear b2 l2 o2
  go_wp2
  (try simp only [Exit.inBlock, Exit.then]); refine bodyPost_ret (results_none rfl _ _ _) rfl ?_
  exact ⟨rfl, B2.out, L2.out⟩
theorem hx_hi (c : UInt8) : (iv c) / 16 = ((c.toNat / 16 : Nat) : Int) := by unfold iv; omega
theorem and_low (c : UInt8) : bits BinOp.and IntKind.u8 (iv c) 15 = ((c.toNat % 16 : Nat) : Int) := by
  have := all_u8 (p := fun c => decide (bits BinOp.and IntKind.u8 (iv c) 15 = ((c.toNat % 16 : Nat) : Int))) (by decide +kernel) c
  simpa using this
theorem hx_get (n : Nat) (h : n < sixteen.size) : ((sixteen[n]'h).toNat : Int) = iv (hx n) := by
  rw [show hx n = bt sixteen n from rfl, bt_get sixteen n h]
  rfl
set_option maxHeartbeats 4000000 in
theorem qb_hex (B b : Nat) (l : List UInt8) (c : UInt8) (w : World) (h : Bld B b l w) (hl : l.length ≤ 7000000) (hB : B ≤ w.heap.size) (hi : idx plainB c = -1) (h1 : ¬ (32 ≤ iv c ∧ iv c ≤ 126)) :
    Calls Tryz.prog 63 #[.pointer (some ⟨b, 0, none⟩), .int .u8 (iv c)] w fun e w' => e = .returned (.tuple #[]) ∧ Bld B b (l ++ [92, 120, hx (c.toNat / 16), hx (c.toNat % 16)]) w' ∧ Below B w w' := by
  have HI := hid (fun W => sib_any plainB c W)
  rw [hi] at HI
  have HW1 := hid (wstr_any B b l ⟨#[92, 120]⟩ w h (by omega) (by decide) hB)
  have HW2 := hid (fun W (h : Bld B b (l ++ [92, 120]) W) hb => wbyte_any B b (l ++ [92, 120]) (hx (c.toNat / 16)) W h (by simp; omega) hb)
  have HW3 := hid (fun W (h : Bld B b (l ++ [92, 120] ++ [hx (c.toNat / 16)]) W) hb => wbyte_any B b (l ++ [92, 120] ++ [hx (c.toNat / 16)]) (hx (c.toNat % 16)) W h (by simp; omega) hb)
  have hn : c.toNat / 16 < 16 := by have := c.toNat_lt; omega
  have hm : c.toNat % 16 < 16 := by omega
  have ea := hx_hi c
  have eb := and_low c
  have ha := hx_get (c.toNat / 16) hn
  have hb := hx_get (c.toNat % 16) hm
  unfold plainB at HI
  unfold sixteen at ha hb
  clear hi h
  obtain ⟨x, hx'⟩ : ∃ x, iv c = x := ⟨_, rfl⟩
  rw [hx'] at HI h1 ea eb ⊢
  generalize hx (c.toNat / 16) = p at *
  generalize hx (c.toNat % 16) = q at *
  generalize c.toNat / 16 = n at *
  generalize c.toNat % 16 = m at *
  generalize iv p = P1 at *
  generalize iv q = Q1 at *
  by_cases c1 : 32 ≤ x
  · have c2 : ¬ x ≤ 126 := by omega
    clear h1
    go_enter Tryz.func63, Tryz.ntmps63
    go_wp2_with (go_at_call 77; refine (HI.out _).mono ?_; rintro e w1 ⟨rfl, hww⟩; subst hww)
    refine HW1.out.mono ?_
    rintro e w2 ⟨rfl, b2, l2, o2⟩
    have L2 := hid l2
    have h2 := Nat.le_trans hB l2.size
    have HW2 := hid (HW2.out w2 b2 h2)
    clear b2 o2 l2
    go_wp2_with fail
    refine HW2.out.mono ?_
    rintro e w3 ⟨rfl, b3, l3, o3⟩
    have L3 := hid l3
    have HW3 := hid (HW3.out w3 b3 (Nat.le_trans h2 l3.size))
    clear b3 o3 l3
    go_wp2_with fail
    refine HW3.out.mono ?_
    rintro e w4 ⟨rfl, b4, l4, o4⟩
    have L4 := hid l4
    have B4 := hid b4
    clear b4 o4 l4
    go_wp2
    go_end0
    exact ⟨rfl, by simpa using B4.out, (L2.out.trans L3.out).trans L4.out⟩
  · clear h1
    go_enter Tryz.func63, Tryz.ntmps63
    go_wp2_with (go_at_call 77; refine (HI.out _).mono ?_; rintro e w1 ⟨rfl, hww⟩; subst hww)
    refine HW1.out.mono ?_
    rintro e w2 ⟨rfl, b2, l2, o2⟩
    have L2 := hid l2
    have h2 := Nat.le_trans hB l2.size
    have HW2 := hid (HW2.out w2 b2 h2)
    clear b2 o2 l2
    go_wp2_with fail
    refine HW2.out.mono ?_
    rintro e w3 ⟨rfl, b3, l3, o3⟩
    have L3 := hid l3
    have HW3 := hid (HW3.out w3 b3 (Nat.le_trans h2 l3.size))
    clear b3 o3 l3
    go_wp2_with fail
    refine HW3.out.mono ?_
    rintro e w4 ⟨rfl, b4, l4, o4⟩
    have L4 := hid l4
    have B4 := hid b4
    clear b4 o4 l4
    go_wp2
    go_end0
    exact ⟨rfl, by simpa using B4.out, (L2.out.trans L3.out).trans L4.out⟩
theorem qbyte_any (B b : Nat) (l : List UInt8) (c : UInt8) (w : World) (h : Bld B b l w) (hl : l.length ≤ 7000000) (hB : B ≤ w.heap.size) :
    Calls Tryz.prog 63 #[.pointer (some ⟨b, 0, none⟩), .int .u8 (iv c)] w fun e w' => e = .returned (.tuple #[]) ∧ Bld B b (l ++ qB c) w' ∧ Below B w w' := by
  by_cases c1 : c = 34
  · rw [show qB c = [92, 34] by rw [c1]; simp [qB]]
    exact qb_two B b l c 34 w h hl hB (by simp [c1])
  by_cases c2 : c = 92
  · rw [show qB c = [92, 92] by rw [c2]; simp [qB]]
    exact qb_two B b l c 92 w h hl hB (by simp [c2])
  by_cases c3 : c = 10
  · rw [show qB c = [92, 110] by rw [c3]; simp [qB]]
    exact qb_two B b l c 110 w h hl hB (by simp [c3])
  by_cases c4 : c = 9
  · rw [show qB c = [92, 116] by rw [c4]; simp [qB]]
    exact qb_two B b l c 116 w h hl hB (by simp [c4])
  by_cases c5 : c = 13
  · rw [show qB c = [92, 114] by rw [c5]; simp [qB]]
    exact qb_two B b l c 114 w h hl hB (by simp [c5])
  have hi := idx_plain c c1 c2 c3 c4 c5
  by_cases c6 : 32 ≤ iv c ∧ iv c ≤ 126
  · rw [show qB c = [c] by simp [qB, c1, c2, c3, c4, c5, c6]]
    exact qb_self B b l c w h hl hB hi c6.1 c6.2
  · rw [show qB c = [92, 120, hx (c.toNat / 16), hx (c.toNat % 16)] by simp only [qB, c1, c2, c3, c4, c5, c6, if_false]]
    exact qb_hex B b l c w h hl hB hi c6
/-- What Quote writes. -/
def quoteL (l : List UInt8) : List UInt8 := 34 :: l.flatMap qB ++ [34]
theorem flat_len (l : List UInt8) : (l.flatMap qB).length ≤ 4 * l.length := by
  induction l with
  | nil => simp
  | cons c l ih =>
    rw [List.flatMap_cons, List.length_append, List.length_cons]
    have := qB_len c
    omega
theorem take_bt (s : ByteArray) (k : Nat) (h : k < s.size) : s.data.toList.take (k + 1) = s.data.toList.take k ++ [bt s k] := by
  have h' : k < s.data.toList.length := by simpa using h
  rw [List.take_succ_eq_append_getElem h']
  unfold bt
  rw [List.getD_eq_getElem?_getD, List.getElem?_eq_getElem h']
  rfl
set_option maxHeartbeats 4000000 in
theorem quote_any (s : ByteArray) (w : World) (hs : s.size ≤ 1048576) :
    Calls Tryz.prog 47 #[.string s] w fun e w' => e = .returned (.string ⟨(quoteL s.data.toList).toArray⟩) ∧ Below w.heap.size w w' := by
  go_enter Tryz.func47, Tryz.ntmps47
  go_wp2_with fail
  have BD0 := hid (bld_new w)
  have BL0 := hid (belowA w (.cells #[.pointer none, .slice none 0 0] 113))
  have hZ0 : w.heap.size < (w.alloc (.cells #[.pointer none, .slice none 0 0] 113)).heap.size := by simp
  generalize w.alloc (.cells #[.pointer none, .slice none 0 0] 113) = W0 at *
  refine (wbyte_any w.heap.size w.heap.size [] 34 W0 BD0.out (by simp) (by omega)).mono ?_
  rintro e w1 ⟨rfl, b1, l1, o1⟩
  have B1 := hid (show Bld w.heap.size w.heap.size (34 :: (s.data.toList.take 0).flatMap qB) w1 by simpa using b1)
  have L1 := hid (BL0.out.trans l1)
  have hZ1 : w.heap.size < w1.heap.size := Nat.lt_of_lt_of_le hZ0 l1.size
  clear b1 l1 o1 BD0 BL0 hZ0
  have HQ := hid (fun (l : List UInt8) (c : UInt8) (W : World) h hl hB => qbyte_any w.heap.size w.heap.size l c W h hl hB)
  go_wp2_with fail
  go_loopw [8] (fun i wr => ∃ k : Nat, k ≤ s.size ∧ i = .int .i64 k ∧ Hid (Below w.heap.size w wr) ∧ w.heap.size < wr.heap.size ∧ Hid (Bld w.heap.size w.heap.size (34 :: (s.data.toList.take k).flatMap qB) wr)) (fun i _ => s.size - (intOf i).toNat)
  case atStart => exact ⟨0, Nat.zero_le _, rfl, L1, hZ1, B1⟩
  case round =>
    obtain ⟨k, hk, rfl, HB, hZ, BD⟩ := hrel
    by_cases hlt : k < s.size
    · have hc := iv_get s k hlt
      have ht := take_bt s k hlt
      have hlen : (34 :: (s.data.toList.take k).flatMap qB).length ≤ 7000000 := by
        have := flat_len (s.data.toList.take k)
        have h2 : (s.data.toList.take k).length ≤ k := by simp; omega
        rw [List.length_cons]
        omega
      have HC := hid (HQ.out _ (bt s k) wr BD.out hlen (by omega))
      have hT : 34 :: (s.data.toList.take k).flatMap qB ++ qB (bt s k) = 34 :: (s.data.toList.take (k + 1)).flatMap qB := by rw [ht]; simp
      rw [hT] at HC
      generalize iv (bt s k) = x at *
      clear ht hT hlen HQ BD
      go_wp2_with fail
      refine HC.out.mono ?_
      rintro e w2 ⟨rfl, b2, l2⟩
      have B2 := hid b2
      have L2 := hid (HB.out.trans l2)
      have h2 : w.heap.size < w2.heap.size := Nat.lt_of_lt_of_le hZ l2.size
      clear b2 l2
      go_wp2_with fail
      exact ⟨⟨k + 1, by omega, by go_num, L2, h2, B2⟩, by simp [intOf]; omega⟩
    · obtain rfl : k = s.size := by omega
      have hT : s.data.toList.take s.size = s.data.toList := List.take_of_length_le (by simp)
      rw [hT] at BD
      have hlen : (34 :: s.data.toList.flatMap qB).length ≤ 7000000 := by
        have := flat_len s.data.toList
        have h2 : s.data.toList.length = s.size := by simp
        rw [List.length_cons]
        omega
      go_wp2_with fail
      refine (wbyte_any w.heap.size w.heap.size _ 34 wr BD.out (by omega) (by omega)).mono ?_
      rintro e w2 ⟨rfl, b2, l2, o2⟩
      have L2 := hid (HB.out.trans l2)
      have h2 : w.heap.size < w2.heap.size := Nat.lt_of_lt_of_le hZ l2.size
      have HS := hid (bstr_any w.heap.size w.heap.size _ w2 b2 (by omega))
      clear b2 l2 o2 hlen
      go_wp2_with fail
      refine HS.out.mono ?_
      rintro e w3 ⟨rfl, l3⟩
      have L3 := hid (L2.out.trans l3)
      clear l3
      go_wp2
      go_ret
      exact ⟨rfl, L3.out⟩
end Go.Proofs.YtlhlpamciafocaaGreatDoor.L
