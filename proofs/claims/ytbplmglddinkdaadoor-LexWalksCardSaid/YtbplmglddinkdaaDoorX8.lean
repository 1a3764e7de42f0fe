import Derived.Test.YtbplmglddinkdaaDoorX7
namespace Go.Proofs.YtbplmglddinkdaaDoor.L
open Go.RowKit Go.Shelf
set_option linter.unusedVariables false
def textV : TR → Value
  | .ok l e => .tuple #[.string ⟨l.toArray⟩, .int .i64 (e : Int), .int .i64 0, .int .i64 0]
  | .bad c a => .tuple #[.string ⟨#[]⟩, .int .i64 0, .int .i64 (c : Int), .int .i64 (a : Int)]
theorem iv_ne' {c : UInt8} {x : Int} {n : Nat} (h : iv c = x) (hx : ¬ x = (n : Int)) (hn : n < 256) : c ≠ UInt8.ofNat n := iv_ne h hx hn
set_option maxHeartbeats 8000000 in
set_option maxRecDepth 100000 in
theorem textat_any (s : ByteArray) (f : Nat) (w : World) (hs : s.size ≤ 4096) (hf : f < s.size) :
    Calls Tryd.prog 31 #[.string s, .int .i64 (f : Int)] w fun e w' => e = .returned (textV (txS s f (f + 1) [])) ∧ Below w.heap.size w w' := by
  obtain ⟨i0, hi, hz0, hz1, hz2⟩ := info_parts infoB
  go_enter Tryd.func31, Tryd.ntmps31
  go_wp2_with fail
  have O0 := hid (ownb_new w)
  have BL0 := hid (belowA w (.cells #[] 5))
  generalize w.alloc (.cells #[] 5) = W0 at *
  go_loopw [8, 9] (fun v i wr => ∃ (k : Nat) (l : List UInt8), k ≤ s.size ∧ i = .int .i64 k ∧ Hid (Below w.heap.size w wr) ∧ Hid (OwnB wr w.heap.size v l) ∧ l.length ≤ k ∧ Hid (txS s f (f + 1) [] = txS s f k l)) (fun _ i _ => s.size - (intOf i).toNat)
  case atStart => exact ⟨f + 1, [], by omega, by go_num, BL0, O0, by simp, hid rfl⟩
  case round =>
    obtain ⟨k, l, hk, rfl, HB, OW, hl, HT⟩ := hrel
    obtain ⟨va, vc, rfl⟩ := ownb_form OW.out
    by_cases hlt : k < s.size
    · have hc := iv_get s k hlt
      obtain ⟨x, hx⟩ : ∃ x, iv (bt s k) = x := ⟨_, rfl⟩
      have HX := hid hx
      rw [hx] at hc
      clear hx
      by_cases c34 : x = 34
      · have h2 := txS_q s f k l hlt (iv_eq (n := 34) HX.out c34 (by decide))
        by_cases c127 : 127 < l.length
        all_goals have c127' := c127
        all_goals rw [← Int.ofNat_lt] at c127'
        · rw [if_pos c127] at h2
          have HT := hid (HT.out.trans h2)
          clear h2
          subst c34
          go_wp2
          (try simp only [Exit.inBlock, Exit.then])
          refine bodyPost_ret (results_tmp4 rfl _ _ _) rfl ⟨?_, HB.out⟩
          rw [HT.out]
          rfl
        · rw [if_neg c127] at h2
          have HT := hid (HT.out.trans h2)
          have hcv := conv_own OW.out
          clear h2
          subst c34
          go_wp2
          (try simp only [Exit.inBlock, Exit.then])
          refine bodyPost_ret (results_tmp4 rfl _ _ _) rfl ⟨?_, HB.out⟩
          rw [HT.out]
          rfl
      · have n34 := iv_ne (n := 34) HX.out c34 (by decide)
        have c34' : (x == 34) = false := by simpa using c34
        by_cases c32 : x < 32
        · have n92 : bt s k ≠ 92 := iv_ne (n := 92) HX.out (by omega) (by decide)
          have h2 := txS_low s f k l hlt n34 n92 (by rw [HX.out]; exact c32)
          have HT := hid (HT.out.trans h2)
          clear h2 n34 n92
          go_wp2
          (try simp only [Exit.inBlock, Exit.then])
          refine bodyPost_ret (results_tmp4 rfl _ _ _) rfl ⟨?_, HB.out⟩
          rw [HT.out]
          rfl
        · by_cases c92 : x = 92
          · have i92 := iv_eq (n := 92) HX.out c92 (by decide)
            have HE := hid (rescp_any s k wr (by omega))
            by_cases e0 : (esc3 s k).2 = 0
            · have h2 := txS_e0 s f k l hlt i92 e0
              have HT := hid (HT.out.trans h2)
              rw [e0] at HE
              generalize (esc3 s k).1 = y at *
              clear n34 i92 e0 c34 h2
              subst c92
              go_wp2_with (go_at_call 46; refine HE.out.mono ?_; rintro e w1 ⟨rfl, hww⟩; have hw2 := hww.symm; clear hww; subst hw2)
              (try simp only [Exit.inBlock, Exit.then])
              refine bodyPost_ret (results_tmp4 rfl _ _ _) rfl ⟨?_, HB.out⟩
              rw [HT.out]
              rfl
            · have h2 := txS_e s f k l hlt i92 e0
              have he := esc_in e0
              have HT := hid (HT.out.trans h2)
              generalize (esc3 s k).1 = y at *
              obtain ⟨m, hm⟩ : ∃ m, (esc3 s k).2 = m := ⟨_, rfl⟩
              rw [hm] at HE HT he e0
              have e0' : ¬ (m : Int) = 0 := by omega
              have e0'' : ((m : Int) == 0) = false := by simpa using e0
              clear n34 i92 c34 h2 hm
              subst c92
              go_wp2_with (first | (go_at_call 46; refine HE.out.mono ?_; rintro e w1 ⟨rfl, hww⟩; have hw2 := hww.symm; clear hww; subst hw2) | (at_builtin; refine wpList_append_own _ rfl _ _ 59 rfl w.heap.size 5 i0 (.int .u8 0) 1 1 Tryd.underlying59 hi hz0 hz1 hz2 rfl (by decide) _ _ _ rfl (OW.out.alloc _) ⟨wr.heap.size, 0, none⟩ 1 1 [.int .u8 (iv y)] rfl rfl ?c1 ?c2 ?c3 ?c4 ?c5 ?_))
              case c1 => exact cell_one_new _ _ _
              case c2 => intro u hu; simp at hu; subst hu; rfl
              case c3 => unfold maxLen; omega
              case c4 => omega
              case c5 => have := HB.out.size; simp; omega
              intro v' w1 hown' hgrow _
              have hb1 : Below w.heap.size w w1 := (HB.out.alloc HB.out.size _).grown hgrow (by have := HB.out.size; simp; omega) (ownb_block OW.out)
              have O1 := hid (show OwnB w1 w.heap.size v' (l ++ [y]) by unfold OwnB; rw [List.length_append, byteCells_app]; exact hown')
              have B1 := hid hb1
              obtain ⟨va', vc', rfl⟩ := ownb_form O1.out
              clear hown' hgrow hb1 OW HB
              go_wp2_with fail
              exact ⟨⟨k + m, l ++ [y], by omega, by go_num, B1, O1, by simp; omega, HT⟩, by simp [intOf]; omega⟩
          · have n92 := iv_ne (n := 92) HX.out c92 (by decide)
            have c92' : (x == 92) = false := by simpa using c92
            have h2 := txS_go s f k l hlt n34 n92 (by rw [HX.out]; exact c32)
            have HT := hid (HT.out.trans h2)
            generalize bt s k = y at *
            have hy := HX.out
            subst hy
            clear n34 n92 h2 HX
            go_wp2_with (at_builtin; refine wpList_append_own _ rfl _ _ 59 rfl w.heap.size 5 i0 (.int .u8 0) 1 1 Tryd.underlying59 hi hz0 hz1 hz2 rfl (by decide) _ _ _ rfl (OW.out.alloc _) ⟨wr.heap.size, 0, none⟩ 1 1 [.int .u8 (iv y)] rfl rfl ?c1 ?c2 ?c3 ?c4 ?c5 ?_)
            case c2 => rfl
            case c3 => unfold maxLen; omega
            case c4 => omega
            case c5 => have := HB.out.size; simp; omega
            intro v' w1 hown' hgrow _
            have hb1 : Below w.heap.size w w1 := (HB.out.alloc HB.out.size _).grown hgrow (by have := HB.out.size; simp; omega) (ownb_block OW.out)
            have O1 := hid (show OwnB w1 w.heap.size v' (l ++ [y]) by unfold OwnB; rw [List.length_append, byteCells_app]; exact hown')
            have B1 := hid hb1
            obtain ⟨va', vc', rfl⟩ := ownb_form O1.out
            clear hown' hgrow hb1 OW HB
            go_wp2_with fail
            exact ⟨⟨k + 1, l ++ [y], by omega, by go_num, B1, O1, by simp; omega, HT⟩, by simp [intOf]; omega⟩
    · have h2 := txS_end s f k l hlt
      have HT := hid (HT.out.trans h2)
      clear h2
      go_wp2
      (try simp only [Exit.inBlock, Exit.then])
      refine bodyPost_ret (results_tmp4 rfl _ _ _) rfl ⟨?_, HB.out⟩
      rw [HT.out]
      rfl
end Go.Proofs.YtbplmglddinkdaaDoor.L
