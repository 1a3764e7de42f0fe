import Derived.Test.YtcldglilhhhdoaaGreatDoorMgAB
import Derived.Shelf.Strconv.ErrVarAll
import Derived.Shelf.Strconv.Itoa3
import Derived.Shelf.Strconv.Clone
import Derived.Test.YtcldglilhhhdoaaGreatDoorProg
namespace Go.Proofs.YtcldglilhhhdoaaGreatDoor.L
open Go.RowKit Go.Shelf
set_option linter.unusedVariables false
def textV : TR → Value
  | .ok l e => .tuple #[.string ⟨l.toArray⟩, .int .i64 (e : Int), .int .i64 0, .int .i64 0]
  | .bad c a => .tuple #[.string ⟨#[]⟩, .int .i64 0, .int .i64 (c : Int), .int .i64 (a : Int)]
theorem iv_ne' {c : UInt8} {x : Int} {n : Nat} (h : iv c = x) (hx : ¬ x = (n : Int)) (hn : n < 256) : c ≠ UInt8.ofNat n := iv_ne h hx hn
set_option maxHeartbeats 8000000 in
set_option maxRecDepth 100000 in
theorem textat_any (s : ByteArray) (f : Nat) (w : World) (hs : s.size ≤ 4096) (hf : f < s.size) :
    Calls Tryz.prog 76 #[.string s, .int .i64 (f : Int)] w fun e w' => e = .returned (textV (txS s f (f + 1) [])) ∧ Below w.heap.size w w' := by
  obtain ⟨i0, hi, hz0, hz1, hz2⟩ := info_parts infoB
  go_enter Tryz.func76, Tryz.ntmps76
  go_wp2_with fail
  have O0 := hid (ownb_new w)
  have BL0 := hid (belowA w (.cells #[] 5))
  generalize w.alloc (.cells #[] 5) = W0 at *
  go_loopw [8, 9] (fun v i wr => ∃ (k : Nat) (l : List UInt8), k ≤ s.size ∧ i = .int .i64 k ∧ Hid (Below w.heap.size w wr) ∧ Hid (OwnB wr w.heap.size v l) ∧ l.length ≤ k ∧ Hid (txS s f (f + 1) [] = txS s f k l)) (fun _ i _ => s.size - (intOf i).toNat)
  case atStart => exact ⟨f + 1, [], by omega, by go_num, BL0, O0, by simp, hid rfl⟩
  case round =>
    obtain ⟨k, l, hk, rfl, HB, OW, hl, HT⟩ := hrel
    obtain ⟨va, vc, rfl⟩ := ownb_form OW.out
    by_cases hlt : k < s.size
    · have hc := iv_get s k hlt
      obtain ⟨x, hx⟩ : ∃ x, iv (bt s k) = x := ⟨_, rfl⟩
      have HX := hid hx
      rw [hx] at hc
      clear hx
      by_cases c34 : x = 34
      · have h2 := txS_q s f k l hlt (iv_eq (n := 34) HX.out c34 (by decide))
        by_cases c127 : 127 < l.length
        all_goals have c127' := c127
        all_goals rw [← Int.ofNat_lt] at c127'
        · rw [if_pos c127] at h2
          have HT := hid (HT.out.trans h2)
          clear h2
          subst c34
          go_wp2
          (try simp only [Exit.inBlock, Exit.then])
          refine bodyPost_ret (results_tmp4 rfl _ _ _) rfl ⟨?_, HB.out⟩
          rw [HT.out]
          rfl
        · rw [if_neg c127] at h2
          have HT := hid (HT.out.trans h2)
          have hcv := conv_own OW.out
          clear h2
          subst c34
          go_wp2
          (try simp only [Exit.inBlock, Exit.then])
          refine bodyPost_ret (results_tmp4 rfl _ _ _) rfl ⟨?_, HB.out⟩
          rw [HT.out]
          rfl
      · have n34 := iv_ne (n := 34) HX.out c34 (by decide)
        have c34' : (x == 34) = false := by simpa using c34
        by_cases c32 : x < 32
        · have n92 : bt s k ≠ 92 := iv_ne (n := 92) HX.out (by omega) (by decide)
          have h2 := txS_low s f k l hlt n34 n92 (by rw [HX.out]; exact c32)
          have HT := hid (HT.out.trans h2)
          clear h2 n34 n92
          go_wp2
          (try simp only [Exit.inBlock, Exit.then])
          refine bodyPost_ret (results_tmp4 rfl _ _ _) rfl ⟨?_, HB.out⟩
          rw [HT.out]
          rfl
        · by_cases c92 : x = 92
          · have i92 := iv_eq (n := 92) HX.out c92 (by decide)
            have HE := hid (rescp_any s k wr (by omega))
            by_cases e0 : (esc3 s k).2 = 0
            · have h2 := txS_e0 s f k l hlt i92 e0
              have HT := hid (HT.out.trans h2)
              rw [e0] at HE
              generalize (esc3 s k).1 = y at *
              clear n34 i92 e0 c34 h2
              subst c92
              go_wp2_with (go_at_call 95; refine HE.out.mono ?_; rintro e w1 ⟨rfl, hww⟩; have hw2 := hww.symm; clear hww; subst hw2)
              (try simp only [Exit.inBlock, Exit.then])
              refine bodyPost_ret (results_tmp4 rfl _ _ _) rfl ⟨?_, HB.out⟩
              rw [HT.out]
              rfl
            · have h2 := txS_e s f k l hlt i92 e0
              have he := esc_in e0
              have HT := hid (HT.out.trans h2)
              generalize (esc3 s k).1 = y at *
              obtain ⟨m, hm⟩ : ∃ m, (esc3 s k).2 = m := ⟨_, rfl⟩
              rw [hm] at HE HT he e0
              have e0' : ¬ (m : Int) = 0 := by omega
              have e0'' : ((m : Int) == 0) = false := by simpa using e0
              clear n34 i92 c34 h2 hm
              subst c92
              go_wp2_with (first | (go_at_call 95; refine HE.out.mono ?_; rintro e w1 ⟨rfl, hww⟩; have hw2 := hww.symm; clear hww; subst hw2) | (at_builtin; refine wpList_append_own _ rfl _ _ 84 rfl w.heap.size 5 i0 (.int .u8 0) 1 1 Tryz.underlying84 hi hz0 hz1 hz2 rfl (by decide) _ _ _ rfl (OW.out.alloc _) ⟨wr.heap.size, 0, none⟩ 1 1 [.int .u8 (iv y)] rfl rfl ?c1 ?c2 ?c3 ?c4 ?c5 ?_))
              case c1 => exact cell_one_new _ _ _
              case c2 => intro u hu; simp at hu; subst hu; rfl
              case c3 => unfold maxLen; omega
              case c4 => omega
              case c5 => have := HB.out.size; simp; omega
              intro v' w1 hown' hgrow _
              have hb1 : Below w.heap.size w w1 := (HB.out.alloc HB.out.size _).grown hgrow (by have := HB.out.size; simp; omega) (ownb_block OW.out)
              have O1 := hid (show OwnB w1 w.heap.size v' (l ++ [y]) by unfold OwnB; rw [List.length_append, byteCells_app]; exact hown')
              have B1 := hid hb1
              obtain ⟨va', vc', rfl⟩ := ownb_form O1.out
              clear hown' hgrow hb1 OW HB
              go_wp2_with fail
              exact ⟨⟨k + m, l ++ [y], by omega, by go_num, B1, O1, by simp; omega, HT⟩, by simp [intOf]; omega⟩
          · have n92 := iv_ne (n := 92) HX.out c92 (by decide)
            have c92' : (x == 92) = false := by simpa using c92
            have h2 := txS_go s f k l hlt n34 n92 (by rw [HX.out]; exact c32)
            have HT := hid (HT.out.trans h2)
            generalize bt s k = y at *
            have hy := HX.out
            subst hy
            clear n34 n92 h2 HX
            go_wp2_with (at_builtin; refine wpList_append_own _ rfl _ _ 84 rfl w.heap.size 5 i0 (.int .u8 0) 1 1 Tryz.underlying84 hi hz0 hz1 hz2 rfl (by decide) _ _ _ rfl (OW.out.alloc _) ⟨wr.heap.size, 0, none⟩ 1 1 [.int .u8 (iv y)] rfl rfl ?c1 ?c2 ?c3 ?c4 ?c5 ?_)
            case c2 => rfl
            case c3 => unfold maxLen; omega
            case c4 => omega
            case c5 => have := HB.out.size; simp; omega
            intro v' w1 hown' hgrow _
            have hb1 : Below w.heap.size w w1 := (HB.out.alloc HB.out.size _).grown hgrow (by have := HB.out.size; simp; omega) (ownb_block OW.out)
            have O1 := hid (show OwnB w1 w.heap.size v' (l ++ [y]) by unfold OwnB; rw [List.length_append, byteCells_app]; exact hown')
            have B1 := hid hb1
            obtain ⟨va', vc', rfl⟩ := ownb_form O1.out
            clear hown' hgrow hb1 OW HB
            go_wp2_with fail
            exact ⟨⟨k + 1, l ++ [y], by omega, by go_num, B1, O1, by simp; omega, HT⟩, by simp [intOf]; omega⟩
    · have h2 := txS_end s f k l hlt
      have HT := hid (HT.out.trans h2)
      clear h2
      go_wp2
      (try simp only [Exit.inBlock, Exit.then])
      refine bodyPost_ret (results_tmp4 rfl _ _ _) rfl ⟨?_, HB.out⟩
      rw [HT.out]
      rfl
end Go.Proofs.YtcldglilhhhdoaaGreatDoor.L
namespace Go.Proofs.YtcldglilhhhdoaaGreatDoor.L
open Go.RowKit Go.Shelf
set_option linter.unusedVariables false
/-- A letter, a digit or an underline. -/
def inwB (x : Int) : Bool := digB x || decide (97 ≤ x ∧ x ≤ 122) || decide (65 ≤ x ∧ x ≤ 90) || x == 95
def blkB (x : Int) : Bool := x == 32 || x == 9 || x == 10 || x == 13
theorem ldig_any (x : Int) (w : World) : Calls Tryz.prog 85 #[.int .u8 x] w fun e w' => e = .returned (.bool (digB x)) ∧ w' = w := by
  unfold digB
  by_cases a : 48 ≤ x
  · by_cases b : x ≤ 57
    · go_enter Tryz.func85, Tryz.ntmps85
      go_wp2
      go_ret
      exact ⟨ret_bool (by simp [a, b]), rfl⟩
    · go_enter Tryz.func85, Tryz.ntmps85
      go_wp2
      go_ret
      exact ⟨ret_bool (by simp; omega), rfl⟩
  · go_enter Tryz.func85, Tryz.ntmps85
    go_wp2
    go_ret
    exact ⟨ret_bool (by simp; omega), rfl⟩
set_option maxHeartbeats 1000000 in
theorem linw_any (x : Int) (w : World) : Calls Tryz.prog 87 #[.int .u8 x] w fun e w' => e = .returned (.bool (inwB x)) ∧ w' = w := by
  have HD := hid (fun W => ldig_any x W)
  obtain ⟨r, hr⟩ : ∃ r, inwB x = r := ⟨_, rfl⟩
  rw [hr]
  unfold inwB at hr
  by_cases d : digB x = true
  · rw [d] at HD hr
    have hr' : r = true := by rw [← hr]; rfl
    subst hr'
    go_enter Tryz.func87, Tryz.ntmps87
    go_wp2_with (go_at_call 85; refine (HD.out _).mono ?_; rintro e w1 ⟨rfl, hww⟩; subst hww)
    go_ret
    exact ⟨ret_bool (by first | rfl | (simp; omega)), rfl⟩
  · have d' : digB x = false := by simpa using d
    rw [d'] at HD hr
    clear d d'
    by_cases a : 97 ≤ x
    · by_cases b : x ≤ 122
      · have hr' : r = true := by rw [← hr]; simp [a, b]
        subst hr'
        go_enter Tryz.func87, Tryz.ntmps87
        go_wp2_with (go_at_call 85; refine (HD.out _).mono ?_; rintro e w1 ⟨rfl, hww⟩; subst hww)
        go_ret
        exact ⟨ret_bool (by first | rfl | (simp; omega)), rfl⟩
      · have h1 : 65 ≤ x := by omega
        have h2 : ¬ x ≤ 90 := by omega
        have h3 : (x == 95) = false := by simp; omega
        have hr' : r = false := by rw [← hr]; simp; omega
        subst hr'
        go_enter Tryz.func87, Tryz.ntmps87
        go_wp2_with (go_at_call 85; refine (HD.out _).mono ?_; rintro e w1 ⟨rfl, hww⟩; subst hww)
        go_ret
        exact ⟨ret_bool (by first | rfl | (simp; omega)), rfl⟩
    · by_cases h1 : 65 ≤ x
      · by_cases h2 : x ≤ 90
        · have hr' : r = true := by rw [← hr]; simp [h1, h2]
          subst hr'
          go_enter Tryz.func87, Tryz.ntmps87
          go_wp2_with (go_at_call 85; refine (HD.out _).mono ?_; rintro e w1 ⟨rfl, hww⟩; subst hww)
          go_ret
          exact ⟨ret_bool (by first | rfl | (simp; omega)), rfl⟩
        · by_cases h3 : x = 95
          · subst h3
            have hr' : r = true := by rw [← hr]; decide
            subst hr'
            go_enter Tryz.func87, Tryz.ntmps87
            go_wp2_with (go_at_call 85; refine (HD.out _).mono ?_; rintro e w1 ⟨rfl, hww⟩; subst hww)
            go_ret
            exact ⟨ret_bool (by first | rfl | (simp; omega)), rfl⟩
          · have h3' : (x == 95) = false := by simpa using h3
            have hr' : r = false := by rw [← hr]; simp; omega
            subst hr'
            go_enter Tryz.func87, Tryz.ntmps87
            go_wp2_with (go_at_call 85; refine (HD.out _).mono ?_; rintro e w1 ⟨rfl, hww⟩; subst hww)
            go_ret
            exact ⟨ret_bool (by first | rfl | (simp; omega)), rfl⟩
      · have h3' : (x == 95) = false := by simp; omega
        have hr' : r = false := by rw [← hr]; simp; omega
        subst hr'
        go_enter Tryz.func87, Tryz.ntmps87
        go_wp2_with (go_at_call 85; refine (HD.out _).mono ?_; rintro e w1 ⟨rfl, hww⟩; subst hww)
        go_ret
        exact ⟨ret_bool (by first | rfl | (simp; omega)), rfl⟩
set_option maxHeartbeats 1000000 in
theorem rinw_any (x : Int) (w : World) : Calls Tryz.prog 79 #[.int .u8 x] w fun e w' => e = .returned (.bool (inwB x)) ∧ w' = w := by
  have HD := hid (fun W => rdig_any x W)
  obtain ⟨r, hr⟩ : ∃ r, inwB x = r := ⟨_, rfl⟩
  rw [hr]
  unfold inwB at hr
  by_cases d : digB x = true
  · rw [d] at HD hr
    have hr' : r = true := by rw [← hr]; rfl
    subst hr'
    go_enter Tryz.func79, Tryz.ntmps79
    go_wp2_with (go_at_call 77; refine (HD.out _).mono ?_; rintro e w1 ⟨rfl, hww⟩; subst hww)
    go_ret
    exact ⟨ret_bool (by first | rfl | (simp; omega)), rfl⟩
  · have d' : digB x = false := by simpa using d
    rw [d'] at HD hr
    clear d d'
    by_cases a : 97 ≤ x
    · by_cases b : x ≤ 122
      · have hr' : r = true := by rw [← hr]; simp [a, b]
        subst hr'
        go_enter Tryz.func79, Tryz.ntmps79
        go_wp2_with (go_at_call 77; refine (HD.out _).mono ?_; rintro e w1 ⟨rfl, hww⟩; subst hww)
        go_ret
        exact ⟨ret_bool (by first | rfl | (simp; omega)), rfl⟩
      · have h1 : 65 ≤ x := by omega
        have h2 : ¬ x ≤ 90 := by omega
        have h3 : (x == 95) = false := by simp; omega
        have hr' : r = false := by rw [← hr]; simp; omega
        subst hr'
        go_enter Tryz.func79, Tryz.ntmps79
        go_wp2_with (go_at_call 77; refine (HD.out _).mono ?_; rintro e w1 ⟨rfl, hww⟩; subst hww)
        go_ret
        exact ⟨ret_bool (by first | rfl | (simp; omega)), rfl⟩
    · by_cases h1 : 65 ≤ x
      · by_cases h2 : x ≤ 90
        · have hr' : r = true := by rw [← hr]; simp [h1, h2]
          subst hr'
          go_enter Tryz.func79, Tryz.ntmps79
          go_wp2_with (go_at_call 77; refine (HD.out _).mono ?_; rintro e w1 ⟨rfl, hww⟩; subst hww)
          go_ret
          exact ⟨ret_bool (by first | rfl | (simp; omega)), rfl⟩
        · by_cases h3 : x = 95
          · subst h3
            have hr' : r = true := by rw [← hr]; decide
            subst hr'
            go_enter Tryz.func79, Tryz.ntmps79
            go_wp2_with (go_at_call 77; refine (HD.out _).mono ?_; rintro e w1 ⟨rfl, hww⟩; subst hww)
            go_ret
            exact ⟨ret_bool (by first | rfl | (simp; omega)), rfl⟩
          · have h3' : (x == 95) = false := by simpa using h3
            have hr' : r = false := by rw [← hr]; simp; omega
            subst hr'
            go_enter Tryz.func79, Tryz.ntmps79
            go_wp2_with (go_at_call 77; refine (HD.out _).mono ?_; rintro e w1 ⟨rfl, hww⟩; subst hww)
            go_ret
            exact ⟨ret_bool (by first | rfl | (simp; omega)), rfl⟩
      · have h3' : (x == 95) = false := by simp; omega
        have hr' : r = false := by rw [← hr]; simp; omega
        subst hr'
        go_enter Tryz.func79, Tryz.ntmps79
        go_wp2_with (go_at_call 77; refine (HD.out _).mono ?_; rintro e w1 ⟨rfl, hww⟩; subst hww)
        go_ret
        exact ⟨ret_bool (by first | rfl | (simp; omega)), rfl⟩
set_option maxHeartbeats 1000000 in
theorem lblk_any (x : Int) (w : World) : Calls Tryz.prog 67 #[.int .u8 x] w fun e w' => e = .returned (.bool (blkB x)) ∧ w' = w := by
  unfold blkB
  by_cases c1 : x = 32
  · subst c1
    go_enter Tryz.func67, Tryz.ntmps67
    go_wp2
    go_ret
    exact ⟨ret_bool (by first | rfl | (simp; omega)), rfl⟩
  have d1 : (x == 32) = false := by simpa using c1
  by_cases c2 : x = 9
  · subst c2
    go_enter Tryz.func67, Tryz.ntmps67
    go_wp2
    go_ret
    exact ⟨ret_bool (by first | rfl | (simp; omega)), rfl⟩
  have d2 : (x == 9) = false := by simpa using c2
  by_cases c3 : x = 10
  · subst c3
    go_enter Tryz.func67, Tryz.ntmps67
    go_wp2
    go_ret
    exact ⟨ret_bool (by first | rfl | (simp; omega)), rfl⟩
  have d3 : (x == 10) = false := by simpa using c3
  by_cases c4 : x = 13
  · subst c4
    go_enter Tryz.func67, Tryz.ntmps67
    go_wp2
    go_ret
    exact ⟨ret_bool (by first | rfl | (simp; omega)), rfl⟩
  have d4 : (x == 13) = false := by simpa using c4
  clear c1 c2 c3 c4
  go_enter Tryz.func67, Tryz.ntmps67
  go_wp2
  go_ret
  exact ⟨ret_bool (by simp [d1, d2, d3, d4]), rfl⟩
/-- The first place from k on of which a word does not take in the byte. -/
def behW (s : ByteArray) (k : Nat) : Nat :=
  if h : k < s.size then (if inwB (iv (bt s k)) = true then behW s (k + 1) else k) else k
termination_by s.size - k
theorem behW_go (s : ByteArray) (k : Nat) (h : k < s.size) (c : inwB (iv (bt s k)) = true) : behW s k = behW s (k + 1) := by
  rw [behW, dif_pos h, if_pos c]
theorem behW_no (s : ByteArray) (k : Nat) (h : k < s.size) (c : inwB (iv (bt s k)) = false) : behW s k = k := by
  rw [behW, dif_pos h, if_neg (by rw [c]; decide)]
theorem behW_end (s : ByteArray) (k : Nat) (h : ¬ k < s.size) : behW s k = k := by
  rw [behW, dif_neg h]
theorem behW_in (s : ByteArray) : ∀ (n k : Nat), s.size - k = n → k ≤ behW s k ∧ (k ≤ s.size → behW s k ≤ s.size) := by
  intro n
  induction n with
  | zero =>
    intro k hn
    rw [behW_end s k (by omega)]
    exact ⟨Nat.le_refl _, fun h => h⟩
  | succ n ih =>
    intro k hn
    have hlt : k < s.size := by omega
    cases c : inwB (iv (bt s k))
    · rw [behW_no s k hlt c]
      exact ⟨Nat.le_refl _, fun h => h⟩
    · rw [behW_go s k hlt c]
      have := ih (k + 1) (by omega)
      exact ⟨by omega, fun _ => this.2 (by omega)⟩
set_option maxHeartbeats 1000000 in
theorem lbeh_any (s : ByteArray) (k0 : Nat) (w : World) (hs : s.size ≤ 4096) (hk0 : k0 ≤ s.size) : Calls Tryz.prog 89 #[.string s, .int .i64 (k0 : Int)] w fun e w' => e = .returned (.int .i64 (behW s k0)) ∧ w' = w := by
  have IW := hid (fun (x : Int) (W : World) => linw_any x W)
  go_enter Tryz.func89, Tryz.ntmps89
  go_wp2_with fail
  go_loop [1] (fun i => ∃ k : Nat, k ≤ s.size ∧ i = .int .i64 k ∧ Hid (behW s k0 = behW s k)) (fun i => s.size - (intOf i).toNat)
  case atStart => exact ⟨k0, hk0, rfl, hid rfl⟩
  case round =>
    obtain ⟨k, hk, rfl, HT⟩ := hrel
    by_cases hlt : k < s.size
    · have hc := iv_get s k hlt
      obtain ⟨x, hx⟩ : ∃ x, iv (bt s k) = x := ⟨_, rfl⟩
      rw [hx] at hc
      have HI := hid (fun W => IW.out x W)
      cases c : inwB x
      · have HT := hid (HT.out.trans (behW_no s k hlt (by rw [hx]; exact c)))
        rw [c] at HI
        clear hx c
        go_wp2_with (go_at_call 87; refine (HI.out _).mono ?_; rintro e w1 ⟨rfl, hww⟩; subst hww)
        go_ret
        exact ⟨by rw [HT.out]; rfl, rfl⟩
      · have HT := hid (HT.out.trans (behW_go s k hlt (by rw [hx]; exact c)))
        rw [c] at HI
        clear hx c
        go_wp2_with (go_at_call 87; refine (HI.out _).mono ?_; rintro e w1 ⟨rfl, hww⟩; subst hww)
        exact ⟨⟨k + 1, by omega, by go_num, HT⟩, by simp [intOf]; omega⟩
    · have HT := hid (HT.out.trans (behW_end s k hlt))
      go_wp2
      go_ret
      exact ⟨by rw [HT.out]; rfl, rfl⟩
end Go.Proofs.YtcldglilhhhdoaaGreatDoor.L
namespace Go.Proofs.YtcldglilhhhdoaaGreatDoor
open Go.Shelf
def laysM171_ren : Go.Shelf.Ren := ⟨fun | 171 => 136 | 243 => 140 | 246 => 142 | 283 => 143 | 284 => 144 | 285 => 145 | 286 => 146 | 129 => 148 | 317 => 147 | 318 => 149 | 319 => 150 | 320 => 151 | 337 => 152 | 338 => 153 | n => n, fun | 3 => 3 | 9 => 9 | 2 => 2 | 4 => 4 | 171 => 164 | 0 => 0 | 53 => 152 | 37 => 84 | 5 => 5 | 173 => 167 | 212 => 170 | 51 => 171 | 20 => 20 | 213 => 172 | 46 => 102 | 232 => 176 | 233 => 177 | n => n, fun | 17 => 3 | 18 => 4 | 19 => 5 | n => n⟩
theorem laysM171 : Go.Proofs.LaysM.n171 Tryz.prog laysM171_ren := {
  mixed := by kernel_rfl
  f129 := Tryz.func148.trans (congrArg some (by kernel_rfl))
  f171 := Tryz.func136.trans (congrArg some (by kernel_rfl))
  f243 := Tryz.func140.trans (congrArg some (by kernel_rfl))
  f246 := Tryz.func142.trans (congrArg some (by kernel_rfl))
  f283 := Tryz.func143.trans (congrArg some (by kernel_rfl))
  f284 := Tryz.func144.trans (congrArg some (by kernel_rfl))
  f285 := Tryz.func145.trans (congrArg some (by kernel_rfl))
  f286 := Tryz.func146.trans (congrArg some (by kernel_rfl))
  f317 := Tryz.func147.trans (congrArg some (by kernel_rfl))
  f318 := Tryz.func149.trans (congrArg some (by kernel_rfl))
  f319 := Tryz.func150.trans (congrArg some (by kernel_rfl))
  f320 := Tryz.func151.trans (congrArg some (by kernel_rfl))
  f337 := Tryz.func152.trans (congrArg some (by kernel_rfl))
  f338 := Tryz.func153.trans (congrArg some (by kernel_rfl))
  t0 := Tryz.underlying0
  a0 := Tryz.isAgg0
  z0 := Tryz.sizeOf0
  v0 := Tryz.zeroValue0
  t2 := Tryz.underlying2
  a2 := Tryz.isAgg2
  z2 := Tryz.sizeOf2
  v2 := Tryz.zeroValue2
  t3 := Tryz.underlying3
  a3 := Tryz.isAgg3
  z3 := Tryz.sizeOf3
  v3 := Tryz.zeroValue3
  t4 := Tryz.underlying4
  a4 := Tryz.isAgg4
  z4 := Tryz.sizeOf4
  v4 := Tryz.zeroValue4
  t5 := Tryz.underlying5
  a5 := Tryz.isAgg5
  z5 := Tryz.sizeOf5
  v5 := Tryz.zeroValue5
  t9 := Tryz.underlying9
  a9 := Tryz.isAgg9
  z9 := Tryz.sizeOf9
  v9 := Tryz.zeroValue9
  t20 := Tryz.underlying20
  a20 := Tryz.isAgg20
  z20 := Tryz.sizeOf20
  v20 := Tryz.zeroValue20
  t37 := Tryz.underlying84
  a37 := Tryz.isAgg84
  z37 := Tryz.sizeOf84
  v37 := Tryz.zeroValue84
  t46 := Tryz.underlying102
  a46 := Tryz.isAgg102
  z46 := Tryz.sizeOf102
  v46 := Tryz.zeroValue102
  t51 := Tryz.underlying171
  a51 := Tryz.isAgg171
  z51 := Tryz.sizeOf171
  v51 := Tryz.zeroValue171
  t53 := Tryz.underlying152
  a53 := Tryz.isAgg152
  z53 := Tryz.sizeOf152
  v53 := Tryz.zeroValue152
  t171 := Tryz.underlying164
  a171 := Tryz.isAgg164
  z171 := Tryz.sizeOf164
  v171 := Tryz.zeroValue164
  t173 := Tryz.underlying167
  a173 := Tryz.isAgg167
  z173 := Tryz.sizeOf167
  v173 := Tryz.zeroValue167
  t212 := Tryz.underlying170
  a212 := Tryz.isAgg170
  z212 := Tryz.sizeOf170
  v212 := Tryz.zeroValue170
  t213 := Tryz.underlying172
  a213 := Tryz.isAgg172
  z213 := Tryz.sizeOf172
  t232 := Tryz.underlying176
  a232 := Tryz.isAgg176
  z232 := Tryz.sizeOf176
  v232 := Tryz.zeroValue176
  t233 := Tryz.underlying177
  a233 := Tryz.isAgg177
  z233 := Tryz.sizeOf177
  v233 := Tryz.zeroValue177
  g17 := by kernel_rfl
  g18 := by kernel_rfl
  g19 := by kernel_rfl
  i0 := by kernel_rfl
  i2 := by kernel_rfl
  i3 := by kernel_rfl
  i4 := by kernel_rfl
  i5 := by kernel_rfl
  i9 := by kernel_rfl
  i20 := by kernel_rfl
  i37 := by kernel_rfl
  i46 := by kernel_rfl
  i51 := by kernel_rfl
  i53 := by kernel_rfl
  i171 := by kernel_rfl
  i173 := by kernel_rfl
  i212 := by kernel_rfl
  i232 := by kernel_rfl
  i233 := by kernel_rfl
  m17 := by kernel_rfl
  m18 := by kernel_rfl
  m19 := by kernel_rfl }
def laysC172_ren : Go.Shelf.Ren := ⟨fun | 172 => 111 | 244 => 120 | 245 => 121 | 247 => 127 | 279 => 128 | 280 => 129 | 281 => 130 | 282 => 131 | 287 => 134 | 316 => 112 | 171 => 136 | 205 => 135 | 321 => 138 | 322 => 139 | 243 => 140 | 246 => 142 | 283 => 143 | 284 => 144 | 285 => 145 | 286 => 146 | 129 => 148 | 317 => 147 | 318 => 149 | 319 => 150 | 320 => 151 | 337 => 152 | 338 => 153 | n => n, fun | 9 => 9 | 3 => 3 | 75 => 28 | 76 => 100 | 4 => 4 | 5 => 5 | 167 => 144 | 37 => 84 | 0 => 0 | 85 => 145 | 2 => 2 | 168 => 147 | 53 => 152 | 175 => 153 | 46 => 102 | 210 => 156 | 127 => 103 | 145 => 161 | 143 => 159 | 21 => 21 | 171 => 164 | 173 => 167 | 212 => 170 | 51 => 171 | 20 => 20 | 213 => 172 | 232 => 176 | 233 => 177 | 80 => 89 | n => n, fun | 15 => 1 | 16 => 2 | 17 => 3 | 18 => 4 | 19 => 5 | n => n⟩
theorem laysC172 : Go.Proofs.LaysC.n172 Tryz.prog laysC172_ren := {
  mixed := by kernel_rfl
  f129 := Tryz.func148.trans (congrArg some (by kernel_rfl))
  f171 := Tryz.func136.trans (congrArg some (by kernel_rfl))
  f172 := Tryz.func111.trans (congrArg some (by kernel_rfl))
  f205 := Tryz.func135.trans (congrArg some (by kernel_rfl))
  f243 := Tryz.func140.trans (congrArg some (by kernel_rfl))
  f244 := Tryz.func120.trans (congrArg some (by kernel_rfl))
  f245 := Tryz.func121.trans (congrArg some (by kernel_rfl))
  f246 := Tryz.func142.trans (congrArg some (by kernel_rfl))
  f247 := Tryz.func127.trans (congrArg some (by kernel_rfl))
  f279 := Tryz.func128.trans (congrArg some (by kernel_rfl))
  f280 := Tryz.func129.trans (congrArg some (by kernel_rfl))
  f281 := Tryz.func130.trans (congrArg some (by kernel_rfl))
  f282 := Tryz.func131.trans (congrArg some (by kernel_rfl))
  f283 := Tryz.func143.trans (congrArg some (by kernel_rfl))
  f284 := Tryz.func144.trans (congrArg some (by kernel_rfl))
  f285 := Tryz.func145.trans (congrArg some (by kernel_rfl))
  f286 := Tryz.func146.trans (congrArg some (by kernel_rfl))
  f287 := Tryz.func134.trans (congrArg some (by kernel_rfl))
  f316 := Tryz.func112.trans (congrArg some (by kernel_rfl))
  f317 := Tryz.func147.trans (congrArg some (by kernel_rfl))
  f318 := Tryz.func149.trans (congrArg some (by kernel_rfl))
  f319 := Tryz.func150.trans (congrArg some (by kernel_rfl))
  f320 := Tryz.func151.trans (congrArg some (by kernel_rfl))
  f321 := Tryz.func138.trans (congrArg some (by kernel_rfl))
  f322 := Tryz.func139.trans (congrArg some (by kernel_rfl))
  f337 := Tryz.func152.trans (congrArg some (by kernel_rfl))
  f338 := Tryz.func153.trans (congrArg some (by kernel_rfl))
  t0 := Tryz.underlying0
  a0 := Tryz.isAgg0
  z0 := Tryz.sizeOf0
  v0 := Tryz.zeroValue0
  t2 := Tryz.underlying2
  a2 := Tryz.isAgg2
  z2 := Tryz.sizeOf2
  v2 := Tryz.zeroValue2
  t3 := Tryz.underlying3
  a3 := Tryz.isAgg3
  z3 := Tryz.sizeOf3
  v3 := Tryz.zeroValue3
  t4 := Tryz.underlying4
  a4 := Tryz.isAgg4
  z4 := Tryz.sizeOf4
  v4 := Tryz.zeroValue4
  t5 := Tryz.underlying5
  a5 := Tryz.isAgg5
  z5 := Tryz.sizeOf5
  v5 := Tryz.zeroValue5
  t9 := Tryz.underlying9
  a9 := Tryz.isAgg9
  z9 := Tryz.sizeOf9
  v9 := Tryz.zeroValue9
  t20 := Tryz.underlying20
  a20 := Tryz.isAgg20
  z20 := Tryz.sizeOf20
  v20 := Tryz.zeroValue20
  t21 := Tryz.underlying21
  a21 := Tryz.isAgg21
  z21 := Tryz.sizeOf21
  v21 := Tryz.zeroValue21
  t37 := Tryz.underlying84
  a37 := Tryz.isAgg84
  z37 := Tryz.sizeOf84
  v37 := Tryz.zeroValue84
  t46 := Tryz.underlying102
  a46 := Tryz.isAgg102
  z46 := Tryz.sizeOf102
  v46 := Tryz.zeroValue102
  t51 := Tryz.underlying171
  a51 := Tryz.isAgg171
  z51 := Tryz.sizeOf171
  v51 := Tryz.zeroValue171
  t53 := Tryz.underlying152
  a53 := Tryz.isAgg152
  z53 := Tryz.sizeOf152
  v53 := Tryz.zeroValue152
  t75 := Tryz.underlying28
  a75 := Tryz.isAgg28
  z75 := Tryz.sizeOf28
  v75 := Tryz.zeroValue28
  t76 := Tryz.underlying100
  a76 := Tryz.isAgg100
  z76 := Tryz.sizeOf100
  v76 := Tryz.zeroValue100
  t85 := Tryz.underlying145
  a85 := Tryz.isAgg145
  z85 := Tryz.sizeOf145
  v85 := Tryz.zeroValue145
  t127 := Tryz.underlying103
  a127 := Tryz.isAgg103
  z127 := Tryz.sizeOf103
  v127 := Tryz.zeroValue103
  t143 := Tryz.underlying159
  a143 := Tryz.isAgg159
  z143 := Tryz.sizeOf159
  v143 := Tryz.zeroValue159
  t145 := Tryz.underlying161
  a145 := Tryz.isAgg161
  z145 := Tryz.sizeOf161
  v145 := Tryz.zeroValue161
  t167 := Tryz.underlying144
  a167 := Tryz.isAgg144
  z167 := Tryz.sizeOf144
  v167 := Tryz.zeroValue144
  t168 := Tryz.underlying147
  a168 := Tryz.isAgg147
  z168 := Tryz.sizeOf147
  v168 := Tryz.zeroValue147
  t171 := Tryz.underlying164
  a171 := Tryz.isAgg164
  z171 := Tryz.sizeOf164
  v171 := Tryz.zeroValue164
  t173 := Tryz.underlying167
  a173 := Tryz.isAgg167
  z173 := Tryz.sizeOf167
  v173 := Tryz.zeroValue167
  t175 := Tryz.underlying153
  a175 := Tryz.isAgg153
  z175 := Tryz.sizeOf153
  v175 := Tryz.zeroValue153
  t210 := Tryz.underlying156
  a210 := Tryz.isAgg156
  z210 := Tryz.sizeOf156
  v210 := Tryz.zeroValue156
  t212 := Tryz.underlying170
  a212 := Tryz.isAgg170
  z212 := Tryz.sizeOf170
  v212 := Tryz.zeroValue170
  t213 := Tryz.underlying172
  a213 := Tryz.isAgg172
  z213 := Tryz.sizeOf172
  t232 := Tryz.underlying176
  a232 := Tryz.isAgg176
  z232 := Tryz.sizeOf176
  v232 := Tryz.zeroValue176
  t233 := Tryz.underlying177
  a233 := Tryz.isAgg177
  z233 := Tryz.sizeOf177
  v233 := Tryz.zeroValue177
  g15 := by kernel_rfl
  g16 := by kernel_rfl
  g17 := by kernel_rfl
  g18 := by kernel_rfl
  g19 := by kernel_rfl
  t80 := Tryz.underlying89
  a80 := Tryz.isAgg89
  z80 := Tryz.sizeOf89
  v80 := Tryz.zeroValue89
  i0 := by kernel_rfl
  i2 := by kernel_rfl
  i3 := by kernel_rfl
  i4 := by kernel_rfl
  i5 := by kernel_rfl
  i9 := by kernel_rfl
  i20 := by kernel_rfl
  i21 := by kernel_rfl
  i37 := by kernel_rfl
  i46 := by kernel_rfl
  i51 := by kernel_rfl
  i53 := by kernel_rfl
  i75 := by kernel_rfl
  i76 := by kernel_rfl
  i80 := by kernel_rfl
  i85 := by kernel_rfl
  i127 := by kernel_rfl
  i143 := by kernel_rfl
  i145 := by kernel_rfl
  i167 := by kernel_rfl
  i168 := by kernel_rfl
  i171 := by kernel_rfl
  i173 := by kernel_rfl
  i175 := by kernel_rfl
  i210 := by kernel_rfl
  i212 := by kernel_rfl
  i232 := by kernel_rfl
  i233 := by kernel_rfl
  m15 := by kernel_rfl
  m16 := by kernel_rfl
  m17 := by kernel_rfl
  m18 := by kernel_rfl
  m19 := by kernel_rfl
  c0 := by kernel_rfl
  c2 := by kernel_rfl
  c3 := by kernel_rfl
  c4 := by kernel_rfl
  c5 := by kernel_rfl
  c9 := by kernel_rfl
  c20 := by kernel_rfl
  c21 := by kernel_rfl
  c37 := by kernel_rfl
  c46 := by kernel_rfl
  c51 := by kernel_rfl
  c53 := by kernel_rfl
  c75 := by kernel_rfl
  c76 := by kernel_rfl
  c80 := by kernel_rfl
  c85 := by kernel_rfl
  c127 := by kernel_rfl
  c143 := by kernel_rfl
  c145 := by kernel_rfl
  c167 := by kernel_rfl
  c168 := by kernel_rfl
  c171 := by kernel_rfl
  c173 := by kernel_rfl
  c175 := by kernel_rfl
  c210 := by kernel_rfl
  c212 := by kernel_rfl
  c213 := by kernel_rfl
  c232 := by kernel_rfl
  c233 := by kernel_rfl }
def laysM316_ren : Go.Shelf.Ren := ⟨fun | 316 => 112 | n => n, fun | 9 => 9 | 3 => 3 | 4 => 4 | 37 => 84 | 0 => 0 | 127 => 103 | 5 => 5 | n => n, fun | n => n⟩
theorem laysM316 : Go.Proofs.LaysM.n316 Tryz.prog laysM316_ren := {
  mixed := by kernel_rfl
  f316 := Tryz.func112.trans (congrArg some (by kernel_rfl))
  t0 := Tryz.underlying0
  a0 := Tryz.isAgg0
  z0 := Tryz.sizeOf0
  v0 := Tryz.zeroValue0
  t3 := Tryz.underlying3
  a3 := Tryz.isAgg3
  z3 := Tryz.sizeOf3
  v3 := Tryz.zeroValue3
  t4 := Tryz.underlying4
  a4 := Tryz.isAgg4
  z4 := Tryz.sizeOf4
  v4 := Tryz.zeroValue4
  t9 := Tryz.underlying9
  a9 := Tryz.isAgg9
  z9 := Tryz.sizeOf9
  v9 := Tryz.zeroValue9
  t37 := Tryz.underlying84
  a37 := Tryz.isAgg84
  z37 := Tryz.sizeOf84
  v37 := Tryz.zeroValue84
  t127 := Tryz.underlying103
  a127 := Tryz.isAgg103
  z127 := Tryz.sizeOf103
  v127 := Tryz.zeroValue103
  t5 := Tryz.underlying5
  a5 := Tryz.isAgg5
  z5 := Tryz.sizeOf5
  v5 := Tryz.zeroValue5
  i0 := by kernel_rfl
  i3 := by kernel_rfl
  i4 := by kernel_rfl
  i5 := by kernel_rfl
  i9 := by kernel_rfl
  i37 := by kernel_rfl
  i127 := by kernel_rfl }
end Go.Proofs.YtcldglilhhhdoaaGreatDoor
