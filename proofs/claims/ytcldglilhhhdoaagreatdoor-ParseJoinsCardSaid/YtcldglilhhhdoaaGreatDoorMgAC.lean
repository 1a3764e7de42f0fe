import Derived.Test.YtcldglilhhhdoaaGreatDoorX5
import Derived.Laws.IdiomStrings
import Derived.Laws.BytesArg
import Derived.WideShapes
namespace Go.Proofs.YtcldglilhhhdoaaGreatDoor.L
open Go.RowKit Go.Shelf
set_option linter.unusedVariables false
def digB (x : Int) : Bool := decide (48 ≤ x ∧ x ≤ 57)
end Go.Proofs.YtcldglilhhhdoaaGreatDoor.L
namespace Go.Proofs.YtcldglilhhhdoaaGreatDoor.L
open Go.RowKit Go.Shelf
set_option linter.unusedVariables false
theorem iv_inj {a b : UInt8} (h : iv a = iv b) : a = b := by
  apply UInt8.toNat_inj.1
  unfold iv at h
  omega
theorem ne_iv {a : UInt8} {n : UInt8} (h : a ≠ n) : (iv a == iv n) = false := by
  simp
  intro e
  exact h (iv_inj e)
end Go.Proofs.YtcldglilhhhdoaaGreatDoor.L
namespace Go.Proofs.YtcldglilhhhdoaaGreatDoor.L
open Go.RowKit Go.Shelf
set_option linter.unusedVariables false
end Go.Proofs.YtcldglilhhhdoaaGreatDoor.L
namespace Go.Proofs.YtcldglilhhhdoaaGreatDoor.L
open Go.RowKit Go.Shelf
set_option linter.unusedVariables false
/-- A letter, a digit or an underline. -/
def inwB (x : Int) : Bool := digB x || decide (97 ≤ x ∧ x ≤ 122) || decide (65 ≤ x ∧ x ≤ 90) || x == 95
def blkB (x : Int) : Bool := x == 32 || x == 9 || x == 10 || x == 13
theorem ldig_any (x : Int) (w : World) : Calls Tryz.prog 85 #[.int .u8 x] w fun e w' => e = .returned (.bool (digB x)) ∧ w' = w := by
  unfold digB
  by_cases a : 48 ≤ x
  · by_cases b : x ≤ 57
    · go_enter Tryz.func85, Tryz.ntmps85
      go_wp2
      go_ret
      exact ⟨ret_bool (by simp [a, b]), rfl⟩
    · go_enter Tryz.func85, Tryz.ntmps85
      go_wp2
      go_ret
      exact ⟨ret_bool (by simp; omega), rfl⟩
  · go_enter Tryz.func85, Tryz.ntmps85
    go_wp2
    go_ret
    exact ⟨ret_bool (by simp; omega), rfl⟩
set_option maxHeartbeats 1000000 in
theorem linw_any (x : Int) (w : World) : Calls Tryz.prog 87 #[.int .u8 x] w fun e w' => e = .returned (.bool (inwB x)) ∧ w' = w := by
  have HD := hid (fun W => ldig_any x W)
  obtain ⟨r, hr⟩ : ∃ r, inwB x = r := ⟨_, rfl⟩
  rw [hr]
  unfold inwB at hr
  by_cases d : digB x = true
  · rw [d] at HD hr
    have hr' : r = true := by rw [← hr]; rfl
    subst hr'
    go_enter Tryz.func87, Tryz.ntmps87
    go_wp2_with (go_at_call 85; refine (HD.out _).mono ?_; rintro e w1 ⟨rfl, hww⟩; subst hww)
    go_ret
    exact ⟨ret_bool (by first | rfl | (simp; omega)), rfl⟩
  · have d' : digB x = false := by simpa using d
    rw [d'] at HD hr
    clear d d'
    by_cases a : 97 ≤ x
    · by_cases b : x ≤ 122
      · have hr' : r = true := by rw [← hr]; simp [a, b]
        subst hr'
        go_enter Tryz.func87, Tryz.ntmps87
        go_wp2_with (go_at_call 85; refine (HD.out _).mono ?_; rintro e w1 ⟨rfl, hww⟩; subst hww)
        go_ret
        exact ⟨ret_bool (by first | rfl | (simp; omega)), rfl⟩
      · have h1 : 65 ≤ x := by omega
        have h2 : ¬ x ≤ 90 := by omega
        have h3 : (x == 95) = false := by simp; omega
        have hr' : r = false := by rw [← hr]; simp; omega
        subst hr'
        go_enter Tryz.func87, Tryz.ntmps87
        go_wp2_with (go_at_call 85; refine (HD.out _).mono ?_; rintro e w1 ⟨rfl, hww⟩; subst hww)
        go_ret
        exact ⟨ret_bool (by first | rfl | (simp; omega)), rfl⟩
    · by_cases h1 : 65 ≤ x
      · by_cases h2 : x ≤ 90
        · have hr' : r = true := by rw [← hr]; simp [h1, h2]
          subst hr'
          go_enter Tryz.func87, Tryz.ntmps87
          go_wp2_with (go_at_call 85; refine (HD.out _).mono ?_; rintro e w1 ⟨rfl, hww⟩; subst hww)
          go_ret
          exact ⟨ret_bool (by first | rfl | (simp; omega)), rfl⟩
        · by_cases h3 : x = 95
          · subst h3
            have hr' : r = true := by rw [← hr]; decide
            subst hr'
            go_enter Tryz.func87, Tryz.ntmps87
            go_wp2_with (go_at_call 85; refine (HD.out _).mono ?_; rintro e w1 ⟨rfl, hww⟩; subst hww)
            go_ret
            exact ⟨ret_bool (by first | rfl | (simp; omega)), rfl⟩
          · have h3' : (x == 95) = false := by simpa using h3
            have hr' : r = false := by rw [← hr]; simp; omega
            subst hr'
            go_enter Tryz.func87, Tryz.ntmps87
            go_wp2_with (go_at_call 85; refine (HD.out _).mono ?_; rintro e w1 ⟨rfl, hww⟩; subst hww)
            go_ret
            exact ⟨ret_bool (by first | rfl | (simp; omega)), rfl⟩
      · have h3' : (x == 95) = false := by simp; omega
        have hr' : r = false := by rw [← hr]; simp; omega
        subst hr'
        go_enter Tryz.func87, Tryz.ntmps87
        go_wp2_with (go_at_call 85; refine (HD.out _).mono ?_; rintro e w1 ⟨rfl, hww⟩; subst hww)
        go_ret
        exact ⟨ret_bool (by first | rfl | (simp; omega)), rfl⟩
set_option maxHeartbeats 1000000 in
theorem lblk_any (x : Int) (w : World) : Calls Tryz.prog 67 #[.int .u8 x] w fun e w' => e = .returned (.bool (blkB x)) ∧ w' = w := by
  unfold blkB
  by_cases c1 : x = 32
  · subst c1
    go_enter Tryz.func67, Tryz.ntmps67
    go_wp2
    go_ret
    exact ⟨ret_bool (by first | rfl | (simp; omega)), rfl⟩
  have d1 : (x == 32) = false := by simpa using c1
  by_cases c2 : x = 9
  · subst c2
    go_enter Tryz.func67, Tryz.ntmps67
    go_wp2
    go_ret
    exact ⟨ret_bool (by first | rfl | (simp; omega)), rfl⟩
  have d2 : (x == 9) = false := by simpa using c2
  by_cases c3 : x = 10
  · subst c3
    go_enter Tryz.func67, Tryz.ntmps67
    go_wp2
    go_ret
    exact ⟨ret_bool (by first | rfl | (simp; omega)), rfl⟩
  have d3 : (x == 10) = false := by simpa using c3
  by_cases c4 : x = 13
  · subst c4
    go_enter Tryz.func67, Tryz.ntmps67
    go_wp2
    go_ret
    exact ⟨ret_bool (by first | rfl | (simp; omega)), rfl⟩
  have d4 : (x == 13) = false := by simpa using c4
  clear c1 c2 c3 c4
  go_enter Tryz.func67, Tryz.ntmps67
  go_wp2
  go_ret
  exact ⟨ret_bool (by simp [d1, d2, d3, d4]), rfl⟩
/-- The first place from k on of which a word does not take in the byte. -/
def behW (s : ByteArray) (k : Nat) : Nat :=
  if h : k < s.size then (if inwB (iv (bt s k)) = true then behW s (k + 1) else k) else k
termination_by s.size - k
theorem behW_go (s : ByteArray) (k : Nat) (h : k < s.size) (c : inwB (iv (bt s k)) = true) : behW s k = behW s (k + 1) := by
  rw [behW, dif_pos h, if_pos c]
theorem behW_no (s : ByteArray) (k : Nat) (h : k < s.size) (c : inwB (iv (bt s k)) = false) : behW s k = k := by
  rw [behW, dif_pos h, if_neg (by rw [c]; decide)]
theorem behW_end (s : ByteArray) (k : Nat) (h : ¬ k < s.size) : behW s k = k := by
  rw [behW, dif_neg h]
theorem behW_in (s : ByteArray) : ∀ (n k : Nat), s.size - k = n → k ≤ behW s k ∧ (k ≤ s.size → behW s k ≤ s.size) := by
  intro n
  induction n with
  | zero =>
    intro k hn
    rw [behW_end s k (by omega)]
    exact ⟨Nat.le_refl _, fun h => h⟩
  | succ n ih =>
    intro k hn
    have hlt : k < s.size := by omega
    cases c : inwB (iv (bt s k))
    · rw [behW_no s k hlt c]
      exact ⟨Nat.le_refl _, fun h => h⟩
    · rw [behW_go s k hlt c]
      have := ih (k + 1) (by omega)
      exact ⟨by omega, fun _ => this.2 (by omega)⟩
set_option maxHeartbeats 1000000 in
theorem lbeh_any (s : ByteArray) (k0 : Nat) (w : World) (hs : s.size ≤ 4096) (hk0 : k0 ≤ s.size) : Calls Tryz.prog 89 #[.string s, .int .i64 (k0 : Int)] w fun e w' => e = .returned (.int .i64 (behW s k0)) ∧ w' = w := by
  have IW := hid (fun (x : Int) (W : World) => linw_any x W)
  go_enter Tryz.func89, Tryz.ntmps89
  go_wp2_with fail
  go_loop [1] (fun i => ∃ k : Nat, k ≤ s.size ∧ i = .int .i64 k ∧ Hid (behW s k0 = behW s k)) (fun i => s.size - (intOf i).toNat)
  case atStart => exact ⟨k0, hk0, rfl, hid rfl⟩
  case round =>
    obtain ⟨k, hk, rfl, HT⟩ := hrel
    by_cases hlt : k < s.size
    · have hc := iv_get s k hlt
      obtain ⟨x, hx⟩ : ∃ x, iv (bt s k) = x := ⟨_, rfl⟩
      rw [hx] at hc
      have HI := hid (fun W => IW.out x W)
      cases c : inwB x
      · have HT := hid (HT.out.trans (behW_no s k hlt (by rw [hx]; exact c)))
        rw [c] at HI
        clear hx c
        go_wp2_with (go_at_call 87; refine (HI.out _).mono ?_; rintro e w1 ⟨rfl, hww⟩; subst hww)
        go_ret
        exact ⟨by rw [HT.out]; rfl, rfl⟩
      · have HT := hid (HT.out.trans (behW_go s k hlt (by rw [hx]; exact c)))
        rw [c] at HI
        clear hx c
        go_wp2_with (go_at_call 87; refine (HI.out _).mono ?_; rintro e w1 ⟨rfl, hww⟩; subst hww)
        exact ⟨⟨k + 1, by omega, by go_num, HT⟩, by simp [intOf]; omega⟩
    · have HT := hid (HT.out.trans (behW_end s k hlt))
      go_wp2
      go_ret
      exact ⟨by rw [HT.out]; rfl, rfl⟩
end Go.Proofs.YtcldglilhhhdoaaGreatDoor.L
