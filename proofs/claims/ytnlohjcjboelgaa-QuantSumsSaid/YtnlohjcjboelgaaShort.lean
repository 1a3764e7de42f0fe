import Derived.Test.YtnlohjcjboelgaaGet
import Derived.Deep.RegionHeld3
namespace Go.Proofs.Ytnlohjcjboelgaa.L
open Go.RowKit
set_option linter.unusedVariables false
/-- A right list's amounts. -/
theorem check_len {l : List It} (h : checkN l = 0) : l.length ≤ 16 := by
  unfold checkN at h
  split at h
  · cases h
  · omega
theorem check_flt {l : List It} (h : checkN l = 0) (j : Nat) (hj : j < l.length) : flt l j = 0 := by
  have hl := check_len h
  unfold checkN at h
  rw [if_neg (by omega)] at h
  exact chk_ok l l.length 0 h j (Nat.zero_le _) (by omega)
theorem flt_parts {l : List It} {j : Nat} (h : flt l j = 0) : nameB (nm l j) = true ∧ 0 < am l j ∧ (0 < j → leS (nm l j) (nm l (j - 1)) = false) := by
  unfold flt at h
  split at h
  · cases h
  · rename_i h1
    split at h
    · cases h
    · rename_i h2
      split at h
      · cases h
      · rename_i h3
        refine ⟨by simpa using h1, by omega, fun hj => ?_⟩
        cases e : leS (nm l j) (nm l (j - 1))
        · rfl
        · exact absurd ⟨hj, e⟩ h3
theorem get_nonneg {l : List It} (h : checkN l = 0) (s : ByteArray) (n k : Nat) (hk : k + n ≤ l.length) : 0 ≤ get l s n k := by
  induction n generalizing k with
  | zero => unfold get; omega
  | succ n ih =>
    unfold get
    split
    · have := (flt_parts (check_flt h k (by omega))).2.1
      omega
    · exact ih (k + 1) (by omega)
/-- Too little of the k-th. -/
def too (l c u : List It) (k : Nat) : Bool := decide (max 0 (getN c (nm l k) - getN u (nm l k)) < am l k)
def shortAt (l c u : List It) : Nat → Nat → Option Nat
  | 0, _ => none
  | n + 1, k => if too l c u k = true then some k else shortAt l c u n (k + 1)
theorem shortAt_step (l c u : List It) (len k : Nat) (h : k < len) : shortAt l c u (len - k) k = if too l c u k = true then some k else shortAt l c u (len - (k + 1)) (k + 1) := by
  obtain ⟨n, hn⟩ : ∃ n, len - k = n + 1 := ⟨len - k - 1, by omega⟩
  rw [hn, show len - (k + 1) = n by omega]
  rfl
/-- The three lists. -/
def three (l c u : List It) : Nat → List It := fun j => if j = 0 then l else if j = 1 then c else u
def shortE (l c u : List It) : Int := if chkAll (three l c u) 3 0 = 0 then (if (shortAt l c u l.length 0).isSome then 29 else 0) else chkAll (three l c u) 3 0
def shortS (l c u : List It) : ByteArray := if chkAll (three l c u) 3 0 = 0 then (match shortAt l c u l.length 0 with | some k => nm l k | none => ByteArray.empty) else ByteArray.empty
theorem three_ok {l c u : List It} (h : chkAll (three l c u) 3 0 = 0) : checkN l = 0 ∧ checkN c = 0 ∧ checkN u = 0 := by
  unfold chkAll at h
  split at h
  · rename_i h1
    unfold chkAll at h
    split at h
    · rename_i h2
      unfold chkAll at h
      split at h
      · rename_i h3
        exact ⟨h1, h2, h3⟩
      · rename_i h3; exact absurd h h3
    · rename_i h3; exact absurd h h3
  · rename_i h3; exact absurd h h3
theorem new_three (w : World) (x y z : Value) (t : TypeId) : ∀ j, j < 3 → (w.alloc (.cells #[x, y, z] t)).cell? ⟨w.heap.size, j, none⟩ = some ((fun j => if j = 0 then x else if j = 1 then y else z) j) := by
  intro j hj
  have h : (w.alloc (.cells #[x, y, z] t)).heap[w.heap.size]? = some (.cells #[x, y, z] t) := by
    show (w.heap.push _)[w.heap.size]? = _
    simp
  unfold World.cell?
  rw [h]
  rcases (show j = 0 ∨ j = 1 ∨ j = 2 by omega) with rfl | rfl | rfl <;> rfl
theorem new_two (w : World) (x y : Value) (t : TypeId) : (w.alloc (.cells #[x, y] t)).drew.cell? ⟨w.heap.size, 0, none⟩ = some x ∧ (w.alloc (.cells #[x, y] t)).drew.cell? ⟨w.heap.size, 1, none⟩ = some y := by
  have h : (w.alloc (.cells #[x, y] t)).drew.heap[w.heap.size]? = some (.cells #[x, y] t) := by
    show (w.heap.push _)[w.heap.size]? = _
    simp
  unfold World.cell?
  rw [h]
  exact ⟨rfl, rfl⟩
theorem two_low {W W' : World} {b : Nat} {x y : Value} (h : W.cell? ⟨b, 0, none⟩ = some x ∧ W.cell? ⟨b, 1, none⟩ = some y) (hb : Below W.heap.size W W') (hl : b < W.heap.size) : W'.cell? ⟨b, 0, none⟩ = some x ∧ W'.cell? ⟨b, 1, none⟩ = some y := by
  rw [hb.cell (p := ⟨b, 0, none⟩) hl, hb.cell (p := ⟨b, 1, none⟩) hl]
  exact h
set_option maxHeartbeats 4000000 in
theorem short_any (v1 v2 v3 : Value) (l c u : List It) (w : World) (i1 : Items w v1 l) (i2 : Items w v2 c) (i3 : Items w v3 u) (g1 : Good l) (g2 : Good c) (g3 : Good u) :
    Calls Try.prog 17 #[v1, v2, v3] w fun e w' => e = .returned (.tuple #[.string (shortS l c u), .int .i64 (shortE l c u)]) ∧ Below w.heap.size w w' := by
  have I1 := hid i1
  have I2 := hid i2
  have I3 := hid i3
  have G1 := hid g1
  have G2 := hid g2
  have G3 := hid g3
  clear g1 g2 g3
  obtain ⟨a, cap, rfl, hi⟩ := i1
  obtain ⟨a2, cap2, rfl, x2⟩ := i2
  obtain ⟨a3, cap3, rfl, x3⟩ := i3
  clear x2 x3
  obtain ⟨len, hlen⟩ : ∃ n, n = l.length := ⟨_, rfl⟩
  have HLEN := hid hlen
  have hl := G1.out.1.1
  unfold maxLen at hl
  rw [← hlen] at hi hl I1 ⊢
  clear hlen
  generalize c.length = n2 at *
  generalize u.length = n3 at *
  have CA := hid (checkAll_any w.heap.size 3 (fun j => if j = 0 then .slice a len cap else if j = 1 then .slice a2 n2 cap2 else .slice a3 n3 cap3) (three l c u) (w.alloc (.cells #[.slice a len cap, .slice a2 n2 cap2, .slice a3 n3 cap3] 24)) (by decide) (by simp)
    (new_three w _ _ _ _) (fun j hj => by
      have b := (Below.refl w.heap.size w).alloc (Nat.le_refl _) (.cells #[.slice a len cap, .slice a2 n2 cap2, .slice a3 n3 cap3] 24)
      unfold three
      rcases (show j = 0 ∨ j = 1 ∨ j = 2 by omega) with rfl | rfl | rfl
      · exact I1.out.low b
      · exact I2.out.low b
      · exact I3.out.low b)
    (fun j hj => by
      unfold three
      rcases (show j = 0 ∨ j = 1 ∨ j = 2 by omega) with rfl | rfl | rfl
      · exact G1.out
      · exact G2.out
      · exact G3.out))
  by_cases ok : chkAll (three l c u) 3 0 = 0
  · have HE := hid (show shortE l c u = (if (shortAt l c u l.length 0).isSome then 29 else 0) by unfold shortE; rw [if_pos ok])
    have HS := hid (show shortS l c u = (match shortAt l c u l.length 0 with | some k => nm l k | none => ByteArray.empty) by unfold shortS; rw [if_pos ok])
    have OK := hid (three_ok ok)
    rw [ok] at CA
    clear ok
    go_enter Try.func17, Try.ntmps17
    go_wp2_with fail
    refine CA.out.mono ?_
    rintro e w1 ⟨rfl, hb1⟩
    have HB1 := hid (show Below w.heap.size w w1 from ((Below.refl _ _).alloc (Nat.le_refl _) _).trans (hb1.mono (by simp)))
    clear hb1 CA
    go_wp2_with fail
    go_loopw [22] (fun i wr => ∃ k : Nat, k ≤ len ∧ i = .int .i64 k ∧ Hid (Below w.heap.size w wr) ∧ Hid (shortAt l c u l.length 0 = shortAt l c u (len - k) k)) (fun i _ => len - (intOf i).toNat)
    case atStart => exact ⟨0, Nat.zero_le _, rfl, HB1, hid (by rw [← HLEN.out]; rfl)⟩
    case round =>
      obtain ⟨k, hk, rfl, HB, HK⟩ := hrel
      by_cases hlt : k < len
      · rcases hi with h0 | ⟨b, off, rfl, hbl, hc⟩
        · omega
        obtain ⟨c0, c1⟩ := hc k hlt
        rw [← HB.out.cell (p := ⟨b, off + k * 2, none⟩) hbl] at c0
        rw [← HB.out.cell (p := ⟨b, off + k * 2 + 1, none⟩) hbl] at c1
        have hsz : b < wr.heap.size := Nat.lt_of_lt_of_le hbl HB.out.size
        have hkl : k < l.length := by rw [← HLEN.out]; exact hlt
        have hn := (G1.out.2 k hkl).1
        have hpos := (flt_parts (check_flt OK.out.1 k hkl)).2.1
        have htop := (G1.out.2 k hkl).2.2
        have GC := hid (fun W (hB : Below w.heap.size w W) => get_any _ c (nm l k) W (I2.out.low hB) G2.out hn)
        have GU := hid (fun W (hB : Below w.heap.size w W) => get_any _ u (nm l k) W (I3.out.low hB) G3.out hn)
        have c_lo : 0 ≤ getN c (nm l k) := get_nonneg OK.out.2.1 (nm l k) c.length 0 (by omega)
        have c_hi := (get_bound c (nm l k) G2.out c.length 0 (by omega)).2
        have u_lo : 0 ≤ getN u (nm l k) := get_nonneg OK.out.2.2 (nm l k) u.length 0 (by omega)
        have u_hi := (get_bound u (nm l k) G3.out u.length 0 (by omega)).2
        have st := HK.out.trans (shortAt_step l c u len k hlt)
        have tooE : too l c u k = decide (max 0 (getN c (nm l k) - getN u (nm l k)) < am l k) := rfl
        change getN c (nm l k) ≤ _ at c_hi
        change getN u (nm l k) ≤ _ at u_hi
        have HNM := hid (show nm l k = nm l k from rfl)
        generalize getN c (nm l k) = gc at *
        generalize getN u (nm l k) = gu at *
        generalize hs : nm l k = s at *
        have HSS := hid hs
        generalize am l k = n at *
        obtain ⟨rm, hrm⟩ : ∃ rm, max 0 (gc - gu) = rm := ⟨_, rfl⟩
        rw [hrm] at tooE
        have hr0 : 0 ≤ rm := by omega
        have hr1 : rm ≤ 9223372036854775807 := by omega
        clear hc hs hn
        have hrm2 : (if 0 < IntKind.i64.wrap (gc - gu) then IntKind.i64.wrap (gc - gu) else 0) = rm := by
          rw [← hrm, IntKind.wrap_i64]
          split <;> omega
        clear hrm
        by_cases tt : rm < n
        · rw [tooE, decide_eq_true tt, if_pos rfl] at st
          have HE2 := hid (show shortE l c u = 29 by rw [HE.out, st]; rfl)
          have HS2 := hid (show shortS l c u = s by rw [HS.out, st]; exact HSS.out)
          clear st tooE
          go_wp2_with fail
          go_region_held3 (fun W => W.cell? ⟨wr.heap.size, 0, none⟩ = some (.string s) ∧ W.cell? ⟨wr.heap.size, 1, none⟩ = some (.int .i64 n))
            (first | exact new_two wr _ _ _ | exact T1 | exact T2)
            (first
              | (go_at_call_of 26 cap2; refine (GC.out _ ?_).mono ?_; exact (HB.out.alloc HB.out.size _).drew; rintro e w2 ⟨rfl, hb2⟩; have T1 := two_low (new_two wr (.string s) (.int .i64 n) 41) hb2 (by simp))
              | (go_at_call_of 26 cap3; refine (GU.out _ ?_).mono ?_; exact ((HB.out.alloc HB.out.size _).drew).trans (hb2.mono (by simp; exact Nat.le_succ_of_le HB.out.size)); rintro e w3 ⟨rfl, hb3⟩; have T2 := two_low T1 hb3 (by have := hb2.size; simp at this; omega)))
          obtain ⟨t0, t1⟩ := T2
          have HB3 := hid (show Below w.heap.size w w3 from (((HB.out.alloc HB.out.size _).drew).trans (hb2.mono (by simp; exact Nat.le_succ_of_le HB.out.size))).trans (hb3.mono (by have h1 := hb2.size; have h2 := HB.out.size; simp at h1; omega)))
          clear hb2 hb3 T1
          go_wp2_with fail
          go_ret2
          exact ⟨by rw [HE2.out, HS2.out]; rfl, HB3.out⟩
        · rw [tooE, decide_eq_false tt, if_neg (by decide)] at st
          have HF := hid st
          clear st tooE
          go_wp2_with fail
          go_region_held3 (fun W => W.cell? ⟨wr.heap.size, 0, none⟩ = some (.string s) ∧ W.cell? ⟨wr.heap.size, 1, none⟩ = some (.int .i64 n))
            (first | exact new_two wr _ _ _ | exact T1 | exact T2)
            (first
              | (go_at_call_of 26 cap2; refine (GC.out _ ?_).mono ?_; exact (HB.out.alloc HB.out.size _).drew; rintro e w2 ⟨rfl, hb2⟩; have T1 := two_low (new_two wr (.string s) (.int .i64 n) 41) hb2 (by simp))
              | (go_at_call_of 26 cap3; refine (GU.out _ ?_).mono ?_; exact ((HB.out.alloc HB.out.size _).drew).trans (hb2.mono (by simp; exact Nat.le_succ_of_le HB.out.size)); rintro e w3 ⟨rfl, hb3⟩; have T2 := two_low T1 hb3 (by have := hb2.size; simp at this; omega)))
          obtain ⟨t0, t1⟩ := T2
          have HB3 := hid (show Below w.heap.size w w3 from (((HB.out.alloc HB.out.size _).drew).trans (hb2.mono (by simp; exact Nat.le_succ_of_le HB.out.size))).trans (hb3.mono (by have h1 := hb2.size; have h2 := HB.out.size; simp at h1; omega)))
          clear hb2 hb3 T1
          go_wp2_with fail
          exact ⟨⟨k + 1, by omega, by go_num, HB3, HF⟩, by simp [intOf]; omega⟩
      · obtain rfl : k = len := by omega
        have HF := hid (show shortAt l c u l.length 0 = none by rw [HK.out, Nat.sub_self]; rfl)
        have HE2 := hid (show shortE l c u = 0 by rw [HE.out, HF.out]; rfl)
        have HS2 := hid (show shortS l c u = ByteArray.empty by rw [HS.out, HF.out])
        go_wp2
        go_ret2
        exact ⟨by rw [HE2.out, HS2.out]; rfl, HB.out⟩
  · have HE := hid (show shortE l c u = chkAll (three l c u) 3 0 by unfold shortE; rw [if_neg ok])
    have HS := hid (show shortS l c u = ByteArray.empty by unfold shortS; rw [if_neg ok])
    have e2 : (chkAll (three l c u) 3 0 != 0) = true := by simpa using ok
    generalize chkAll (three l c u) 3 0 = er at *
    clear ok
    go_enter Try.func17, Try.ntmps17
    go_wp2_with fail
    refine CA.out.mono ?_
    rintro e w1 ⟨rfl, hb1⟩
    have HB1 := hid (show Below w.heap.size w w1 from ((Below.refl _ _).alloc (Nat.le_refl _) _).trans (hb1.mono (by simp)))
    clear hb1 CA
    go_wp2_with fail
    go_ret2
    exact ⟨by rw [HE.out, HS.out]; rfl, HB1.out⟩
end Go.Proofs.Ytnlohjcjboelgaa.L
