import Derived.Test.YtodamoblnlcodaaDoorNam
namespace Go.Proofs.YtodamoblnlcodaaDoor.L
open Go.RowKit
set_option linter.unusedVariables false
def eqS (s t : ByteArray) : Bool := s.toList == t.toList
theorem eqS_iff {s t : ByteArray} : eqS s t = true ↔ s = t := by
  unfold eqS
  constructor
  · intro h
    exact bytes_ext (by simpa using h)
  · rintro rfl
    simp
theorem eqS_ne {s t : ByteArray} : eqS s t = false ↔ s ≠ t := by
  cases e : eqS s t
  · simp
    intro h
    rw [eqS_iff.2 h] at e
    cases e
  · simp
    exact eqS_iff.1 e
/-- The fault of a label by itself. -/
def labE (k v : ByteArray) : Int := if keyB k = false then 31 else if valB v = false then 32 else 0
/-- The fault of a key behind another. -/
def riseE (b k : ByteArray) : Int := if eqS k b = true then 33 else if Op.bytesLess k.toList b.toList = true then 36 else 0
set_option maxHeartbeats 4000000 in
theorem label_any (k v : ByteArray) (w : World) (hk : k.size ≤ maxLen) (hv : v.size ≤ maxLen) : Calls Tryd.prog 31 #[.agg #[.string k, .string v]] w fun e w' => e = .returned (.int .i64 (labE k v)) ∧ Below w.heap.size w w' := by
  have HK := hid (fun W => key_any k W hk)
  have HV := hid (fun W => value_any v W hv)
  cases e1 : keyB k
  · have HE := hid (show labE k v = 31 by unfold labE; rw [if_pos e1])
    rw [e1] at HK
    clear e1
    go_enter Tryd.func31, Tryd.ntmps31
    go_wp2_with fail
    refine (HK.out _).mono ?_
    rintro e w1 ⟨rfl, hb⟩
    have HB := hid ((belowA w _).trans (hb.mono (belowA w _).size))
    clear hb
    go_wp2_with fail
    go_ret
    exact ⟨by rw [HE.out]; rfl, HB.out⟩
  · rw [e1] at HK
    cases e2 : valB v
    · have HE := hid (show labE k v = 32 by unfold labE; rw [if_neg (by rw [e1]; decide), if_pos e2])
      rw [e2] at HV
      clear e1 e2
      go_enter Tryd.func31, Tryd.ntmps31
      go_wp2_with fail
      refine (HK.out _).mono ?_
      rintro e w1 ⟨rfl, hb⟩
      have hx : w1.cell? ⟨w.heap.size, 1, none⟩ = some (.string v) := by
        rw [hb.cell (p := ⟨w.heap.size, 1, none⟩) (by simp)]
        simp
      have HB := hid ((belowA w _).trans (hb.mono (belowA w _).size))
      clear hb
      go_wp2_with fail
      refine (HV.out _).mono ?_
      rintro e w2 ⟨rfl, hww⟩; subst hww
      go_wp2_with fail
      go_ret
      exact ⟨by rw [HE.out]; rfl, HB.out⟩
    · have HE := hid (show labE k v = 0 by unfold labE; rw [if_neg (by rw [e1]; decide), if_neg (by rw [e2]; decide)])
      rw [e2] at HV
      clear e1 e2
      go_enter Tryd.func31, Tryd.ntmps31
      go_wp2_with fail
      refine (HK.out _).mono ?_
      rintro e w1 ⟨rfl, hb⟩
      have hx : w1.cell? ⟨w.heap.size, 1, none⟩ = some (.string v) := by
        rw [hb.cell (p := ⟨w.heap.size, 1, none⟩) (by simp)]
        simp
      have HB := hid ((belowA w _).trans (hb.mono (belowA w _).size))
      clear hb
      go_wp2_with fail
      refine (HV.out _).mono ?_
      rintro e w2 ⟨rfl, hww⟩; subst hww
      go_wp2_with fail
      go_ret
      exact ⟨by rw [HE.out]; rfl, HB.out⟩
set_option maxHeartbeats 4000000 in
theorem rise_any (b k : ByteArray) (w : World) : Calls Tryd.prog 41 #[.string b, .string k] w fun e w' => e = .returned (.int .i64 (riseE b k)) ∧ w' = w := by
  cases e1 : (k.toList == b.toList)
  · cases e2 : Op.bytesLess k.toList b.toList
    · have HE := hid (show riseE b k = 0 by unfold riseE eqS; rw [if_neg (by rw [e1]; decide), if_neg (by rw [e2]; decide)])
      go_enter Tryd.func41, Tryd.ntmps41
      go_wp2
      go_ret
      exact ⟨by rw [HE.out]; rfl, rfl⟩
    · have HE := hid (show riseE b k = 36 by unfold riseE eqS; rw [if_neg (by rw [e1]; decide), if_pos e2])
      go_enter Tryd.func41, Tryd.ntmps41
      go_wp2
      go_ret
      exact ⟨by rw [HE.out]; rfl, rfl⟩
  · have HE := hid (show riseE b k = 33 by unfold riseE eqS; rw [if_pos e1])
    go_enter Tryd.func41, Tryd.ntmps41
    go_wp2
    go_ret
    exact ⟨by rw [HE.out]; rfl, rfl⟩
/-- The value of the first of n labels from the k-th on that has this key. -/
def gt (l : List Lb) (s : ByteArray) : Nat → Nat → ByteArray × Bool
  | 0, _ => (ByteArray.empty, false)
  | n + 1, k => if eqS (ky l k) s = true then (vl l k, true) else gt l s n (k + 1)
def getN (l : List Lb) (s : ByteArray) : ByteArray × Bool := gt l s l.length 0
theorem gt_step (l : List Lb) (s : ByteArray) (len k : Nat) (h : k < len) : gt l s (len - k) k = if eqS (ky l k) s = true then (vl l k, true) else gt l s (len - (k + 1)) (k + 1) := by
  obtain ⟨n, hn⟩ : ∃ n, len - k = n + 1 := ⟨len - k - 1, by omega⟩
  rw [hn, show len - (k + 1) = n by omega]
  rfl
set_option maxHeartbeats 4000000 in
theorem get_any (v : Value) (l : List Lb) (s : ByteArray) (w : World) (hi : Items w v l) (hl : l.length ≤ maxLen) (hs : s.size ≤ maxLen) : Calls Tryd.prog 32 #[v, .string s] w fun e w' => e = .returned (.tuple #[.string (getN l s).1, .bool (getN l s).2]) ∧ Below w.heap.size w w' := by
  obtain ⟨a, cap, rfl, hi⟩ := hi
  unfold maxLen at hl
  obtain ⟨len, hlen⟩ : ∃ n, n = l.length := ⟨_, rfl⟩
  have HR := hid (show getN l s = gt l s (l.length - 0) 0 from rfl)
  rw [← hlen] at hi hl HR ⊢
  have HLEN := hid hlen
  clear hlen
  go_enter Tryd.func32, Tryd.ntmps32
  go_wp2
  go_loopw [10] (fun i wr => ∃ k : Nat, k ≤ len ∧ i = .int .i64 k ∧ Hid (Below w.heap.size w wr) ∧ Hid (getN l s = gt l s (len - k) k)) (fun i _ => len - (intOf i).toNat)
  case atStart => exact ⟨0, Nat.zero_le _, rfl, hid (Below.refl _ _), HR⟩
  case round =>
    obtain ⟨k, hk, rfl, HB, HK⟩ := hrel
    by_cases hlt : k < len
    · rcases hi with h0 | ⟨b, off, rfl, hbl, hc⟩
      · omega
      obtain ⟨c0, c1⟩ := hc k hlt
      rw [← HB.out.cell (p := ⟨b, off + k * 2, none⟩) hbl] at c0
      rw [← HB.out.cell (p := ⟨b, off + k * 2 + 1, none⟩) hbl] at c1
      have hsz : b < wr.heap.size := Nat.lt_of_lt_of_le hbl HB.out.size
      have st := HK.out.trans (gt_step l s len k hlt)
      unfold eqS at st
      cases e1 : ((ky l k).toList == s.toList)
      · rw [e1, if_neg (by decide)] at st
        have HF := hid st
        generalize ky l k = s' at *
        generalize vl l k = n at *
        clear hc st
        go_wp2
        exact ⟨⟨k + 1, by omega, by go_num, hid (HB.out.alloc HB.out.size _), HF⟩, by simp [intOf]; omega⟩
      · rw [e1, if_pos rfl] at st
        have HF := hid st
        generalize ky l k = s' at *
        generalize vl l k = n at *
        clear hc st
        go_wp2
        go_ret2
        exact ⟨by rw [HF.out]; rfl, HB.out.alloc HB.out.size _⟩
    · obtain rfl : k = len := by omega
      have HF := hid (show getN l s = (ByteArray.empty, false) by rw [HK.out, Nat.sub_self]; rfl)
      go_wp2
      go_ret2
      exact ⟨by rw [HF.out]; rfl, HB.out⟩
set_option maxHeartbeats 4000000 in
theorem has_any (v : Value) (l : List Lb) (s : ByteArray) (w : World) (hi : Items w v l) (hl : l.length ≤ maxLen) (hs : s.size ≤ maxLen) : Calls Tryd.prog 23 #[v, .string s] w fun e w' => e = .returned (.bool (getN l s).2) ∧ Below w.heap.size w w' := by
  have HG := hid (get_any v l s w hi hl hs)
  generalize getN l s = g at *
  clear hi
  go_enter Tryd.func23, Tryd.ntmps23
  go_wp2_with fail
  refine HG.out.mono ?_
  rintro e w1 ⟨rfl, hb⟩
  go_wp2_with fail
  go_ret
  exact ⟨rfl, hb⟩
set_option maxHeartbeats 4000000 in
theorem check_many (v : Value) (l : List Lb) (w : World) (hi : Items w v l) (hl : l.length ≤ maxLen) (h : 32 < l.length) : Calls Tryd.prog 28 #[v] w fun e w' => e = .returned (.tuple #[.int .i64 32, .int .i64 34]) ∧ w' = w := by
  obtain ⟨a, cap, rfl, hi⟩ := hi
  unfold maxLen at hl
  generalize l.length = len at *
  clear hi
  go_enter Tryd.func28, Tryd.ntmps28
  go_wp2
  go_ret2
  exact ⟨rfl, rfl⟩
def prv (l : List Lb) (k : Nat) : ByteArray := if k = 0 then ⟨#[]⟩ else ky l (k - 1)
/-- The fault of the k-th label. -/
def flt (l : List Lb) (k : Nat) : Int := if labE (ky l k) (vl l k) = 0 then riseE (prv l k) (ky l k) else labE (ky l k) (vl l k)
/-- The first fault among n labels from the k-th on. -/
def chk (l : List Lb) : Nat → Nat → Int × Int
  | 0, _ => (0, 0)
  | n + 1, k => if flt l k = 0 then chk l n (k + 1) else (k, flt l k)
def checkN (l : List Lb) : Int × Int := if 32 < l.length then (32, 34) else chk l l.length 0
theorem chk_step (l : List Lb) (len k : Nat) (h : k < len) : chk l (len - k) k = if flt l k = 0 then chk l (len - (k + 1)) (k + 1) else ((k : Int), flt l k) := by
  obtain ⟨n, hn⟩ : ∃ n, len - k = n + 1 := ⟨len - k - 1, by omega⟩
  rw [hn, show len - (k + 1) = n by omega]
  rfl
theorem labE_cases (k v : ByteArray) : labE k v = 0 ∨ labE k v = 31 ∨ labE k v = 32 := by
  unfold labE
  split
  · exact Or.inr (Or.inl rfl)
  · split
    · exact Or.inr (Or.inr rfl)
    · exact Or.inl rfl
theorem riseE_cases (k v : ByteArray) : riseE k v = 0 ∨ riseE k v = 33 ∨ riseE k v = 36 := by
  unfold riseE
  split
  · exact Or.inr (Or.inl rfl)
  · split
    · exact Or.inr (Or.inr rfl)
    · exact Or.inl rfl
set_option maxHeartbeats 4000000 in
theorem check_few (v : Value) (l : List Lb) (w : World) (hi : Items w v l) (hg : ∀ x ∈ l, x.1.size ≤ maxLen ∧ x.2.size ≤ maxLen) (h : l.length ≤ 32) : Calls Tryd.prog 28 #[v] w fun e w' => e = .returned (.tuple #[.int .i64 (checkN l).1, .int .i64 (checkN l).2]) ∧ Below w.heap.size w w' := by
  obtain ⟨a, cap, rfl, hi⟩ := hi
  have HR := hid (show checkN l = chk l (l.length - 0) 0 by unfold checkN; rw [if_neg (by omega)]; rfl)
  have HG := hid hg
  obtain ⟨len, hlen⟩ : ∃ n, n = l.length := ⟨_, rfl⟩
  have HLEN := hid hlen
  rw [← hlen] at h hi HR ⊢
  clear hg hlen
  go_enter Tryd.func28, Tryd.ntmps28
  go_wp2
  go_loopw [4, 14] (fun b i wr => ∃ k : Nat, k ≤ len ∧ b = .string (prv l k) ∧ i = .int .i64 k ∧ Hid (Below w.heap.size w wr) ∧ Hid (checkN l = chk l (len - k) k)) (fun _ i _ => len - (intOf i).toNat)
  case atStart => exact ⟨0, Nat.zero_le _, rfl, rfl, hid (Below.refl _ _), HR⟩
  case round =>
    obtain ⟨k, hk, rfl, rfl, HB, HK⟩ := hrel
    by_cases hlt : k < len
    · rcases hi with h0 | ⟨b, off, rfl, hbl, hc⟩
      · omega
      obtain ⟨c0, c1⟩ := hc k hlt
      rw [← HB.out.cell (p := ⟨b, off + k * 2, none⟩) hbl] at c0
      rw [← HB.out.cell (p := ⟨b, off + k * 2 + 1, none⟩) hbl] at c1
      have hsz : b < wr.heap.size := Nat.lt_of_lt_of_le hbl HB.out.size
      have hn := HG.out _ (kv_mem l k (by rw [← HLEN.out]; exact hlt))
      have HL := hid (fun W => label_any (ky l k) (vl l k) W hn.1 hn.2)
      have HRI := hid (fun W => rise_any (prv l k) (ky l k) W)
      have HP := hid (show prv l (k + 1) = ky l k by unfold prv; rw [if_neg (by omega)]; rfl)
      have st := HK.out.trans (chk_step l len k hlt)
      unfold flt at st
      rcases labE_cases (ky l k) (vl l k) with e1 | e1 | e1
      · rw [if_pos e1] at st
        rw [e1] at HL
        rcases riseE_cases (prv l k) (ky l k) with e2 | e2 | e2
        · rw [if_pos e2] at st
          rw [e2] at HRI
          have HF := hid st
          generalize ky l k = s' at *
          generalize vl l k = n at *
          generalize prv l k = p at *
          clear hc st e1 e2 hn
          go_wp2_with fail
          refine (HL.out _).mono ?_
          rintro e w1 ⟨rfl, hb⟩
          have hx : w1.cell? ⟨wr.heap.size, 0, none⟩ = some (.string s') := by
            rw [hb.cell (p := ⟨wr.heap.size, 0, none⟩) (by simp)]
            simp
          have HB1 := hid ((HB.out.alloc HB.out.size _).trans (hb.mono (HB.out.alloc HB.out.size _).size))
          clear hb
          go_wp2_with fail
          refine (HRI.out _).mono ?_
          rintro e w2 ⟨rfl, hww⟩; subst hww
          go_wp2_with fail
          exact ⟨⟨k + 1, by omega, by rw [HP.out], by go_num, hid HB1.out, HF⟩, by simp [intOf]; omega⟩
        · rw [if_neg (by rw [e2]; decide), e2] at st
          rw [e2] at HRI
          have HF := hid st
          generalize ky l k = s' at *
          generalize vl l k = n at *
          generalize prv l k = p at *
          clear hc st e1 e2 hn
          go_wp2_with fail
          refine (HL.out _).mono ?_
          rintro e w1 ⟨rfl, hb⟩
          have hx : w1.cell? ⟨wr.heap.size, 0, none⟩ = some (.string s') := by
            rw [hb.cell (p := ⟨wr.heap.size, 0, none⟩) (by simp)]
            simp
          have HB1 := hid ((HB.out.alloc HB.out.size _).trans (hb.mono (HB.out.alloc HB.out.size _).size))
          clear hb
          go_wp2_with fail
          refine (HRI.out _).mono ?_
          rintro e w2 ⟨rfl, hww⟩; subst hww
          go_wp2_with fail
          go_ret2
          exact ⟨by rw [HF.out]; rfl, HB1.out⟩
        · rw [if_neg (by rw [e2]; decide), e2] at st
          rw [e2] at HRI
          have HF := hid st
          generalize ky l k = s' at *
          generalize vl l k = n at *
          generalize prv l k = p at *
          clear hc st e1 e2 hn
          go_wp2_with fail
          refine (HL.out _).mono ?_
          rintro e w1 ⟨rfl, hb⟩
          have hx : w1.cell? ⟨wr.heap.size, 0, none⟩ = some (.string s') := by
            rw [hb.cell (p := ⟨wr.heap.size, 0, none⟩) (by simp)]
            simp
          have HB1 := hid ((HB.out.alloc HB.out.size _).trans (hb.mono (HB.out.alloc HB.out.size _).size))
          clear hb
          go_wp2_with fail
          refine (HRI.out _).mono ?_
          rintro e w2 ⟨rfl, hww⟩; subst hww
          go_wp2_with fail
          go_ret2
          exact ⟨by rw [HF.out]; rfl, HB1.out⟩
      · rw [e1, if_neg (show ¬ (31 : Int) = 0 by decide), if_neg (show ¬ (31 : Int) = 0 by decide)] at st
        rw [e1] at HL
        have HF := hid st
        generalize ky l k = s' at *
        generalize vl l k = n at *
        generalize prv l k = p at *
        clear hc st e1 hn
        go_wp2_with fail
        refine (HL.out _).mono ?_
        rintro e w1 ⟨rfl, hb⟩
        have HB1 := hid ((HB.out.alloc HB.out.size _).trans (hb.mono (HB.out.alloc HB.out.size _).size))
        clear hb
        go_wp2_with fail
        go_ret2
        exact ⟨by rw [HF.out]; rfl, HB1.out⟩
      · rw [e1, if_neg (show ¬ (32 : Int) = 0 by decide), if_neg (show ¬ (32 : Int) = 0 by decide)] at st
        rw [e1] at HL
        have HF := hid st
        generalize ky l k = s' at *
        generalize vl l k = n at *
        generalize prv l k = p at *
        clear hc st e1 hn
        go_wp2_with fail
        refine (HL.out _).mono ?_
        rintro e w1 ⟨rfl, hb⟩
        have HB1 := hid ((HB.out.alloc HB.out.size _).trans (hb.mono (HB.out.alloc HB.out.size _).size))
        clear hb
        go_wp2_with fail
        go_ret2
        exact ⟨by rw [HF.out]; rfl, HB1.out⟩
    · obtain rfl : k = len := by omega
      have HF := hid (show checkN l = (0, 0) by rw [HK.out, Nat.sub_self]; rfl)
      go_wp2
      go_ret2
      exact ⟨by rw [HF.out]; rfl, HB.out⟩
theorem check_any (v : Value) (l : List Lb) (w : World) (hi : Items w v l) (hg : Good l) : Calls Tryd.prog 28 #[v] w fun e w' => e = .returned (.tuple #[.int .i64 (checkN l).1, .int .i64 (checkN l).2]) ∧ Below w.heap.size w w' := by
  by_cases h : 32 < l.length
  · refine (check_many v l w hi hg.1.1 h).mono ?_
    rintro e w' ⟨rfl, rfl⟩
    exact ⟨by unfold checkN; rw [if_pos h], Below.refl _ _⟩
  · exact check_few v l w hi hg.2 (by omega)
end Go.Proofs.YtodamoblnlcodaaDoor.L
