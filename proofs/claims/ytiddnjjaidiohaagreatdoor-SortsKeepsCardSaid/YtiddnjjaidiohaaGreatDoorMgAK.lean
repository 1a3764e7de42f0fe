import Derived.Test.YtiddnjjaidiohaaGreatDoorMgAB
import Derived.OwnWalk
import Derived.Laws.AppendOwnNone
namespace Go.Proofs.YtiddnjjaidiohaaGreatDoor.L
open Go.RowKit
set_option linter.unusedVariables false
theorem rlow_any (c : Int) (w : World) : Calls Tryz.prog 91 #[.int .u8 c] w fun e w' => e = .returned (.bool (lowB c)) ∧ w' = w := by
  unfold lowB
  by_cases a : 97 ≤ c
  · by_cases b : c ≤ 122
    · go_enter Tryz.func91, Tryz.ntmps91
      go_wp2
      go_ret
      exact ⟨ret_bool (by simp [a, b]), rfl⟩
    · have a2 : 48 ≤ c := by omega
      have b2 : ¬ c ≤ 57 := by omega
      go_enter Tryz.func91, Tryz.ntmps91
      go_wp2
      go_ret
      exact ⟨ret_bool (by simp; omega), rfl⟩
  · by_cases a2 : 48 ≤ c
    · by_cases b2 : c ≤ 57
      · go_enter Tryz.func91, Tryz.ntmps91
        go_wp2
        go_ret
        exact ⟨ret_bool (by simp), rfl⟩
      · go_enter Tryz.func91, Tryz.ntmps91
        go_wp2
        go_ret
        exact ⟨ret_bool (by simp; omega), rfl⟩
    · go_enter Tryz.func91, Tryz.ntmps91
      go_wp2
      go_ret
      exact ⟨ret_bool (by simp; omega), rfl⟩
theorem rword_any (c : Int) (w : World) : Calls Tryz.prog 75 #[.int .u8 c] w fun e w' => e = .returned (.bool (wordB c)) ∧ w' = w := by
  have HL := hid (fun W => rlow_any c W)
  unfold wordB
  cases e1 : lowB c
  · rw [e1] at HL
    by_cases a : 65 ≤ c
    · by_cases b : c ≤ 90
      · go_enter Tryz.func75, Tryz.ntmps75
        go_wp2_with (go_at_call 91; refine (HL.out _).mono ?_; rintro e w1 ⟨rfl, hww⟩; subst hww)
        go_ret
        exact ⟨ret_bool (by simp [a, b]), rfl⟩
      · go_enter Tryz.func75, Tryz.ntmps75
        go_wp2_with (go_at_call 91; refine (HL.out _).mono ?_; rintro e w1 ⟨rfl, hww⟩; subst hww)
        go_ret
        exact ⟨ret_bool (by simp; omega), rfl⟩
    · go_enter Tryz.func75, Tryz.ntmps75
      go_wp2_with (go_at_call 91; refine (HL.out _).mono ?_; rintro e w1 ⟨rfl, hww⟩; subst hww)
      go_ret
      exact ⟨ret_bool (by simp; omega), rfl⟩
  · rw [e1] at HL
    go_enter Tryz.func75, Tryz.ntmps75
    go_wp2_with (go_at_call 91; refine (HL.out _).mono ?_; rintro e w1 ⟨rfl, hww⟩; subst hww)
    go_ret
    exact ⟨ret_bool (by simp), rfl⟩
set_option maxHeartbeats 4000000 in
theorem rinner_any (c : Int) (w : World) : Calls Tryz.prog 74 #[.int .u8 c] w fun e w' => e = .returned (.bool (innB c)) ∧ w' = w := by
  have HL := hid (fun W => rword_any c W)
  unfold innB
  cases e1 : wordB c
  · rw [e1] at HL
    cases f1 : (c == 45)
    · cases f2 : (c == 95)
      · cases f3 : (c == 46) <;>
        · go_enter Tryz.func74, Tryz.ntmps74
          go_wp2_with (go_at_call 75; refine (HL.out _).mono ?_; rintro e w1 ⟨rfl, hww⟩; subst hww)
          go_ret
          exact ⟨rfl, rfl⟩
      · go_enter Tryz.func74, Tryz.ntmps74
        go_wp2_with (go_at_call 75; refine (HL.out _).mono ?_; rintro e w1 ⟨rfl, hww⟩; subst hww)
        go_ret
        exact ⟨rfl, rfl⟩
    · go_enter Tryz.func74, Tryz.ntmps74
      go_wp2_with (go_at_call 75; refine (HL.out _).mono ?_; rintro e w1 ⟨rfl, hww⟩; subst hww)
      go_ret
      exact ⟨rfl, rfl⟩
  · rw [e1] at HL
    go_enter Tryz.func74, Tryz.ntmps74
    go_wp2_with (go_at_call 75; refine (HL.out _).mono ?_; rintro e w1 ⟨rfl, hww⟩; subst hww)
    go_ret
    exact ⟨rfl, rfl⟩
set_option maxHeartbeats 4000000 in
theorem rlpart_any (s : ByteArray) (w : World) (hs : s.size ≤ maxLen) : Calls Tryz.prog 76 #[.string s] w fun e w' => e = .returned (.bool (partB s)) ∧ w' = w := by
  unfold maxLen at hs
  by_cases h0 : s.size = 0
  · have HN := hid (show partB s = false by unfold partB; rw [decide_eq_false (by simpa using h0)]; rfl)
    have hE := empty_yes h0
    go_enter Tryz.func76, Tryz.ntmps76
    go_wp2
    go_ret
    exact ⟨ret_bool HN.out.symm, rfl⟩
  · have hE := empty_no h0
    have HP := hid (show partB s = (allB dashB s && lowB (at' s 0) && lowB (at' s (s.size - 1))) by unfold partB; rw [decide_eq_true h0]; rfl)
    go_enter Tryz.func76, Tryz.ntmps76
    go_wp2
    go_loop [3] (fun i => ∃ k : Nat, k ≤ s.size ∧ i = .int .i64 k ∧ Hid (∀ j, j < k → dashB (at' s j) = true)) (fun i => s.size - (intOf i).toNat)
    case atStart => exact ⟨0, Nat.zero_le _, rfl, hid (fun j hj => by omega)⟩
    case round =>
      obtain ⟨k, hk, rfl, HO⟩ := hrel
      by_cases hlt : k < s.size
      · obtain ⟨c, hc⟩ : ∃ c : Int, ((s[k]'hlt).toNat : Int) = c := ⟨_, rfl⟩
        have HC := hid ((at_get s k hlt).trans hc)
        have HL := hid (fun W => rlow_any c W)
        by_cases c1 : lowB c = true
        · rw [c1] at HL
          have HO2 := hid (all_snoc (p := dashB) HO.out (show dashB (at' s k) = true by rw [HC.out]; unfold dashB; rw [c1]; rfl))
          clear HO HC c1
          go_wp2_with (go_at_call 91; refine (HL.out _).mono ?_; rintro e w1 ⟨rfl, hww⟩; subst hww)
          exact ⟨⟨k + 1, by omega, by go_num, HO2⟩, by simp [intOf]; omega⟩
        · have c1' : lowB c = false := by simpa using c1
          rw [c1'] at HL
          by_cases c3 : c = 45
          · subst c3
            have HO2 := hid (all_snoc (p := dashB) HO.out (show dashB (at' s k) = true by rw [HC.out]; decide))
            clear HO HC c1 c1'
            go_wp2_with (go_at_call 91; refine (HL.out _).mono ?_; rintro e w1 ⟨rfl, hww⟩; subst hww)
            exact ⟨⟨k + 1, by omega, by go_num, HO2⟩, by simp [intOf]; omega⟩
          · have HN := hid (show partB s = false by rw [HP.out, all_bad (p := dashB) hlt (show dashB (at' s k) = false by rw [HC.out]; unfold dashB; simp [c1', c3])]; rfl)
            have b3 : (c != 45) = true := by simpa using c3
            clear c1 c1' c3
            go_wp2_with (go_at_call 91; refine (HL.out _).mono ?_; rintro e w1 ⟨rfl, hww⟩; subst hww)
            go_ret
            exact ⟨ret_bool HN.out.symm, rfl⟩
      · obtain rfl : k = s.size := by omega
        have HV := hid (show partB s = (lowB (at' s 0) && lowB (at' s (s.size - 1))) by rw [HP.out, all_good HO.out]; rfl)
        obtain ⟨c, hc⟩ : ∃ c : Int, ((s[0]'(by omega)).toNat : Int) = c := ⟨_, rfl⟩
        obtain ⟨d, hd⟩ : ∃ d : Int, ((s[s.size - 1]'(by omega)).toNat : Int) = d := ⟨_, rfl⟩
        rw [at_get s 0 (by omega), hc, at_get s (s.size - 1) (by omega), hd] at HV
        have HC := hid (fun W => rlow_any c W)
        have HD := hid (fun W => rlow_any d W)
        have hsub : ((s.size : Int) - 1).toNat = s.size - 1 := by omega
        cases e1 : lowB c
        · rw [e1] at HC HV
          go_wp2_with fail
          refine (HC.out _).mono ?_
          rintro e w1 ⟨rfl, hww⟩; subst hww
          go_wp2_with fail
          go_ret
          exact ⟨ret_bool (by rw [HV.out]; rfl), rfl⟩
        · rw [e1] at HC HV
          cases e2 : lowB d <;>
          · rw [e2] at HD HV
            go_wp2_with fail
            refine (HC.out _).mono ?_
            rintro e w1 ⟨rfl, hww⟩; subst hww
            go_wp2_with fail
            refine (HD.out _).mono ?_
            rintro e w1 ⟨rfl, hww⟩; subst hww
            go_wp2_with fail
            go_ret
            exact ⟨ret_bool (by rw [HV.out]; rfl), rfl⟩
set_option maxHeartbeats 4000000 in
theorem rshort_any (s : ByteArray) (w : World) (hs : s.size ≤ maxLen) : Calls Tryz.prog 55 #[.string s] w fun e w' => e = .returned (.bool (shortB s)) ∧ w' = w := by
  unfold maxLen at hs
  by_cases h0 : s.size = 0
  · have HN := hid (show shortB s = false by unfold shortB; rw [decide_eq_false (by simp [h0])]; rfl)
    have hE := empty_yes h0
    go_enter Tryz.func55, Tryz.ntmps55
    go_wp2
    go_ret
    exact ⟨ret_bool HN.out.symm, rfl⟩
  · have hE := empty_no h0
    by_cases h63 : s.size ≤ 63
    · have g63 : ¬ (63 : Int) < (s.size : Int) := by omega
      have HV := hid (show shortB s = (allB innB s && (wordB (at' s 0) && wordB (at' s (s.size - 1)))) by unfold shortB; rw [decide_eq_true ⟨h0, h63⟩]; simp [Bool.and_assoc])
      go_enter Tryz.func55, Tryz.ntmps55
      go_wp2
      go_loop [3] (fun i => ∃ k : Nat, k ≤ s.size ∧ i = .int .i64 k ∧ Hid (∀ j, j < k → innB (at' s j) = true)) (fun i => s.size - (intOf i).toNat)
      case atStart => exact ⟨0, Nat.zero_le _, rfl, hid (fun j hj => by omega)⟩
      case round =>
        obtain ⟨k, hk, rfl, HO⟩ := hrel
        by_cases hlt : k < s.size
        · obtain ⟨c, hc⟩ : ∃ c : Int, ((s[k]'hlt).toNat : Int) = c := ⟨_, rfl⟩
          have HC := hid ((at_get s k hlt).trans hc)
          have HL := hid (fun W => rinner_any c W)
          cases c1 : innB c
          · rw [c1] at HL
            have HN := hid (show shortB s = false by rw [HV.out, all_bad (p := innB) hlt (show innB (at' s k) = false by rw [HC.out]; exact c1)]; rfl)
            clear HO HC c1
            go_wp2_with (go_at_call 74; refine (HL.out _).mono ?_; rintro e w1 ⟨rfl, hww⟩; subst hww)
            go_ret
            exact ⟨ret_bool HN.out.symm, rfl⟩
          · rw [c1] at HL
            have HO2 := hid (all_snoc (p := innB) HO.out (show innB (at' s k) = true by rw [HC.out]; exact c1))
            clear HO HC c1
            go_wp2_with (go_at_call 74; refine (HL.out _).mono ?_; rintro e w1 ⟨rfl, hww⟩; subst hww)
            exact ⟨⟨k + 1, by omega, by go_num, HO2⟩, by simp [intOf]; omega⟩
        · obtain rfl : k = s.size := by omega
          rw [all_good HO.out, Bool.true_and] at HV
          obtain ⟨c, hc⟩ : ∃ c : Int, ((s[0]'(by omega)).toNat : Int) = c := ⟨_, rfl⟩
          obtain ⟨d, hd⟩ : ∃ d : Int, ((s[s.size - 1]'(by omega)).toNat : Int) = d := ⟨_, rfl⟩
          rw [at_get s 0 (by omega), hc, at_get s (s.size - 1) (by omega), hd] at HV
          have HC := hid (fun W => rword_any c W)
          have HD := hid (fun W => rword_any d W)
          have hsub : ((s.size : Int) - 1).toNat = s.size - 1 := by omega
          clear HO
          cases e1 : wordB c
          · rw [e1] at HC HV
            go_wp2_with fail
            refine (HC.out _).mono ?_
            rintro e w1 ⟨rfl, hww⟩; subst hww
            go_wp2_with fail
            go_ret
            exact ⟨ret_bool (by rw [HV.out]; rfl), rfl⟩
          · rw [e1] at HC HV
            cases e2 : wordB d <;>
            · rw [e2] at HD HV
              go_wp2_with fail
              refine (HC.out _).mono ?_
              rintro e w1 ⟨rfl, hww⟩; subst hww
              go_wp2_with fail
              refine (HD.out _).mono ?_
              rintro e w1 ⟨rfl, hww⟩; subst hww
              go_wp2_with fail
              go_ret
              exact ⟨ret_bool (by rw [HV.out]; rfl), rfl⟩
    · have g63 : (63 : Int) < (s.size : Int) := by omega
      have HN := hid (show shortB s = false by unfold shortB; rw [decide_eq_false (by omega)]; rfl)
      go_enter Tryz.func55, Tryz.ntmps55
      go_wp2
      go_ret
      exact ⟨ret_bool HN.out.symm, rfl⟩
end Go.Proofs.YtiddnjjaidiohaaGreatDoor.L
namespace Go.Proofs.YtiddnjjaidiohaaGreatDoor.L
set_option linter.unusedVariables false
/-- A text cut at each byte c. -/
def cutL (c : UInt8) : List UInt8 → List (List UInt8)
  | [] => [[]]
  | b :: l => if b = c then [] :: cutL c l else match cutL c l with
    | [] => [[b]]
    | p :: r => (b :: p) :: r
theorem cut_ne (c : UInt8) (l : List UInt8) : cutL c l ≠ [] := by
  cases l with
  | nil => simp [cutL]
  | cons b l =>
    unfold cutL
    split
    · simp
    · split <;> simp
theorem cut_app (c : UInt8) (a b : List UInt8) : cutL c (a ++ c :: b) = cutL c a ++ cutL c b := by
  induction a with
  | nil => simp [cutL]
  | cons x a ih =>
    simp only [List.cons_append, cutL]
    split
    · rw [ih]; rfl
    · rw [ih]
      cases e : cutL c a with
      | nil => exact absurd e (cut_ne c a)
      | cons p r => rfl
theorem cut_none (c : UInt8) (a : List UInt8) (h : c ∉ a) : cutL c a = [a] := by
  induction a with
  | nil => rfl
  | cons x a ih =>
    simp only [cutL]
    rw [if_neg (fun e => h (by simp [e])), ih (fun e => h (by simp [e]))]
def joinL (c : UInt8) : List (List UInt8) → List UInt8
  | [] => []
  | [x] => x
  | x :: y :: r => x ++ c :: joinL c (y :: r)
theorem join_cons (c : UInt8) (x : List UInt8) (r : List (List UInt8)) (h : r ≠ []) : joinL c (x :: r) = x ++ c :: joinL c r := by
  cases r with
  | nil => exact absurd rfl h
  | cons y r => rfl
theorem cut_join (c : UInt8) (l : List UInt8) : joinL c (cutL c l) = l := by
  induction l with
  | nil => rfl
  | cons b l ih =>
    unfold cutL
    split
    · rename_i e
      rw [join_cons c _ _ (cut_ne c l), ih, e]
      rfl
    · cases e : cutL c l with
      | nil => exact absurd e (cut_ne c l)
      | cons p r =>
        rw [e] at ih
        simp only
        cases r with
        | nil =>
          have : p = l := ih
          rw [this]
          rfl
        | cons q r =>
          rw [join_cons c _ _ (by simp)] at ih ⊢
          rw [← ih]
          rfl
theorem idx_none {l : List UInt8} {c : UInt8} (h : Lib.indexByte l c = -1) : c ∉ l := by
  induction l with
  | nil => simp
  | cons b l ih =>
    unfold Lib.indexByte at h
    split at h
    · cases h
    · rename_i e
      split at h
      · rename_i e2
        have := ih (by simpa using e2)
        simp
        exact ⟨fun e3 => e (by simp [e3]), this⟩
      · have := Lib.indexByte_ge l c
        rename_i e2
        have e3 : Lib.indexByte l c ≠ -1 := by simpa using e2
        omega
theorem idx_some {l : List UInt8} {c : UInt8} {i : Nat} (h : Lib.indexByte l c = i) : l = l.take i ++ c :: l.drop (i + 1) ∧ c ∉ l.take i := by
  induction l generalizing i with
  | nil => simp [Lib.indexByte] at h
  | cons b l ih =>
    unfold Lib.indexByte at h
    split at h
    · rename_i e
      obtain rfl : i = 0 := by omega
      simp at e
      simp [e]
    · rename_i e
      split at h
      · omega
      · obtain ⟨j, rfl⟩ : ∃ j, i = j + 1 := ⟨i - 1, by
          have := Lib.indexByte_ge l c
          rename_i e2
          have e3 : Lib.indexByte l c ≠ -1 := by simpa using e2
          omega⟩
        obtain ⟨h1, h2⟩ := ih (show Lib.indexByte l c = j by omega)
        refine ⟨?_, ?_⟩
        · simp
          exact h1
        · simp
          exact ⟨fun e3 => e (by simp [e3]), h2⟩
theorem idx_at {a b : List UInt8} {c : UInt8} (h : c ∉ a) : Lib.indexByte (a ++ c :: b) c = a.length := by
  induction a with
  | nil => simp [Lib.indexByte]
  | cons x a ih =>
    have ih' := ih (fun e => h (by simp [e]))
    simp only [List.cons_append]
    unfold Lib.indexByte
    rw [if_neg (by simp; exact fun e => h (by simp [e])), ih', if_neg (by simp)]
    simp
theorem split_cut (c : UInt8) : ∀ (n : Nat) (s : List UInt8), s.count c = n → Lib.splitK [c] 0 n s = cutL c s := by
  intro n
  induction n with
  | zero =>
    intro s h
    rw [cut_none c s (List.count_eq_zero.1 h)]
    rfl
  | succ n ih =>
    intro s h
    unfold Lib.splitK
    rw [Lib.index_one]
    by_cases e : Lib.indexByte s c = -1
    · have := List.count_eq_zero.2 (idx_none e)
      omega
    · obtain ⟨i, hi⟩ : ∃ i : Nat, Lib.indexByte s c = i := ⟨(Lib.indexByte s c).toNat, by have := Lib.indexByte_ge s c; omega⟩
      rw [if_neg (by simpa using e), hi]
      obtain ⟨h1, h2⟩ := idx_some hi
      have hc : (s.drop (i + 1)).count c = n := by
        rw [h1, List.count_append, List.count_cons_self, List.count_eq_zero.2 h2] at h
        omega
      have := ih _ hc
      simp only [Int.toNat_natCast, Nat.add_zero, List.length_singleton]
      rw [this]
      conv => rhs; rw [h1]
      rw [cut_app, cut_none c _ h2]
      rfl
/-- The pieces are the cut. -/
theorem pieces_cut (s : ByteArray) (c : UInt8) : (pieces s c).map (·.data.toList) = cutL c s.data.toList := by
  unfold pieces
  rw [Lib.splitB_data]
  refine split_cut c _ _ ?_
  show _ = Lib.count s.data.toList [c]
  rw [Lib.count_one]
theorem bytes_mk (s : ByteArray) : (⟨s.data.toList.toArray⟩ : ByteArray) = s := by
  cases s
  simp
end Go.Proofs.YtiddnjjaidiohaaGreatDoor.L
namespace Go.Proofs.YtiddnjjaidiohaaGreatDoor.L
open Go.RowKit
set_option linter.unusedVariables false
/-- A row of texts that lies in the world. -/
def StrAt (W : World) (v : Value) (ps : List ByteArray) : Prop := ∃ b cap, v = .slice (some ⟨b, 0, none⟩) ps.length cap ∧ b < W.heap.size ∧ ∀ k (hk : k < ps.length), W.cell? ⟨b, k, none⟩ = some (.string ps[k])
theorem strAt_own {W : World} {base : Nat} {v : Value} {ps : List ByteArray} (h : W.ownsRow base 9 1 v ps.length (ps.map Value.string)) (hp : ps ≠ []) : StrAt W v ps := by
  obtain ⟨h1, h2⟩ := h
  rcases h2 with ⟨rfl, hz⟩ | ⟨g, cap, cur, rfl, hb, hh, hle, hm, hs, ht⟩
  · exact absurd (List.length_eq_zero_iff.1 hz) hp
  · have hlt : g < W.heap.size := by
      apply Classical.byContradiction
      intro n
      rw [Array.getElem?_eq_none (by omega)] at hh
      cases hh
    refine ⟨g, cap, rfl, hlt, fun k hk => ?_⟩
    have hu : (ps.map Value.string)[k]? = some (.string ps[k]) := by simp [hk]
    rw [← ht, List.getElem?_take, if_pos (by omega)] at hu
    simp [World.cell?, hh]
    simpa using hu
theorem cell_str_at (w : World) (b : Nat) (x : Value) (t : TypeId) (hb : b = w.heap.size) : ∀ (j : Nat) (u : Value), [x][j]? = some u → (w.alloc (.cells #[x] t)).cell? ((⟨b, 0, none⟩ : Addr).add j) = some u := by
  subst hb
  intro j u hu
  rw [Go.WideShapes.add_plain]
  have h : (w.alloc (.cells #[x] t)).heap[w.heap.size]? = some (.cells #[x] t) := by
    show (w.heap.push _)[w.heap.size]? = _
    simp
  unfold World.cell?
  rw [h]
  match j, hu with
  | 0, hu => simpa using hu
  | n + 1, hu => simp at hu
theorem info9_parts : ∃ i, Tryz.prog.info? 9 = some i ∧ i.zero = some (.string ByteArray.empty) ∧ i.size = 1 ∧ i.bytes = 16 := by
  have h := info9
  cases e : Tryz.prog.info? 9 with
  | none => rw [e] at h; cases h
  | some i =>
    rw [e] at h
    simp at h
    exact ⟨i, rfl, h⟩
theorem ext_list (s : ByteArray) (a b : Nat) : (s.extract a b).data.toList = (s.data.toList.drop a).take (b - a) := by
  simp [List.extract]
theorem list_ba {ps qs : List ByteArray} (h : ps.map (·.data.toList) = qs.map (·.data.toList)) : ps = qs := by
  induction ps generalizing qs with
  | nil =>
    cases qs with
    | nil => rfl
    | cons q qs => simp at h
  | cons p ps ih =>
    cases qs with
    | nil => simp at h
    | cons q qs =>
      simp at h
      rw [ih (by simpa using h.2)]
      obtain ⟨p⟩ := p
      obtain ⟨q⟩ := q
      congr 2
      simpa using h.1
/-- The state of the cut: the pieces so far, where the next begins, how far it is read. -/
def cutSt (c : UInt8) (s : ByteArray) (ps : List ByteArray) (f k : Nat) : Prop := cutL c s.data.toList = ps.map (·.data.toList) ++ cutL c (s.data.toList.drop f) ∧ c ∉ (s.data.toList.drop f).take (k - f)
theorem cutSt_no {c : UInt8} {s : ByteArray} {ps : List ByteArray} {f k : Nat} (h : cutSt c s ps f k) (hf : f ≤ k) (hk : k < s.size) (hb : s[k] ≠ c) : cutSt c s ps f (k + 1) := by
  refine ⟨h.1, ?_⟩
  rw [show k + 1 - f = (k - f) + 1 by omega, List.take_add_one]
  intro m
  rcases List.mem_append.1 m with m | m
  · exact h.2 m
  · have e : (s.data.toList.drop f)[k - f]? = some s[k] := by
      rw [List.getElem?_drop, show f + (k - f) = k by omega]
      have : k < s.data.toList.length := by simpa using hk
      rw [List.getElem?_eq_getElem this]
      rfl
    rw [e] at m
    simp at m
    exact hb m.symm
theorem cutSt_yes {c : UInt8} {s : ByteArray} {ps : List ByteArray} {f k : Nat} (h : cutSt c s ps f k) (hf : f ≤ k) (hk : k < s.size) (hb : s[k] = c) : cutSt c s (ps ++ [s.extract f k]) (k + 1) (k + 1) := by
  refine ⟨?_, by simp⟩
  have e : s.data.toList.drop f = (s.data.toList.drop f).take (k - f) ++ c :: s.data.toList.drop (k + 1) := by
    have hk' : k < s.data.toList.length := by simpa using hk
    have e1 : (s.data.toList.drop f).drop (k - f) = c :: s.data.toList.drop (k + 1) := by
      rw [List.drop_drop, show f + (k - f) = k by omega, List.drop_eq_getElem_cons hk']
      congr 1
    conv => lhs; rw [← List.take_append_drop (k - f) (s.data.toList.drop f), e1]
  rw [h.1, e, cut_app, cut_none c _ h.2]
  simp only [List.map_append, List.map_cons, List.map_nil, ext_list, List.append_assoc]
theorem cutSt_end {c : UInt8} {s : ByteArray} {ps : List ByteArray} {f : Nat} (h : cutSt c s ps f s.size) (hf : f ≤ s.size) : ps ++ [s.extract f s.size] = pieces s c := by
  apply list_ba
  rw [pieces_cut, h.1]
  have hl : s.data.toList.length = s.size := by simp
  have e : (s.data.toList.drop f).take (s.size - f) = s.data.toList.drop f := by
    apply List.take_of_length_le
    rw [List.length_drop, hl]
    omega
  have h2 := h.2
  rw [e] at h2
  rw [cut_none c _ h2]
  simp only [List.map_append, List.map_cons, List.map_nil, ext_list, e]
set_option maxHeartbeats 4000000 in
set_option maxRecDepth 100000 in
theorem rcut_any (s : ByteArray) (c : UInt8) (w : World) (hs : s.size ≤ 100000) : Calls Tryz.prog 54 #[.string s, .int .u8 (c.toNat : Int)] w fun e w' => ∃ v, e = .returned v ∧ w'.ownsRow w.heap.size 9 1 v (pieces s c).length ((pieces s c).map Value.string) ∧ Below w.heap.size w w' := by
  obtain ⟨i0, hi0, hz0, hz1, hz2⟩ := info9_parts
  have HN := hid (fun ps f k (h : cutSt c s ps f k) => cutSt_no h)
  have HY := hid (fun ps f k (h : cutSt c s ps f k) => cutSt_yes h)
  have HE := hid (fun ps f (h : cutSt c s ps f s.size) => cutSt_end h)
  have H0 := hid (show cutSt c s [] 0 0 from ⟨by simp, by simp⟩)
  generalize hps : pieces s c = pieces at *
  clear hps
  obtain ⟨cc, hcc⟩ : ∃ cc : Int, (c.toNat : Int) = cc := ⟨_, rfl⟩
  have HCC := hid hcc
  rw [hcc]
  clear hcc
  go_enter Tryz.func54, Tryz.ntmps54
  go_wp2
  go_loopw [5, 6, 7] (fun o f i wr => ∃ (k g : Nat) (ps : List ByteArray), k ≤ s.size ∧ g ≤ k ∧ ps.length ≤ k ∧ i = .int .i64 k ∧ f = .int .i64 g ∧ Hid (Below w.heap.size w wr) ∧ Hid (cutSt c s ps g k) ∧ Hid (wr.ownsRow w.heap.size 9 1 o ps.length (ps.map Value.string))) (fun _ _ i _ => s.size - (intOf i).toNat)
  case atStart => exact ⟨0, 0, [], Nat.zero_le _, Nat.le_refl _, Nat.le_refl _, rfl, rfl, hid (Below.refl _ _), H0, hid (World.ownsRow_nil _ _ _ _)⟩
  case round =>
    obtain ⟨k, g, ps, hk, hg, hpl, rfl, rfl, HB, HC, OW⟩ := hrel
    have hws : w.heap.size ≤ wr.heap.size := HB.out.size
    obtain ⟨np, hnp⟩ : ∃ np, np = ps.length := ⟨_, rfl⟩
    by_cases hlt : k < s.size
    · obtain ⟨d, hd⟩ : ∃ d : Int, ((s[k]'hlt).toNat : Int) = d := ⟨_, rfl⟩
      by_cases e1 : d = cc
      · have HC2 := hid (HY.out ps g k HC.out hg hlt (by
          have := HCC.out
          rw [← e1, ← hd] at this
          exact (UInt8.toNat_inj.1 (by omega)).symm))
        subst e1
        clear HN HY HE H0
        go_wp2_with (first
          | (at_builtin; refine wpList_append_own _ rfl _ _ 107 rfl w.heap.size 9 i0 (.string ByteArray.empty) 1 16 Tryz.underlying107 hi0 hz0 hz1 hz2 rfl (by decide) _ _ _ rfl (World.ownsRow.alloc OW.out _) ⟨wr.heap.size, 0, none⟩ 1 1 [.string (s.extract g k)] rfl rfl (cell_str_at _ _ _ _ rfl) (fun x hx => by simp at hx; subst hx; rfl) (by unfold maxLen at *; omega) (by omega) (by simp; omega) ?_; intro v' w3 hown' hgrow3 hnil3)
          | go_in)
        clear hnil3
        have B3 : Below w.heap.size w w3 := (HB.out.alloc HB.out.size _).grown hgrow3 (by simp; omega) (fun j hj => (OW.out.lt j hj).1)
        exact ⟨⟨k + 1, k + 1, ps ++ [s.extract g k], by omega, by omega, by simp; omega, by go_num, by go_num, hid B3, HC2, hid (by rw [List.map_append, List.length_append]; exact hown')⟩, by simp [intOf]; omega⟩
      · have HC2 := hid (HN.out ps g k HC.out hg hlt (fun e => e1 (by rw [← hd, ← HCC.out, e])))
        have e2 : (d == cc) = false := by simpa using e1
        clear HN HY HE H0 e1
        go_wp2_with fail
        exact ⟨⟨k + 1, g, ps, by omega, by omega, by omega, by go_num, rfl, HB, HC2, OW⟩, by simp [intOf]; omega⟩
    · obtain rfl : k = s.size := by omega
      have HF := hid (HE.out ps g HC.out hg)
      clear HN HY HE H0
      go_wp2_with (first
        | (at_builtin; refine wpList_append_own _ rfl _ _ 107 rfl w.heap.size 9 i0 (.string ByteArray.empty) 1 16 Tryz.underlying107 hi0 hz0 hz1 hz2 rfl (by decide) _ _ _ rfl (World.ownsRow.alloc OW.out _) ⟨wr.heap.size, 0, none⟩ 1 1 [.string (s.extract g s.size)] rfl rfl (cell_str_at _ _ _ _ rfl) (fun x hx => by simp at hx; subst hx; rfl) (by unfold maxLen at *; omega) (by omega) (by simp; omega) ?_; intro v' w3 hown' hgrow3 hnil3)
        | go_in)
      clear hnil3
      have B3 : Below w.heap.size w w3 := (HB.out.alloc HB.out.size _).grown hgrow3 (by simp; omega) (fun j hj => (OW.out.lt j hj).1)
      go_ret
      exact ⟨_, rfl, by rw [← HF.out, List.map_append, List.length_append]; exact hown', B3⟩
end Go.Proofs.YtiddnjjaidiohaaGreatDoor.L
