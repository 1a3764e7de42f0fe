import Derived.Test.YtlhlpamciafocaaGreatDoorMgAE
import Derived.Lib.AtoiAll
namespace Go.Proofs.YtlhlpamciafocaaGreatDoor.L
open Go.RowKit Go.Shelf
set_option linter.unusedVariables false
/-- What the package-level variables on the road hold. -/
structure Vars (w : World) : Prop where
  syn : ∃ tp p, w.var? Tryz.prog "strconv.ErrSyntax" = some #[.iface tp p]
  rng : ∃ tp p, w.var? Tryz.prog "strconv.ErrRange" = some #[.iface tp p]
theorem var_low {w w' : World} {name : String} {x : Array Value} (h : w.var? Tryz.prog name = some x) (hb : Below w.heap.size w w') : w'.var? Tryz.prog name = some x := by
  unfold World.var? at h ⊢
  cases e : Tryz.prog.globalNamed name with
  | none => rw [e] at h; cases h
  | some g =>
    rw [e] at h
    simp only [Option.bind_some] at h ⊢
    have hlt : g < w.heap.size := by
      apply Classical.byContradiction
      intro n
      rw [Array.getElem?_eq_none (by omega)] at h
      cases h
    rw [hb.block g hlt]
    exact h
theorem Vars.low {w w' : World} (h : Vars w) (hb : Below w.heap.size w w') : Vars w' := by
  obtain ⟨⟨t1, p1, b⟩, ⟨t2, p2, c⟩⟩ := h
  exact ⟨⟨t1, p1, var_low b hb⟩, ⟨t2, p2, var_low c hb⟩⟩
theorem atoi_ok (s : ByteArray) (hs : s.size ≤ 4096) (n : Int) (h : Lib.atoiAll s.data.toList = .ok n) (w : World) : Calls Tryz.prog 112 #[.string s] w fun e w' => e = .returned (.tuple #[.int .i64 n, .nilIface]) ∧ Below w.heap.size w w' := by
  refine (show Calls Tryz.prog 112 _ _ _ from Any.strconv_Atoi_ok laysC172 s (by omega) n h w).mono ?_
  rintro e w' ⟨rfl, rfl | ⟨t, rfl⟩⟩
  · exact ⟨rfl, Below.refl _ _⟩
  · exact ⟨rfl, Lib.bytesWorld_below w 5 t⟩
theorem atoi_bad (s : ByteArray) (hs : s.size ≤ 4096) (h : ∀ n, Lib.atoiAll s.data.toList ≠ .ok n) (w : World) (hv : Vars w) : Calls Tryz.prog 112 #[.string s] w fun e w' => ∃ n t N, e = .returned (.tuple #[.int .i64 n, .iface t (.pointer (some ⟨N, 0, none⟩))]) ∧ Below w.heap.size w w' := by
  cases e : Lib.atoiAll s.data.toList with
  | ok n => exact absurd e (h n)
  | «syntax» =>
    obtain ⟨tp, p, hvar⟩ := hv.syn
    refine (show Calls Tryz.prog 112 _ _ _ from Any.strconv_Atoi_syntax_var laysC172 s (by omega) e tp p w hvar).mono ?_
    rintro e w' ⟨N, rfl, _, _, hb⟩
    exact ⟨_, _, N, rfl, hb⟩
  | range =>
    obtain ⟨tp, p, hvar⟩ := hv.rng
    refine (show Calls Tryz.prog 112 _ _ _ from Any.strconv_Atoi_range_var laysC172 s (by omega) e tp p w hvar).mono ?_
    rintro e w' ⟨N, rfl, _, _, hb⟩
    exact ⟨_, _, N, rfl, hb⟩
def allD (l : List UInt8) : Bool := l.all fun c => digB (iv c)
def valF (n : Nat) (l : List UInt8) : Nat := l.foldl (fun n c => n * 10 + (c.toNat - 48)) n
theorem dig_nat (c : UInt8) : digB (iv c) = true ↔ 48 ≤ c.toNat ∧ c.toNat ≤ 57 := by
  unfold digB iv
  simp
  omega
theorem parse_bad : ∀ (l : List UInt8) (acc u : Nat), allD l = false → Lib.parseUint10 acc l ≠ .ok u
  | [], acc, u, h => by simp [allD] at h
  | c :: r, acc, u, h => by
    unfold Lib.parseUint10
    by_cases d : digB (iv c) = true
    · have h' : allD r = false := by simpa [allD, d] using h
      rw [if_pos ((dig_nat c).1 d)]
      split
      · intro e; cases e
      · split
        · intro e; cases e
        · exact parse_bad r _ u h'
    · rw [if_neg (fun x => d ((dig_nat c).2 x))]
      intro e; cases e
theorem parse_good : ∀ (l : List UInt8) (acc : Nat), allD l = true → acc < 10 ^ (18 - l.length) → l.length ≤ 18 → Lib.parseUint10 acc l = .ok (valF acc l) ∧ valF acc l < 10 ^ 18
  | [], acc, h, ha, hl => ⟨rfl, by simpa [valF] using ha⟩
  | c :: r, acc, h, ha, hl => by
    have hd : digB (iv c) = true ∧ allD r = true := by simpa [allD] using h
    have hc := (dig_nat c).1 hd.1
    simp only [List.length_cons] at ha hl
    have hp : 10 ^ (18 - r.length) = 10 * 10 ^ (18 - (r.length + 1)) := by
      rw [show 18 - r.length = (18 - (r.length + 1)) + 1 by omega, Nat.pow_succ, Nat.mul_comm]
    have hb : 10 ^ (18 - (r.length + 1)) ≤ 10 ^ 17 := Nat.pow_le_pow_right (by decide) (by omega)
    have ih := parse_good r (acc * 10 + (c.toNat - 48)) hd.2 (by omega) (by omega)
    unfold Lib.parseUint10
    rw [if_pos hc, if_neg (by omega), if_neg (by omega)]
    exact ih
/-- The digits behind the sign. -/
def dgs (t : ByteArray) : List UInt8 := if bt t 0 = 45 then t.data.toList.drop 1 else t.data.toList
/-- The number that a text writes. -/
def numS (t : ByteArray) : Option Int :=
  if dgs t = [48] then (if bt t 0 = 45 then none else some 0)
  else if 18 < (dgs t).length ∨ (dgs t).head? = some 48 ∨ dgs t = [] ∨ allD (dgs t) = false then none
  else some (if bt t 0 = 45 then -(valF 0 (dgs t) : Int) else valF 0 (dgs t))
theorem bt_cons {t : ByteArray} (h : t.size ≠ 0) : ∃ r, t.data.toList = bt t 0 :: r := by
  have := drop_bt t 0 (by omega)
  exact ⟨_, by simpa using this⟩
theorem atoi_num (t : ByteArray) (h0 : t.size ≠ 0) (h43 : bt t 0 ≠ 43) (h1 : dgs t ≠ []) (h2 : (dgs t).length ≤ 18) :
    (allD (dgs t) = true → Lib.atoiAll t.data.toList = .ok (if bt t 0 = 45 then -(valF 0 (dgs t) : Int) else valF 0 (dgs t))) ∧ (allD (dgs t) = false → ∀ n, Lib.atoiAll t.data.toList ≠ .ok n) := by
  obtain ⟨r, hr⟩ := bt_cons h0
  have n43 : (bt t 0).toNat ≠ 43 := fun e => h43 (UInt8.toNat_inj.1 e)
  have hm : Lib.atoiAll t.data.toList = match Lib.parseMag (dgs t) with
      | .syntax => .syntax
      | .range => .range
      | .ok u => if ¬ (bt t 0).toNat = 45 ∧ 9223372036854775808 ≤ u then .range else if (bt t 0).toNat = 45 ∧ 9223372036854775808 < u then .range else .ok (if (bt t 0).toNat = 45 then -(u : Int) else u) := by
    unfold dgs
    rw [hr]
    unfold Lib.atoiAll
    by_cases c : bt t 0 = 45
    · have c' : (bt t 0).toNat = 45 := by rw [c]; rfl
      simp only [c, if_true, List.drop_succ_cons, List.drop_zero]
      rfl
    · have c' : (bt t 0).toNat ≠ 45 := fun e => c (UInt8.toNat_inj.1 e)
      simp only [c, c', n43, if_false, or_false]
      cases Lib.parseMag (bt t 0 :: r) <;> rfl
  have hp : Lib.parseMag (dgs t) = Lib.parseUint10 0 (dgs t) := by unfold Lib.parseMag; rw [if_neg h1]
  rw [hp] at hm
  refine ⟨fun ha => ?_, fun ha n => ?_⟩
  · obtain ⟨e1, e2⟩ := parse_good (dgs t) 0 ha (Nat.pow_pos (by decide)) h2
    rw [e1] at hm
    rw [hm]
    simp only
    rw [if_neg (by omega), if_neg (by omega)]
    by_cases c : bt t 0 = 45
    · have c' : (bt t 0).toNat = 45 := by rw [c]; rfl
      rw [if_pos c', if_pos c]
    · have c' : (bt t 0).toNat ≠ 45 := fun e => c (UInt8.toNat_inj.1 e)
      rw [if_neg c', if_neg c]
  · rw [hm]
    cases hx : Lib.parseUint10 0 (dgs t) with
    | ok u => exact absurd hx (parse_bad _ _ _ ha)
    | «syntax» => intro e; cases e
    | range => intro e; cases e
theorem one_list (t : ByteArray) (h : 1 ≤ t.size) : (t.extract 0 1).toList = [bt t 0] := by
  rw [ByteArray.toList_eq, ByteArray.data_extract]
  have h1 := drop_bt t 0 (by omega)
  simp at h1 ⊢
  rw [h1]
  rfl
set_option maxHeartbeats 2000000 in
theorem hasp_any (t : ByteArray) (c : UInt8) (w : World) (hs : t.size ≤ 4096) (hc : c ≠ 0) : Calls Tryz.prog 125 #[.string t, .string ⟨#[c]⟩] w fun e w' => e = .returned (.bool (bt t 0 == c)) ∧ w' = w := by
  have hc1 : (⟨#[c]⟩ : ByteArray).size = 1 := rfl
  have hc2 : (⟨#[c]⟩ : ByteArray).toList = [c] := by rw [ByteArray.toList_eq]
  by_cases h : 1 ≤ t.size
  · have ht := one_list t h
    have h' : (1 : Int) ≤ t.size := by omega
    cases hb : (bt t 0 == c)
    · have n1 : ([bt t 0] == [c]) = false := by simpa using hb
      generalize bt t 0 = b at *
      go_enter Tryz.func125, Tryz.ntmps125
      go_wp2
      go_ret
      exact ⟨rfl, rfl⟩
    · have n1 : ([bt t 0] == [c]) = true := by simpa using hb
      generalize bt t 0 = b at *
      go_enter Tryz.func125, Tryz.ntmps125
      go_wp2
      go_ret
      exact ⟨rfl, rfl⟩
  · have h' : ¬ (1 : Int) ≤ t.size := by omega
    have hb : (bt t 0 == c) = false := by
      rw [bt_out t 0 (by omega)]
      simpa using fun e : (0 : UInt8) = c => hc e.symm
    rw [hb]
    go_enter Tryz.func125, Tryz.ntmps125
    go_wp2
    go_ret
    exact ⟨rfl, rfl⟩
set_option maxHeartbeats 2000000 in
theorem shasp_any (t : ByteArray) (c : UInt8) (w : World) (hs : t.size ≤ 4096) (hc : c ≠ 0) : Calls Tryz.prog 111 #[.string t, .string ⟨#[c]⟩] w fun e w' => e = .returned (.bool (bt t 0 == c)) ∧ w' = w := by
  have HI := hid (fun W => hasp_any t c W hs hc)
  generalize (bt t 0 == c) = b at *
  go_enter Tryz.func111, Tryz.ntmps111
  go_wp2_with (go_at_call 125; refine (HI.out _).mono ?_; rintro e w1 ⟨rfl, hww⟩; subst hww)
  go_ret
  exact ⟨rfl, rfl⟩
/-- What stands behind the sign, as a text. -/
def dgT (t : ByteArray) : ByteArray := if bt t 0 = 45 then t.extract 1 t.size else t
theorem dgT_list (t : ByteArray) : (dgT t).data.toList = dgs t := by
  unfold dgT dgs
  split
  · rw [ByteArray.data_extract]
    simp
    rw [List.take_of_length_le (by simp)]
  · rfl
theorem dgT_size (t : ByteArray) : (dgT t).size ≤ t.size := by
  unfold dgT
  split
  · simp
  · exact Nat.le_refl _
set_option maxHeartbeats 2000000 in
theorem cutp_any (t : ByteArray) (w : World) (hs : t.size ≤ 4096) : Calls Tryz.prog 124 #[.string t, .string ⟨#[45]⟩] w fun e w' => e = .returned (.tuple #[.string (dgT t), .bool (bt t 0 == 45)]) ∧ w' = w := by
  have HI := hid (fun W => hasp_any t 45 W hs (by decide))
  unfold dgT
  by_cases c : bt t 0 = 45
  · have h1 : 1 ≤ t.size := bt_nz (by rw [c]; decide)
    have h1' : (1 : Int) ≤ t.size := by omega
    rw [if_pos c]
    rw [show (bt t 0 == 45) = true by simpa using c] at HI ⊢
    go_enter Tryz.func124, Tryz.ntmps124
    go_wp2_with (go_at_call 125; refine (HI.out _).mono ?_; rintro e w1 ⟨rfl, hww⟩; subst hww)
    go_ret2
    exact ⟨rfl, rfl⟩
  · rw [if_neg c]
    rw [show (bt t 0 == 45) = false by simpa using c] at HI ⊢
    go_enter Tryz.func124, Tryz.ntmps124
    go_wp2_with (go_at_call 125; refine (HI.out _).mono ?_; rintro e w1 ⟨rfl, hww⟩; subst hww)
    go_ret2
    exact ⟨rfl, rfl⟩
set_option maxHeartbeats 2000000 in
theorem scutp_any (t : ByteArray) (w : World) (hs : t.size ≤ 4096) : Calls Tryz.prog 110 #[.string t, .string ⟨#[45]⟩] w fun e w' => e = .returned (.tuple #[.string (dgT t), .bool (bt t 0 == 45)]) ∧ w' = w := by
  have HI := hid (fun W => cutp_any t W hs)
  generalize (bt t 0 == 45) = b at *
  generalize dgT t = d at *
  go_enter Tryz.func110, Tryz.ntmps110
  go_wp2_with (go_at_call 124; refine (HI.out _).mono ?_; rintro e w1 ⟨rfl, hww⟩; subst hww)
  go_ret2
  exact ⟨rfl, rfl⟩
/-- What number answers. -/
def NumIs (r : Option Int) (w : World) (e : Ending) (w' : World) : Prop :=
  match r with
  | some n => e = .returned (.tuple #[.int .i64 n, .bool true]) ∧ Below w.heap.size w w'
  | none => ∃ n, e = .returned (.tuple #[.int .i64 n, .bool false]) ∧ Below w.heap.size w w'
end Go.Proofs.YtlhlpamciafocaaGreatDoor.L
namespace Go.Proofs.YtlhlpamciafocaaGreatDoor.L
open Go.RowKit Go.Shelf
set_option linter.unusedVariables false
theorem bt_head (t : ByteArray) (l : List UInt8) (h : t.data.toList = l) (c : UInt8) (hc : c ≠ 0) : (bt t 0 == c) = decide (l.head? = some c) := by
  unfold bt
  rw [h]
  cases l with
  | nil => simp; exact fun e => hc e.symm
  | cons x r =>
    show (x == c) = _
    cases e : (x == c)
    · exact (decide_eq_false (by simpa using e)).symm
    · exact (decide_eq_true (by simpa using e)).symm
set_option maxHeartbeats 4000000 in
theorem number_any (t : ByteArray) (w : World) (hs : t.size ≤ 4096) (h43 : bt t 0 ≠ 43) (h0 : t.size ≠ 0) (hd : dgs t ≠ []) (hv : Vars w) :
    Calls Tryz.prog 95 #[.string t] w fun e w' => NumIs (numS t) w e w' := by
  have HC := hid (fun W => scutp_any t W hs)
  have HH := hid (fun W => shasp_any (dgT t) 48 W (Nat.le_trans (dgT_size t) hs) (by decide))
  rw [bt_head (dgT t) (dgs t) (dgT_list t) 48 (by decide)] at HH
  have hl : (dgT t).toList = dgs t := by rw [ByteArray.toList_eq, dgT_list]
  have hz : (dgT t).size = (dgs t).length := by rw [← dgT_list]; simp
  have AN := hid (atoi_num t h0 h43 hd)
  have AO := hid (fun (n : Int) (h : Lib.atoiAll t.data.toList = .ok n) (W : World) => atoi_ok t hs n h W)
  have AB := hid (fun (h : ∀ n, Lib.atoiAll t.data.toList ≠ .ok n) => atoi_bad t hs h w hv)
  obtain ⟨R, hR⟩ : ∃ R, numS t = R := ⟨_, rfl⟩
  rw [hR]
  unfold numS at hR
  generalize dgT t = D at *
  generalize dgs t = L at *
  clear h43
  by_cases c1 : L = [48]
  · rw [if_pos c1] at hR
    subst c1
    have e1 : (([48] : List UInt8) == [48]) = true := by decide
    by_cases c45 : bt t 0 = 45
    · rw [if_pos c45] at hR
      rw [show (bt t 0 == 45) = true by simpa using c45] at HC
      subst hR
      go_enter Tryz.func95, Tryz.ntmps95
      go_wp2_with (go_at_call 110; refine (HC.out _).mono ?_; rintro e w1 ⟨rfl, hww⟩; have hw2 := hww.symm; clear hww; subst hw2)
      go_ret2
      exact ⟨_, rfl, Below.refl _ _⟩
    · rw [if_neg c45] at hR
      rw [show (bt t 0 == 45) = false by simpa using c45] at HC
      subst hR
      go_enter Tryz.func95, Tryz.ntmps95
      go_wp2_with (go_at_call 110; refine (HC.out _).mono ?_; rintro e w1 ⟨rfl, hww⟩; have hw2 := hww.symm; clear hww; subst hw2)
      go_ret2
      exact ⟨rfl, Below.refl _ _⟩
  · rw [if_neg c1] at hR
    generalize (bt t 0 == 45) = m at *
    have e1 : (L == [48]) = false := by simpa using c1
    have e1' : ([48] == L) = false := by simpa using fun e : [48] = L => c1 e.symm
    by_cases c2 : 18 < L.length
    · rw [if_pos (Or.inl c2)] at hR
      subst hR
      have c2' : (18 : Int) < L.length := by omega
      go_enter Tryz.func95, Tryz.ntmps95
      go_wp2_with (go_at_call 110; refine (HC.out _).mono ?_; rintro e w1 ⟨rfl, hww⟩; have hw2 := hww.symm; clear hww; subst hw2)
      go_ret2
      exact ⟨_, rfl, Below.refl _ _⟩
    · have c2' : ¬ (18 : Int) < L.length := by omega
      by_cases c3 : L.head? = some 48
      · rw [if_pos (Or.inr (Or.inl c3))] at hR
        subst hR
        rw [decide_eq_true c3] at HH
        go_enter Tryz.func95, Tryz.ntmps95
        go_wp2_with (first | (go_at_call 110; refine (HC.out _).mono ?_; rintro e w1 ⟨rfl, hww⟩; have hw2 := hww.symm; clear hww; subst hw2) | (go_at_call 111; refine (HH.out _).mono ?_; rintro e w1 ⟨rfl, hww⟩; have hw2 := hww.symm; clear hww; subst hw2))
        go_ret2
        exact ⟨_, rfl, Below.refl _ _⟩
      · rw [decide_eq_false c3] at HH
        have AN2 := hid (AN.out (by omega))
        cases c4 : allD L
        · rw [if_pos (Or.inr (Or.inr (Or.inr c4)))] at hR
          subst hR
          have HA := hid (AB.out (AN2.out.2 c4))
          clear AN AN2 AO AB
          go_enter Tryz.func95, Tryz.ntmps95
          go_wp2_with (first | (go_at_call 110; refine (HC.out _).mono ?_; rintro e w1 ⟨rfl, hww⟩; have hw2 := hww.symm; clear hww; subst hw2) | (go_at_call 111; refine (HH.out _).mono ?_; rintro e w1 ⟨rfl, hww⟩; have hw2 := hww.symm; clear hww; subst hw2) | (go_at_call 112; refine HA.out.mono ?_; rintro e w1 ⟨n, ty, N, rfl, l1⟩; have L1 := hid l1; clear l1))
          go_quiet (fail)
          go_wp2
          go_ret2
          exact ⟨_, rfl, below_drewN L1.out _⟩
        · rw [if_neg (by rw [c4]; simp [hd, c3]; omega)] at hR
          subst hR
          have HA := hid (fun W => AO.out _ (AN2.out.1 c4) W)
          clear AN AN2 AO AB
          generalize (if bt t 0 = 45 then -(valF 0 L : Int) else (valF 0 L : Int)) = n at *
          go_enter Tryz.func95, Tryz.ntmps95
          go_wp2_with (first | (go_at_call 110; refine (HC.out _).mono ?_; rintro e w1 ⟨rfl, hww⟩; have hw2 := hww.symm; clear hww; subst hw2) | (go_at_call 111; refine (HH.out _).mono ?_; rintro e w1 ⟨rfl, hww⟩; have hw2 := hww.symm; clear hww; subst hw2) | (go_at_call 112; refine (HA.out _).mono ?_; rintro e w1 ⟨rfl, l1⟩; have L1 := hid l1; clear l1))
          go_quiet (fail)
          go_wp2
          go_ret2
          exact ⟨rfl, below_drewN L1.out _⟩
end Go.Proofs.YtlhlpamciafocaaGreatDoor.L
