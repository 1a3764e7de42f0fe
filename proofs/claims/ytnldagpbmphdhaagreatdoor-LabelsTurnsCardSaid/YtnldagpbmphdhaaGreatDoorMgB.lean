import Derived.Lib.ItoaMem
import Derived.Lib.AtoiAll
import Derived.Test.YtnldagpbmphdhaaGreatDoorMgA
import Derived.Shelf.Strconv.ErrVarAll
import Derived.Shelf.Strconv.Itoa3
import Derived.Test.YtnldagpbmphdhaaGreatDoorProg
import Derived.Test.YtnldagpbmphdhaaGreatDoorTxt
namespace Go.Proofs.YtnldagpbmphdhaaGreatDoor.L
open Go.Lib
set_option linter.unusedVariables false
theorem dec_small {u : Nat} (h : u < 10) : decDigits u = [UInt8.ofNat (48 + u)] := by rw [decDigits, dif_pos h]
theorem dec_big {u : Nat} (h : ¬ u < 10) : decDigits u = decDigits (u / 10) ++ [UInt8.ofNat (48 + u % 10)] := by rw [decDigits, dif_neg h]
theorem digit_nat {d : Nat} (h : d < 10) : (UInt8.ofNat (48 + d)).toNat = 48 + d := by
  rw [UInt8.toNat_ofNat']
  omega
theorem dec_digits (u : Nat) : ∀ c ∈ decDigits u, 48 ≤ c.toNat ∧ c.toNat ≤ 57 := by
  induction u using Nat.strongRecOn with
  | _ u ih =>
    intro c hc
    by_cases h : u < 10
    · rw [dec_small h] at hc
      have hc := List.mem_singleton.1 hc
      rw [hc, digit_nat h]
      omega
    · rw [dec_big h] at hc
      rcases List.mem_append.1 hc with hc | hc
      · exact ih (u / 10) (by omega) c hc
      · have hc := List.mem_singleton.1 hc
        rw [hc, digit_nat (by omega)]
        omega
theorem dec_ne (u : Nat) : decDigits u ≠ [] := by
  by_cases h : u < 10
  · rw [dec_small h]; simp
  · rw [dec_big h]; simp
theorem dec_len (k u : Nat) (h : u < 10 ^ (k + 1)) : (decDigits u).length ≤ k + 1 := by
  induction k generalizing u with
  | zero => rw [dec_small (by simpa using h)]; simp
  | succ k ih =>
    by_cases h' : u < 10
    · rw [dec_small h']; simp
    · rw [dec_big h', List.length_append]
      have := ih (u / 10) (by rw [Nat.pow_succ] at h; omega)
      simp
      omega
theorem parse_app (l r : List UInt8) (acc u : Nat) (h : parseUint10 acc l = .ok u) : parseUint10 acc (l ++ r) = parseUint10 u r := by
  induction l generalizing acc with
  | nil =>
    simp only [parseUint10] at h
    injection h with h
    rw [h]
    rfl
  | cons c l ih =>
    simp only [List.cons_append, parseUint10] at h ⊢
    split at h
    · rename_i h1
      rw [if_pos h1]
      split at h
      · cases h
      · rename_i h2
        rw [if_neg h2]
        split at h
        · cases h
        · rename_i h3
          rw [if_neg h3]
          exact ih _ h
    · cases h
theorem parse_dec (u : Nat) (h : u < 18446744073709551616) : parseUint10 0 (decDigits u) = .ok u := by
  induction u using Nat.strongRecOn with
  | _ u ih =>
    by_cases h' : u < 10
    · rw [dec_small h']
      simp only [parseUint10]
      rw [digit_nat h', if_pos (by omega), if_neg (by omega), if_neg (by omega)]
      congr 1
      omega
    · rw [dec_big h', parse_app _ _ _ _ (ih (u / 10) (by omega) (by omega))]
      simp only [parseUint10]
      rw [digit_nat (by omega), if_pos (by omega), if_neg (by omega), if_neg (by omega)]
      congr 1
      omega
theorem head_digit {l : List UInt8} (h : ∀ c ∈ l, 48 ≤ c.toNat ∧ c.toNat ≤ 57) (hn : l ≠ []) : ∃ c r, l = c :: r ∧ c.toNat ≠ 43 ∧ c.toNat ≠ 45 := by
  cases l with
  | nil => exact absurd rfl hn
  | cons c r =>
    have := h c (by simp)
    exact ⟨c, r, rfl, by omega, by omega⟩
/-- What Itoa writes, Atoi reads. -/
theorem atoi_itoa (n : Int) (h0 : -9223372036854775808 ≤ n) (h1 : n ≤ 9223372036854775807) : atoiAll (itoa n) = .ok n := by
  by_cases hneg : n < 0
  · obtain ⟨u, rfl⟩ : ∃ u : Nat, n = -(u : Int) := ⟨n.natAbs, by omega⟩
    rw [itoa_neg u (by omega)]
    unfold atoiAll
    have e : parseMag (decDigits u) = .ok u := by
      unfold parseMag
      rw [if_neg (dec_ne u)]
      exact parse_dec u (by omega)
    have c45 : (45 : UInt8).toNat = 45 := by decide
    simp only [c45]
    rw [if_pos (by simp), e]
    simp
    omega
  · obtain ⟨u, rfl⟩ : ∃ u : Nat, n = u := ⟨n.toNat, by omega⟩
    rw [itoa_nonneg]
    have e : parseMag (decDigits u) = .ok u := by
      unfold parseMag
      rw [if_neg (dec_ne u)]
      exact parse_dec u (by omega)
    obtain ⟨c, r, el, n1, n2⟩ := head_digit (dec_digits u) (dec_ne u)
    rw [el] at e ⊢
    unfold atoiAll
    simp only
    rw [if_neg (by omega), e]
    simp [n2]
    omega
/-- What a number of fifteen digits is as bytes. -/
theorem itoa_form (n : Int) (h0 : -999999999999999 ≤ n) (h1 : n ≤ 999999999999999) : (itoa n).length ≤ 16 ∧ ∃ c r, itoa n = c :: r ∧ (c = 45 ∧ r ≠ [] ∨ 48 ≤ c.toNat ∧ c.toNat ≤ 57) ∧ ∀ x ∈ r, 48 ≤ x.toNat ∧ x.toNat ≤ 57 := by
  by_cases hneg : n < 0
  · obtain ⟨u, rfl⟩ : ∃ u : Nat, n = -(u : Int) := ⟨n.natAbs, by omega⟩
    rw [itoa_neg u (by omega)]
    have := dec_len 14 u (by show u < 1000000000000000; omega)
    exact ⟨by simp; omega, 45, _, rfl, Or.inl ⟨rfl, dec_ne u⟩, dec_digits u⟩
  · obtain ⟨u, rfl⟩ : ∃ u : Nat, n = u := ⟨n.toNat, by omega⟩
    rw [itoa_nonneg]
    have := dec_len 14 u (by show u < 1000000000000000; omega)
    obtain ⟨c, r, el, n1, n2⟩ := head_digit (dec_digits u) (dec_ne u)
    have hd := dec_digits u
    rw [el] at hd this ⊢
    exact ⟨by omega, c, r, rfl, Or.inr (hd c (by simp)), fun x hx => hd x (by simp [hx])⟩
/-- What Atoi reads is an int. -/
theorem atoi_range {l : List UInt8} {n : Int} (h : atoiAll l = .ok n) : -9223372036854775808 ≤ n ∧ n ≤ 9223372036854775807 := by
  unfold atoiAll at h
  cases l with
  | nil => cases h
  | cons c r =>
    simp only at h
    split at h
    · cases h
    · cases h
    · rename_i u e
      split at h
      · cases h
      · split at h
        · cases h
        · injection h with h
          subst h
          split <;> omega
end Go.Proofs.YtnldagpbmphdhaaGreatDoor.L
namespace Go.Proofs.YtnldagpbmphdhaaGreatDoor
open Go.Shelf
def laysM171_ren : Go.Shelf.Ren := ⟨fun | 171 => 82 | 243 => 112 | 246 => 129 | 283 => 137 | 284 => 138 | 285 => 139 | 286 => 140 | 129 => 105 | 317 => 144 | 318 => 145 | 319 => 146 | 320 => 147 | 337 => 148 | 338 => 149 | n => n, fun | 3 => 3 | 9 => 9 | 2 => 2 | 4 => 4 | 171 => 162 | 0 => 0 | 53 => 126 | 37 => 101 | 5 => 5 | 173 => 164 | 212 => 172 | 51 => 124 | 20 => 20 | 213 => 173 | 46 => 91 | 232 => 175 | 233 => 176 | n => n, fun | 17 => 5 | 18 => 6 | 19 => 7 | n => n⟩
theorem laysM171 : Go.Proofs.LaysM.n171 Tryz.prog laysM171_ren := {
  mixed := by kernel_rfl
  f129 := Tryz.func105.trans (congrArg some (by kernel_rfl))
  f171 := Tryz.func82.trans (congrArg some (by kernel_rfl))
  f243 := Tryz.func112.trans (congrArg some (by kernel_rfl))
  f246 := Tryz.func129.trans (congrArg some (by kernel_rfl))
  f283 := Tryz.func137.trans (congrArg some (by kernel_rfl))
  f284 := Tryz.func138.trans (congrArg some (by kernel_rfl))
  f285 := Tryz.func139.trans (congrArg some (by kernel_rfl))
  f286 := Tryz.func140.trans (congrArg some (by kernel_rfl))
  f317 := Tryz.func144.trans (congrArg some (by kernel_rfl))
  f318 := Tryz.func145.trans (congrArg some (by kernel_rfl))
  f319 := Tryz.func146.trans (congrArg some (by kernel_rfl))
  f320 := Tryz.func147.trans (congrArg some (by kernel_rfl))
  f337 := Tryz.func148.trans (congrArg some (by kernel_rfl))
  f338 := Tryz.func149.trans (congrArg some (by kernel_rfl))
  t0 := Tryz.underlying0
  a0 := Tryz.isAgg0
  z0 := Tryz.sizeOf0
  v0 := Tryz.zeroValue0
  t2 := Tryz.underlying2
  a2 := Tryz.isAgg2
  z2 := Tryz.sizeOf2
  v2 := Tryz.zeroValue2
  t3 := Tryz.underlying3
  a3 := Tryz.isAgg3
  z3 := Tryz.sizeOf3
  v3 := Tryz.zeroValue3
  t4 := Tryz.underlying4
  a4 := Tryz.isAgg4
  z4 := Tryz.sizeOf4
  v4 := Tryz.zeroValue4
  t5 := Tryz.underlying5
  a5 := Tryz.isAgg5
  z5 := Tryz.sizeOf5
  v5 := Tryz.zeroValue5
  t9 := Tryz.underlying9
  a9 := Tryz.isAgg9
  z9 := Tryz.sizeOf9
  v9 := Tryz.zeroValue9
  t20 := Tryz.underlying20
  a20 := Tryz.isAgg20
  z20 := Tryz.sizeOf20
  v20 := Tryz.zeroValue20
  t37 := Tryz.underlying101
  a37 := Tryz.isAgg101
  z37 := Tryz.sizeOf101
  v37 := Tryz.zeroValue101
  t46 := Tryz.underlying91
  a46 := Tryz.isAgg91
  z46 := Tryz.sizeOf91
  v46 := Tryz.zeroValue91
  t51 := Tryz.underlying124
  a51 := Tryz.isAgg124
  z51 := Tryz.sizeOf124
  v51 := Tryz.zeroValue124
  t53 := Tryz.underlying126
  a53 := Tryz.isAgg126
  z53 := Tryz.sizeOf126
  v53 := Tryz.zeroValue126
  t171 := Tryz.underlying162
  a171 := Tryz.isAgg162
  z171 := Tryz.sizeOf162
  v171 := Tryz.zeroValue162
  t173 := Tryz.underlying164
  a173 := Tryz.isAgg164
  z173 := Tryz.sizeOf164
  v173 := Tryz.zeroValue164
  t212 := Tryz.underlying172
  a212 := Tryz.isAgg172
  z212 := Tryz.sizeOf172
  v212 := Tryz.zeroValue172
  t213 := Tryz.underlying173
  a213 := Tryz.isAgg173
  z213 := Tryz.sizeOf173
  t232 := Tryz.underlying175
  a232 := Tryz.isAgg175
  z232 := Tryz.sizeOf175
  v232 := Tryz.zeroValue175
  t233 := Tryz.underlying176
  a233 := Tryz.isAgg176
  z233 := Tryz.sizeOf176
  v233 := Tryz.zeroValue176
  g17 := by kernel_rfl
  g18 := by kernel_rfl
  g19 := by kernel_rfl
  i0 := by kernel_rfl
  i2 := by kernel_rfl
  i3 := by kernel_rfl
  i4 := by kernel_rfl
  i5 := by kernel_rfl
  i9 := by kernel_rfl
  i20 := by kernel_rfl
  i37 := by kernel_rfl
  i46 := by kernel_rfl
  i51 := by kernel_rfl
  i53 := by kernel_rfl
  i171 := by kernel_rfl
  i173 := by kernel_rfl
  i212 := by kernel_rfl
  i232 := by kernel_rfl
  i233 := by kernel_rfl
  m17 := by kernel_rfl
  m18 := by kernel_rfl
  m19 := by kernel_rfl }
def laysC172_ren : Go.Shelf.Ren := ⟨fun | 172 => 81 | 244 => 110 | 245 => 111 | 247 => 124 | 279 => 125 | 280 => 126 | 281 => 127 | 282 => 128 | 287 => 134 | 316 => 135 | 171 => 82 | 205 => 136 | 321 => 142 | 322 => 143 | 243 => 112 | 246 => 129 | 283 => 137 | 284 => 138 | 285 => 139 | 286 => 140 | 129 => 105 | 317 => 144 | 318 => 145 | 319 => 146 | 320 => 147 | 337 => 148 | 338 => 149 | n => n, fun | 9 => 9 | 3 => 3 | 75 => 97 | 76 => 98 | 4 => 4 | 5 => 5 | 167 => 139 | 37 => 101 | 0 => 0 | 85 => 140 | 2 => 2 | 168 => 142 | 53 => 126 | 175 => 156 | 46 => 91 | 210 => 160 | 127 => 130 | 145 => 170 | 143 => 168 | 21 => 21 | 171 => 162 | 173 => 164 | 212 => 172 | 51 => 124 | 20 => 20 | 213 => 173 | 232 => 175 | 233 => 176 | 80 => 107 | n => n, fun | 15 => 3 | 16 => 4 | 17 => 5 | 18 => 6 | 19 => 7 | n => n⟩
theorem laysC172 : Go.Proofs.LaysC.n172 Tryz.prog laysC172_ren := {
  mixed := by kernel_rfl
  f129 := Tryz.func105.trans (congrArg some (by kernel_rfl))
  f171 := Tryz.func82.trans (congrArg some (by kernel_rfl))
  f172 := Tryz.func81.trans (congrArg some (by kernel_rfl))
  f205 := Tryz.func136.trans (congrArg some (by kernel_rfl))
  f243 := Tryz.func112.trans (congrArg some (by kernel_rfl))
  f244 := Tryz.func110.trans (congrArg some (by kernel_rfl))
  f245 := Tryz.func111.trans (congrArg some (by kernel_rfl))
  f246 := Tryz.func129.trans (congrArg some (by kernel_rfl))
  f247 := Tryz.func124.trans (congrArg some (by kernel_rfl))
  f279 := Tryz.func125.trans (congrArg some (by kernel_rfl))
  f280 := Tryz.func126.trans (congrArg some (by kernel_rfl))
  f281 := Tryz.func127.trans (congrArg some (by kernel_rfl))
  f282 := Tryz.func128.trans (congrArg some (by kernel_rfl))
  f283 := Tryz.func137.trans (congrArg some (by kernel_rfl))
  f284 := Tryz.func138.trans (congrArg some (by kernel_rfl))
  f285 := Tryz.func139.trans (congrArg some (by kernel_rfl))
  f286 := Tryz.func140.trans (congrArg some (by kernel_rfl))
  f287 := Tryz.func134.trans (congrArg some (by kernel_rfl))
  f316 := Tryz.func135.trans (congrArg some (by kernel_rfl))
  f317 := Tryz.func144.trans (congrArg some (by kernel_rfl))
  f318 := Tryz.func145.trans (congrArg some (by kernel_rfl))
  f319 := Tryz.func146.trans (congrArg some (by kernel_rfl))
  f320 := Tryz.func147.trans (congrArg some (by kernel_rfl))
  f321 := Tryz.func142.trans (congrArg some (by kernel_rfl))
  f322 := Tryz.func143.trans (congrArg some (by kernel_rfl))
  f337 := Tryz.func148.trans (congrArg some (by kernel_rfl))
  f338 := Tryz.func149.trans (congrArg some (by kernel_rfl))
  t0 := Tryz.underlying0
  a0 := Tryz.isAgg0
  z0 := Tryz.sizeOf0
  v0 := Tryz.zeroValue0
  t2 := Tryz.underlying2
  a2 := Tryz.isAgg2
  z2 := Tryz.sizeOf2
  v2 := Tryz.zeroValue2
  t3 := Tryz.underlying3
  a3 := Tryz.isAgg3
  z3 := Tryz.sizeOf3
  v3 := Tryz.zeroValue3
  t4 := Tryz.underlying4
  a4 := Tryz.isAgg4
  z4 := Tryz.sizeOf4
  v4 := Tryz.zeroValue4
  t5 := Tryz.underlying5
  a5 := Tryz.isAgg5
  z5 := Tryz.sizeOf5
  v5 := Tryz.zeroValue5
  t9 := Tryz.underlying9
  a9 := Tryz.isAgg9
  z9 := Tryz.sizeOf9
  v9 := Tryz.zeroValue9
  t20 := Tryz.underlying20
  a20 := Tryz.isAgg20
  z20 := Tryz.sizeOf20
  v20 := Tryz.zeroValue20
  t21 := Tryz.underlying21
  a21 := Tryz.isAgg21
  z21 := Tryz.sizeOf21
  v21 := Tryz.zeroValue21
  t37 := Tryz.underlying101
  a37 := Tryz.isAgg101
  z37 := Tryz.sizeOf101
  v37 := Tryz.zeroValue101
  t46 := Tryz.underlying91
  a46 := Tryz.isAgg91
  z46 := Tryz.sizeOf91
  v46 := Tryz.zeroValue91
  t51 := Tryz.underlying124
  a51 := Tryz.isAgg124
  z51 := Tryz.sizeOf124
  v51 := Tryz.zeroValue124
  t53 := Tryz.underlying126
  a53 := Tryz.isAgg126
  z53 := Tryz.sizeOf126
  v53 := Tryz.zeroValue126
  t75 := Tryz.underlying97
  a75 := Tryz.isAgg97
  z75 := Tryz.sizeOf97
  v75 := Tryz.zeroValue97
  t76 := Tryz.underlying98
  a76 := Tryz.isAgg98
  z76 := Tryz.sizeOf98
  v76 := Tryz.zeroValue98
  t85 := Tryz.underlying140
  a85 := Tryz.isAgg140
  z85 := Tryz.sizeOf140
  v85 := Tryz.zeroValue140
  t127 := Tryz.underlying130
  a127 := Tryz.isAgg130
  z127 := Tryz.sizeOf130
  v127 := Tryz.zeroValue130
  t143 := Tryz.underlying168
  a143 := Tryz.isAgg168
  z143 := Tryz.sizeOf168
  v143 := Tryz.zeroValue168
  t145 := Tryz.underlying170
  a145 := Tryz.isAgg170
  z145 := Tryz.sizeOf170
  v145 := Tryz.zeroValue170
  t167 := Tryz.underlying139
  a167 := Tryz.isAgg139
  z167 := Tryz.sizeOf139
  v167 := Tryz.zeroValue139
  t168 := Tryz.underlying142
  a168 := Tryz.isAgg142
  z168 := Tryz.sizeOf142
  v168 := Tryz.zeroValue142
  t171 := Tryz.underlying162
  a171 := Tryz.isAgg162
  z171 := Tryz.sizeOf162
  v171 := Tryz.zeroValue162
  t173 := Tryz.underlying164
  a173 := Tryz.isAgg164
  z173 := Tryz.sizeOf164
  v173 := Tryz.zeroValue164
  t175 := Tryz.underlying156
  a175 := Tryz.isAgg156
  z175 := Tryz.sizeOf156
  v175 := Tryz.zeroValue156
  t210 := Tryz.underlying160
  a210 := Tryz.isAgg160
  z210 := Tryz.sizeOf160
  v210 := Tryz.zeroValue160
  t212 := Tryz.underlying172
  a212 := Tryz.isAgg172
  z212 := Tryz.sizeOf172
  v212 := Tryz.zeroValue172
  t213 := Tryz.underlying173
  a213 := Tryz.isAgg173
  z213 := Tryz.sizeOf173
  t232 := Tryz.underlying175
  a232 := Tryz.isAgg175
  z232 := Tryz.sizeOf175
  v232 := Tryz.zeroValue175
  t233 := Tryz.underlying176
  a233 := Tryz.isAgg176
  z233 := Tryz.sizeOf176
  v233 := Tryz.zeroValue176
  g15 := by kernel_rfl
  g16 := by kernel_rfl
  g17 := by kernel_rfl
  g18 := by kernel_rfl
  g19 := by kernel_rfl
  t80 := Tryz.underlying107
  a80 := Tryz.isAgg107
  z80 := Tryz.sizeOf107
  v80 := Tryz.zeroValue107
  i0 := by kernel_rfl
  i2 := by kernel_rfl
  i3 := by kernel_rfl
  i4 := by kernel_rfl
  i5 := by kernel_rfl
  i9 := by kernel_rfl
  i20 := by kernel_rfl
  i21 := by kernel_rfl
  i37 := by kernel_rfl
  i46 := by kernel_rfl
  i51 := by kernel_rfl
  i53 := by kernel_rfl
  i75 := by kernel_rfl
  i76 := by kernel_rfl
  i80 := by kernel_rfl
  i85 := by kernel_rfl
  i127 := by kernel_rfl
  i143 := by kernel_rfl
  i145 := by kernel_rfl
  i167 := by kernel_rfl
  i168 := by kernel_rfl
  i171 := by kernel_rfl
  i173 := by kernel_rfl
  i175 := by kernel_rfl
  i210 := by kernel_rfl
  i212 := by kernel_rfl
  i232 := by kernel_rfl
  i233 := by kernel_rfl
  m15 := by kernel_rfl
  m16 := by kernel_rfl
  m17 := by kernel_rfl
  m18 := by kernel_rfl
  m19 := by kernel_rfl
  c0 := by kernel_rfl
  c2 := by kernel_rfl
  c3 := by kernel_rfl
  c4 := by kernel_rfl
  c5 := by kernel_rfl
  c9 := by kernel_rfl
  c20 := by kernel_rfl
  c21 := by kernel_rfl
  c37 := by kernel_rfl
  c46 := by kernel_rfl
  c51 := by kernel_rfl
  c53 := by kernel_rfl
  c75 := by kernel_rfl
  c76 := by kernel_rfl
  c80 := by kernel_rfl
  c85 := by kernel_rfl
  c127 := by kernel_rfl
  c143 := by kernel_rfl
  c145 := by kernel_rfl
  c167 := by kernel_rfl
  c168 := by kernel_rfl
  c171 := by kernel_rfl
  c173 := by kernel_rfl
  c175 := by kernel_rfl
  c210 := by kernel_rfl
  c212 := by kernel_rfl
  c213 := by kernel_rfl
  c232 := by kernel_rfl
  c233 := by kernel_rfl }
end Go.Proofs.YtnldagpbmphdhaaGreatDoor
namespace Go.Proofs.YtnldagpbmphdhaaGreatDoor.L
open Go.RowKit Go.Sort
set_option linter.unusedVariables false
/-- What the package-level variables on the road hold. -/
structure Vars (w : World) : Prop where
  tab : Lib.TabIs Tryz.prog w "internal/strconv.uint64pow10" .u64 Lib.pow10Tab
  syn : ∃ tp p, w.var? Tryz.prog "strconv.ErrSyntax" = some #[.iface tp p]
  rng : ∃ tp p, w.var? Tryz.prog "strconv.ErrRange" = some #[.iface tp p]
theorem var_low {w w' : World} {name : String} {x : Array Value} (h : w.var? Tryz.prog name = some x) (hb : Below w.heap.size w w') : w'.var? Tryz.prog name = some x := by
  unfold World.var? at h ⊢
  cases e : Tryz.prog.globalNamed name with
  | none => rw [e] at h; cases h
  | some g =>
    rw [e] at h
    simp only [Option.bind_some] at h ⊢
    have hlt : g < w.heap.size := by
      apply Classical.byContradiction
      intro n
      rw [Array.getElem?_eq_none (by omega)] at h
      cases h
    rw [hb.block g hlt]
    exact h
theorem Vars.low {w w' : World} (h : Vars w) (hb : Below w.heap.size w w') : Vars w' := by
  obtain ⟨a, ⟨t1, p1, b⟩, ⟨t2, p2, c⟩⟩ := h
  exact ⟨var_low a hb, ⟨t1, p1, var_low b hb⟩, ⟨t2, p2, var_low c hb⟩⟩
theorem below_grow (w : World) (k : Nat) (os : Array Obj) : Below w.heap.size w (grow (w.drewN k) os) := by
  refine ⟨rfl, rfl, rfl, ?_, fun j hj => ?_⟩
  · show w.heap.size ≤ (w.heap ++ os).size
    simp
  · show (w.heap ++ os)[j]? = _
    rw [Array.getElem?_append_left hj]
theorem below_bytes (w : World) (t : ByteArray) : Below w.heap.size w (Lib.bytesWorld w 5 t) := by
  have h := Lib.bytesWorld_below w 5 t
  exact h
def tx (n : Int) : ByteArray := ⟨(Lib.itoa n).toArray⟩
theorem itoa_any (n : Int) (h0 : -9223372036854775808 ≤ n) (h1 : n ≤ 9223372036854775807) (w : World) (hv : Vars w) : Calls Tryz.prog 82 #[.int .i64 n] w fun e w' => e = .returned (.string (tx n)) ∧ Below w.heap.size w w' := by
  refine (show Calls Tryz.prog 82 _ _ _ from Any.strconv_Itoa laysM171 n h0 h1 w hv.tab).mono ?_
  rintro e w' ⟨rfl, k, os, rfl⟩
  exact ⟨rfl, below_grow w k os⟩
theorem atoi_ok (s : ByteArray) (hs : s.size ≤ 281474976710656) (n : Int) (h : Lib.atoiAll s.data.toList = .ok n) (w : World) : Calls Tryz.prog 81 #[.string s] w fun e w' => e = .returned (.tuple #[.int .i64 n, .nilIface]) ∧ Below w.heap.size w w' := by
  refine (show Calls Tryz.prog 81 _ _ _ from Any.strconv_Atoi_ok laysC172 s (by omega) n h w).mono ?_
  rintro e w' ⟨rfl, rfl | ⟨t, rfl⟩⟩
  · exact ⟨rfl, Below.refl _ _⟩
  · exact ⟨rfl, below_bytes w t⟩
theorem atoi_bad (s : ByteArray) (hs : s.size ≤ 281474976710656) (h : ∀ n, Lib.atoiAll s.data.toList ≠ .ok n) (w : World) (hv : Vars w) : Calls Tryz.prog 81 #[.string s] w fun e w' => ∃ n t N, e = .returned (.tuple #[.int .i64 n, .iface t (.pointer (some ⟨N, 0, none⟩))]) ∧ Below w.heap.size w w' := by
  cases e : Lib.atoiAll s.data.toList with
  | ok n => exact absurd e (h n)
  | «syntax» =>
    obtain ⟨tp, p, hvar⟩ := hv.syn
    refine (show Calls Tryz.prog 81 _ _ _ from Any.strconv_Atoi_syntax_var laysC172 s hs e tp p w hvar).mono ?_
    rintro e w' ⟨N, rfl, _, _, hb⟩
    exact ⟨_, _, N, rfl, hb⟩
  | range =>
    obtain ⟨tp, p, hvar⟩ := hv.rng
    refine (show Calls Tryz.prog 81 _ _ _ from Any.strconv_Atoi_range_var laysC172 s hs e tp p w hvar).mono ?_
    rintro e w' ⟨N, rfl, _, _, hb⟩
    exact ⟨_, _, N, rfl, hb⟩
set_option maxHeartbeats 1000000 in
theorem inttext_out (n : Int) (h0 : -9223372036854775808 ≤ n) (h1 : n ≤ 9223372036854775807) (w : World) (h : ¬ (-999999999999999 ≤ n ∧ n ≤ 999999999999999)) : Calls Tryz.prog 45 #[.int .i64 n] w fun e w' => e = .returned (.tuple #[.string ByteArray.empty, .bool false]) ∧ w' = w := by
  by_cases a : n < -999999999999999
  · go_enter Tryz.func45, Tryz.ntmps45
    go_wp2
    go_ret2
    exact ⟨rfl, rfl⟩
  · have b : (999999999999999 : Int) < n := by omega
    go_enter Tryz.func45, Tryz.ntmps45
    go_wp2
    go_ret2
    exact ⟨rfl, rfl⟩
set_option maxHeartbeats 1000000 in
theorem inttext_in (n : Int) (h0 : -999999999999999 ≤ n) (h1 : n ≤ 999999999999999) (w : World) (hv : Vars w) : Calls Tryz.prog 45 #[.int .i64 n] w fun e w' => e = .returned (.tuple #[.string (tx n), .bool true]) ∧ Below w.heap.size w w' := by
  have HI := hid (itoa_any n (by omega) (by omega) w hv)
  have a : ¬ n < -999999999999999 := by omega
  have b : ¬ (999999999999999 : Int) < n := by omega
  generalize tx n = t at *
  go_enter Tryz.func45, Tryz.ntmps45
  go_wp2_with fail
  refine HI.out.mono ?_
  rintro e w1 ⟨rfl, hb⟩
  go_wp2_with fail
  go_ret2
  exact ⟨rfl, hb⟩
/-- The number that a text writes. -/
def intOk (s : ByteArray) (n : Int) : Prop := Lib.atoiAll s.data.toList = .ok n ∧ -999999999999999 ≤ n ∧ n ≤ 999999999999999 ∧ tx n = s
set_option maxHeartbeats 2000000 in
theorem int_yes (s : ByteArray) (hs : s.size ≤ 281474976710656) (n : Int) (h : intOk s n) (w : World) (hv : Vars w) : Calls Tryz.prog 43 #[.string s] w fun e w' => e = .returned (.tuple #[.int .i64 n, .bool true]) ∧ Below w.heap.size w w' := by
  obtain ⟨a, b, c, d⟩ := h
  have HA := hid (atoi_ok s hs n a w)
  have HI := hid (fun W (hb : Below w.heap.size w W) => inttext_in n b c W (hv.low hb))
  rw [d] at HI
  clear d
  go_enter Tryz.func43, Tryz.ntmps43
  go_wp2_with fail
  refine HA.out.mono ?_
  rintro e w1 ⟨rfl, hb1⟩
  have HB := hid hb1
  clear hb1
  go_wp2_with fail
  refine (HI.out _ HB.out).mono ?_
  rintro e w2 ⟨rfl, hb2⟩
  have HB2 := hid hb2
  clear hb2
  go_wp2_with fail
  go_ret2
  exact ⟨rfl, HB.out.trans (HB2.out.mono HB.out.size)⟩
set_option maxHeartbeats 2000000 in
theorem int_no (s : ByteArray) (hs : s.size ≤ 281474976710656) (h : ∀ n, ¬ intOk s n) (w : World) (hv : Vars w) : Calls Tryz.prog 43 #[.string s] w fun e w' => e = .returned (.tuple #[.int .i64 0, .bool false]) ∧ Below w.heap.size w w' := by
  by_cases ok : ∃ n, Lib.atoiAll s.data.toList = .ok n
  · obtain ⟨n, a⟩ := ok
    have HA := hid (atoi_ok s hs n a w)
    have hn : -9223372036854775808 ≤ n ∧ n ≤ 9223372036854775807 := atoi_range a
    by_cases r : -999999999999999 ≤ n ∧ n ≤ 999999999999999
    · have HI := hid (fun W (hb : Below w.heap.size w W) => inttext_in n r.1 r.2 W (hv.low hb))
      have ne : ((tx n).toList == s.toList) = false := by
        cases e : ((tx n).toList == s.toList)
        · rfl
        · exact absurd ⟨a, r.1, r.2, bytes_ext (by simpa using e)⟩ (h n)
      generalize tx n = t at *
      go_enter Tryz.func43, Tryz.ntmps43
      go_wp2_with fail
      refine HA.out.mono ?_
      rintro e w1 ⟨rfl, hb1⟩
      have HB := hid hb1
      clear hb1
      go_wp2_with fail
      refine (HI.out _ HB.out).mono ?_
      rintro e w2 ⟨rfl, hb2⟩
      have HB2 := hid hb2
      clear hb2
      go_wp2_with fail
      go_ret2
      exact ⟨rfl, HB.out.trans (HB2.out.mono HB.out.size)⟩
    · have HI := hid (fun W => inttext_out n hn.1 hn.2 W r)
      go_enter Tryz.func43, Tryz.ntmps43
      go_wp2_with fail
      refine HA.out.mono ?_
      rintro e w1 ⟨rfl, hb1⟩
      have HB := hid hb1
      clear hb1
      go_wp2_with fail
      refine (HI.out _).mono ?_
      rintro e w2 ⟨rfl, hb2⟩
      subst hb2
      go_wp2_with fail
      go_ret2
      exact ⟨rfl, HB.out⟩
  · have HA := hid (atoi_bad s hs (fun n hn => ok ⟨n, hn⟩) w hv)
    go_enter Tryz.func43, Tryz.ntmps43
    go_wp2_with fail
    refine HA.out.mono ?_
    rintro e w1 ⟨n, t, N, rfl, hb1⟩
    have HB := hid hb1
    clear hb1
    go_wp2_with fail
    go_ret2
    exact ⟨rfl, HB.out⟩
end Go.Proofs.YtnldagpbmphdhaaGreatDoor.L
namespace Go.Proofs.YtnldagpbmphdhaaGreatDoor.L
open Go.RowKit Lib
set_option linter.unusedVariables false
theorem snoc_ind {P : List UInt8 → Prop} (h0 : P []) (hs : ∀ l c, P l → P (l ++ [c])) : ∀ l, P l := by
  intro l
  rw [← List.reverse_reverse l]
  induction l.reverse with
  | nil => exact h0
  | cons c r ih =>
    rw [List.reverse_cons]
    exact hs _ _ ih
/-- What digits are worth. -/
def val (l : List UInt8) : Nat := l.foldl (fun a c => 10 * a + (c.toNat - 48)) 0
theorem val_snoc (l : List UInt8) (c : UInt8) : val (l ++ [c]) = 10 * val l + (c.toNat - 48) := by
  simp [val, List.foldl_append]
theorem val_lt (l : List UInt8) : (∀ c ∈ l, 48 ≤ c.toNat ∧ c.toNat ≤ 57) → val l < 10 ^ l.length := by
  induction l using snoc_ind with
  | h0 => intro _; decide
  | hs l c ih =>
    intro h
    have a := ih (fun x hx => h x (by simp [hx]))
    have b := h c (by simp)
    rw [val_snoc, List.length_append, List.length_singleton, Nat.pow_succ]
    omega
theorem byte_of (c : UInt8) (h : 48 ≤ c.toNat ∧ c.toNat ≤ 57) : UInt8.ofNat (48 + (c.toNat - 48)) = c := by
  apply UInt8.toNat_inj.1
  rw [digit_nat (by omega)]
  omega
theorem val_dec (l : List UInt8) : (∀ c ∈ l, 48 ≤ c.toNat ∧ c.toNat ≤ 57) → l ≠ [] → (l.head? ≠ some 48 → 1 ≤ val l) ∧ ((l.head? ≠ some 48 ∨ l.length = 1) → decDigits (val l) = l) := by
  induction l using snoc_ind with
  | h0 => intro _ h; exact absurd rfl h
  | hs l c ih =>
    intro h _
    have b := h c (by simp)
    rw [val_snoc]
    by_cases hl : l = []
    · subst hl
      show ((some c ≠ some 48 → 1 ≤ 10 * 0 + (c.toNat - 48)) ∧ _)
      refine ⟨fun hc => ?_, fun _ => ?_⟩
      · have : c.toNat ≠ 48 := fun e => hc (by rw [show c = 48 from UInt8.toNat_inj.1 e])
        omega
      · show decDigits (10 * 0 + (c.toNat - 48)) = [c]
        rw [dec_small (by omega)]
        rw [show 10 * 0 + (c.toNat - 48) = c.toNat - 48 by omega, byte_of c b]
    · obtain ⟨i1, i2⟩ := ih (fun x hx => h x (by simp [hx])) hl
      have hh : (l ++ [c]).head? = l.head? := by
        cases l with
        | nil => exact absurd rfl hl
        | cons x l => rfl
      rw [hh]
      refine ⟨fun g => by have := i1 g; omega, fun g => ?_⟩
      have g' : l.head? ≠ some 48 := by
        rcases g with g | g
        · exact g
        · have : 0 < l.length := List.length_pos_iff.2 hl
          rw [List.length_append, List.length_singleton] at g
          omega
      have h1 := i1 g'
      rw [dec_big (by omega), show (10 * val l + (c.toNat - 48)) / 10 = val l by omega, show (10 * val l + (c.toNat - 48)) % 10 = c.toNat - 48 by omega, i2 (Or.inl g'), byte_of c b]
theorem dec_head (u : Nat) (h : u ≠ 0) : (decDigits u).head? ≠ some 48 := by
  induction u using Nat.strongRecOn with
  | _ u ih =>
    by_cases h' : u < 10
    · rw [dec_small h']
      intro e
      have e' : UInt8.ofNat (48 + u) = 48 := by simpa using e
      have := congrArg UInt8.toNat e'
      rw [digit_nat h'] at this
      have c48 : (48 : UInt8).toNat = 48 := by decide
      omega
    · rw [dec_big h']
      have := ih (u / 10) (by omega) (by omega)
      cases e : decDigits (u / 10) with
      | nil => exact absurd e (dec_ne _)
      | cons x r =>
        rw [e] at this
        exact this
/-- A text, its sign taken off. -/
def Sgn (s : ByteArray) (mi : Bool) (T : List UInt8) : Prop := (mi = true ∧ s.data.toList = 45 :: T ∧ T ≠ []) ∨ (mi = false ∧ T = s.data.toList ∧ ∀ r, r ≠ [] → s.data.toList ≠ 45 :: r)
def goodT (T : List UInt8) (mi : Bool) : Prop := T ≠ [] ∧ T.length ≤ 15 ∧ (∀ c ∈ T, 48 ≤ c.toNat ∧ c.toNat ≤ 57) ∧ ¬ (T.head? = some 48 ∧ (1 < T.length ∨ mi = true))
theorem tx_list (n : Int) : (tx n).data.toList = itoa n := by
  unfold tx
  simp
theorem int_good {s : ByteArray} {mi : Bool} {T : List UInt8} (h : Sgn s mi T) (g : goodT T mi) : intOk s (if mi then -(val T : Int) else (val T : Int)) := by
  obtain ⟨g1, g2, g3, g4⟩ := g
  have hv : val T < 10 ^ 15 := Nat.lt_of_lt_of_le (val_lt T g3) (Nat.pow_le_pow_right (by decide) g2)
  have hv' : val T < 1000000000000000 := hv
  obtain ⟨v1, v2⟩ := val_dec T g3 g1
  have hp : 0 < T.length := List.length_pos_iff.2 g1
  have hd : decDigits (val T) = T := by
    apply v2
    by_cases e : T.head? = some 48
    · right
      have : ¬ (1 < T.length) := fun x => g4 ⟨e, Or.inl x⟩
      omega
    · exact Or.inl e
  have done : ∀ n : Int, -999999999999999 ≤ n → n ≤ 999999999999999 → itoa n = s.data.toList → intOk s n := by
    intro n h0 h1 hi
    refine ⟨?_, h0, h1, ?_⟩
    · rw [← hi]
      exact atoi_itoa n (by omega) (by omega)
    · unfold tx
      rw [hi]
  rcases h with ⟨rfl, hs, _⟩ | ⟨rfl, hs, _⟩
  · simp only [if_true]
    have h1 : 1 ≤ val T := v1 (fun e => g4 ⟨e, Or.inr rfl⟩)
    exact done _ (by omega) (by omega) (by rw [itoa_neg _ h1, hd, hs])
  · simp only [Bool.false_eq_true, if_false]
    exact done _ (by omega) (by omega) (by rw [itoa_nonneg, hd, hs])
theorem int_bad {s : ByteArray} {mi : Bool} {T : List UInt8} (h : Sgn s mi T) {n : Int} (k : intOk s n) : goodT T mi := by
  obtain ⟨_, h0, h1, e⟩ := k
  have es : s.data.toList = itoa n := by rw [← e, tx_list]
  have shape : ∃ u, T = decDigits u ∧ u < 1000000000000000 ∧ (mi = true → u ≠ 0) := by
    by_cases hneg : n < 0
    · obtain ⟨u, rfl⟩ : ∃ u : Nat, n = -(u : Int) := ⟨n.natAbs, by omega⟩
      rw [itoa_neg u (by omega)] at es
      rcases h with ⟨rfl, hs, _⟩ | ⟨rfl, hs, hn⟩
      · rw [es] at hs
        exact ⟨u, (List.cons.inj hs).2.symm, by omega, fun _ => by omega⟩
      · exact absurd es (hn _ (dec_ne u))
    · obtain ⟨u, rfl⟩ : ∃ u : Nat, n = u := ⟨n.toNat, by omega⟩
      rw [itoa_nonneg] at es
      rcases h with ⟨rfl, hs, _⟩ | ⟨rfl, hs, hn⟩
      · exfalso
        have := dec_digits u 45 (by rw [← es, hs]; simp)
        have c45 : (45 : UInt8).toNat = 45 := by decide
        omega
      · exact ⟨u, by rw [hs, es], by omega, fun h => by cases h⟩
  obtain ⟨u, rfl, hu, hm⟩ := shape
  refine ⟨dec_ne u, dec_len 14 u hu, dec_digits u, ?_⟩
  rintro ⟨hh, hx⟩
  have hz : u = 0 := Classical.byContradiction fun hz => dec_head u hz hh
  rcases hx with hx | hx
  · rw [hz, dec_small (by decide)] at hx
    simp at hx
  · exact hm hx hz
end Go.Proofs.YtnldagpbmphdhaaGreatDoor.L
