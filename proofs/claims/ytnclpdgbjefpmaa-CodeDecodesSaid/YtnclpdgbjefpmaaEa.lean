import Derived.Test.YtnclpdgbjefpmaaProg
namespace Go.Proofs.Ytnclpdgbjefpmaa.L
set_option linter.unusedVariables false
set_option linter.unusedSimpArgs false
/-! Bytes that are written and read: pure. -/
/-- What reading from a place gives: the fault's code and place, or what was read and the next place. -/
abbrev DR (α : Type) : Type := Except (Nat × Nat) (α × Nat)
def dbnd {α β : Type} (r : DR α) (f : α → Nat → DR β) : DR β :=
  match r with
  | .ok (a, k) => f a k
  | .error e => .error e
theorem dbnd_ok {α β : Type} {a : α} {k : Nat} {f : α → Nat → DR β} : dbnd (.ok (a, k)) f = f a k := rfl
theorem dbnd_bad {α β : Type} {e : Nat × Nat} {f : α → Nat → DR β} : dbnd (.error e) f = .error e := rfl
theorem dbnd_inv {α β : Type} {r : DR α} {f : α → Nat → DR β} {b : β} {k' : Nat} (h : dbnd r f = .ok (b, k')) : ∃ a k, r = .ok (a, k) ∧ f a k = .ok (b, k') := by
  match r, h with
  | .ok (a, k), h => exact ⟨a, k, rfl, h⟩
  | .error e, h => cases h
theorem dbnd_err {α β : Type} {r : DR α} {f : α → Nat → DR β} {e : Nat × Nat} (h : dbnd r f = .error e) : r = .error e ∨ ∃ a k, r = .ok (a, k) ∧ f a k = .error e := by
  match r, h with
  | .ok (a, k), h => exact Or.inr ⟨a, k, rfl, h⟩
  | .error e', h => exact Or.inl (by injection h with h; rw [h])
/-- These bytes stand at that place. -/
def Occ (B : List UInt8) (k : Nat) (w : List UInt8) : Prop := ∃ A C, B = A ++ (w ++ C) ∧ A.length = k
theorem Occ.le {B : List UInt8} {k : Nat} {w : List UInt8} (h : Occ B k w) : k + w.length ≤ B.length := by
  obtain ⟨A, C, rfl, rfl⟩ := h
  simp only [List.length_append]
  omega
theorem occ_app {B : List UInt8} {k : Nat} {u v : List UInt8} : Occ B k (u ++ v) ↔ Occ B k u ∧ Occ B (k + u.length) v := by
  constructor
  · rintro ⟨A, C, rfl, rfl⟩
    exact ⟨⟨A, v ++ C, by simp, rfl⟩, ⟨A ++ u, C, by simp, by simp⟩⟩
  · rintro ⟨⟨A, C, h1, h2⟩, ⟨A', C', h3, h4⟩⟩
    have e : A ++ (u ++ C) = A' ++ (v ++ C') := h1.symm.trans h3
    have e2 : A ++ u = A' ∧ C = v ++ C' := by
      rw [← List.append_assoc] at e
      exact List.append_inj e (by simp; omega)
    exact ⟨A, C', by rw [h1, e2.2]; simp, h2⟩
theorem occ_nil {B : List UInt8} {k : Nat} (h : k ≤ B.length) : Occ B k [] := ⟨B.take k, B.drop k, by simp, by simp; omega⟩
theorem occ_full {B : List UInt8} : Occ B 0 B := ⟨[], [], by simp, rfl⟩
theorem occ_get {B : List UInt8} {k : Nat} {w : List UInt8} (h : Occ B k w) {j : Nat} (hj : j < w.length) : B.getD (k + j) 0 = w.getD j 0 := by
  obtain ⟨A, C, rfl, rfl⟩ := h
  rw [List.getD_eq_getElem?_getD, List.getD_eq_getElem?_getD, List.getElem?_append_right (by omega), show A.length + j - A.length = j by omega, List.getElem?_append_left hj]
theorem occ_one {B : List UInt8} {k : Nat} (h : k < B.length) : Occ B k [B.getD k 0] := by
  refine ⟨B.take k, B.drop (k + 1), ?_, by simp; omega⟩
  have : B.getD k 0 = B[k] := by rw [List.getD_eq_getElem?_getD, List.getElem?_eq_getElem h]; rfl
  rw [this, List.singleton_append, ← List.drop_eq_getElem_cons h, List.take_append_drop]
theorem occ_take {B : List UInt8} {k n : Nat} (h : k + n ≤ B.length) : Occ B k ((B.drop k).take n) := by
  refine ⟨B.take k, B.drop (k + n), ?_, by simp; omega⟩
  rw [show B.drop (k + n) = (B.drop k).drop n by rw [List.drop_drop], List.take_append_drop, List.take_append_drop]
theorem occ_eq {B : List UInt8} {k : Nat} {w : List UInt8} (h : Occ B k w) : (B.drop k).take w.length = w := by
  obtain ⟨A, C, rfl, rfl⟩ := h
  simp
/-- What is written and read back: W writes, P reads, D: what may be written. -/
structure Cod (α : Type) where
  W : α → List UInt8
  P : List UInt8 → Nat → DR α
  D : α → Prop
  fwd : ∀ {B : List UInt8} {k : Nat} {x : α}, D x → Occ B k (W x) → P B k = .ok (x, k + (W x).length)
  bwd : ∀ {B : List UInt8} {k : Nat} {x : α} {k' : Nat}, k ≤ B.length → P B k = .ok (x, k') → D x ∧ Occ B k (W x) ∧ k' = k + (W x).length
  cut : ∀ {B : List UInt8} {k : Nat} {x : α} {n : Nat}, D x → n < (W x).length → Occ B k ((W x).take n) → B.length = k + n → P B k = .error (201, B.length)
  bad : ∀ {B : List UInt8} {k c a : Nat}, k ≤ B.length → P B k = .error (c, a) → 200 ≤ c ∧ c ≤ 206 ∧ a ≤ B.length
/-- One behind the other. -/
def Cod.seq {α β : Type} (C1 : Cod α) (C2 : α → Cod β) : Cod (α × β) where
  W x := C1.W x.1 ++ (C2 x.1).W x.2
  P B k := dbnd (C1.P B k) fun a k1 => dbnd ((C2 a).P B k1) fun b k2 => .ok ((a, b), k2)
  D x := C1.D x.1 ∧ (C2 x.1).D x.2
  fwd := by
    rintro B k ⟨a, b⟩ ⟨h1, h2⟩ ho
    obtain ⟨o1, o2⟩ := occ_app.1 ho
    rw [C1.fwd h1 o1, dbnd_ok, (C2 a).fwd h2 o2, dbnd_ok, List.length_append, Nat.add_assoc]
  bwd := by
    rintro B k ⟨a, b⟩ k' hk h
    obtain ⟨a1, k1, e1, h⟩ := dbnd_inv h
    obtain ⟨b1, k2, e2, h⟩ := dbnd_inv h
    injection h with h
    injection h with h1 h2
    injection h1 with ha hb
    subst ha hb h2
    obtain ⟨d1, o1, rfl⟩ := C1.bwd hk e1
    obtain ⟨d2, o2, rfl⟩ := (C2 a1).bwd o1.le e2
    exact ⟨⟨d1, d2⟩, occ_app.2 ⟨o1, o2⟩, by simp only [List.length_append]; omega⟩
  cut := by
    rintro B k ⟨a, b⟩ n ⟨h1, h2⟩ hn ho hB
    have hn : n < (C1.W a ++ (C2 a).W b).length := hn
    have ho : Occ B k ((C1.W a ++ (C2 a).W b).take n) := ho
    simp only [List.length_append] at hn
    by_cases hl : n < (C1.W a).length
    · have ho1 : Occ B k ((C1.W a).take n) := by
        rw [List.take_append_of_le_length (by omega)] at ho
        exact ho
      rw [C1.cut h1 hl ho1 hB, dbnd_bad]
    · obtain ⟨m, rfl⟩ : ∃ m, n = (C1.W a).length + m := ⟨n - (C1.W a).length, by omega⟩
      rw [List.take_length_add_append] at ho
      obtain ⟨o1, o2⟩ := occ_app.1 ho
      have hm : m < ((C2 a).W b).length := by omega
      have hB2 : B.length = k + (C1.W a).length + m := by omega
      have h2' : (C2 a).D b := h2
      rw [C1.fwd h1 o1, dbnd_ok, (C2 a).cut h2' hm o2 hB2, dbnd_bad]
  bad := by
    intro B k c x hk h
    rcases dbnd_err h with h | ⟨a, k1, e1, h⟩
    · exact C1.bad hk h
    · obtain ⟨d1, o1, rfl⟩ := C1.bwd hk e1
      rcases dbnd_err h with h | ⟨b, k2, e2, h⟩
      · exact (C2 a).bad o1.le h
      · cases h
/-- The same bytes, read as another thing. -/
def Cod.map {α β : Type} (C : Cod α) (f : α → β) (g : β → α) (hgf : ∀ a, C.D a → g (f a) = a) : Cod β where
  W b := C.W (g b)
  P B k := dbnd (C.P B k) fun a k1 => .ok (f a, k1)
  D b := C.D (g b) ∧ f (g b) = b
  fwd := by
    rintro B k b ⟨h1, h2⟩ ho
    rw [C.fwd h1 ho, dbnd_ok, h2]
  bwd := by
    intro B k b k' hk h
    obtain ⟨a, k1, e1, h⟩ := dbnd_inv h
    injection h with h
    injection h with h1 h2
    subst h1 h2
    obtain ⟨d, o, e⟩ := C.bwd hk e1
    rw [hgf a d]
    exact ⟨⟨d, rfl⟩, o, e⟩
  cut := by
    rintro B k b n ⟨h1, _⟩ hn ho hB
    rw [C.cut h1 hn ho hB, dbnd_bad]
  bad := by
    intro B k c x hk h
    rcases dbnd_err h with h | ⟨a, k1, e1, h⟩
    · exact C.bad hk h
    · cases h
/-- Nothing at all. -/
def Cod.none {α : Type} (x : α) : Cod α where
  W _ := []
  P B k := .ok (x, k)
  D y := y = x
  fwd := by
    rintro B k y rfl _
    rfl
  bwd := by
    intro B k y k' hk h
    injection h with h
    injection h with h1 h2
    exact ⟨h1.symm, occ_nil hk, h2.symm⟩
  cut := by
    intro B k y n _ hn
    exact absurd hn (Nat.not_lt_zero n)
  bad := by
    intro B k c a _ h
    cases h
/-- So many bytes as they are. -/
def Cod.raw (n : Nat) : Cod (List UInt8) where
  W l := l
  P B k := if B.length - k < n then .error (201, B.length) else .ok ((B.drop k).take n, k + n)
  D l := l.length = n
  fwd := by
    rintro B k l rfl ho
    have := ho.le
    rw [if_neg (by omega), occ_eq ho]
  bwd := by
    intro B k l k' hk h
    split at h
    · cases h
    · rename_i hn
      injection h with h
      injection h with h1 h2
      subst h1 h2
      have hl : ((B.drop k).take n).length = n := by simp; omega
      exact ⟨hl, occ_take (by omega), by rw [hl]⟩
  cut := by
    rintro B k l n' rfl hn ho hB
    rw [if_pos (by omega)]
  bad := by
    intro B k c a hk h
    split at h
    · injection h with h
      injection h with h1 h2
      subst h1 h2
      omega
    · cases h
/-- A byte that may stand there. -/
def Cod.byte (lo hi code : Nat) (h1 : 200 ≤ code) (h2 : code ≤ 206) : Cod UInt8 where
  W c := [c]
  P B k := if k < B.length then (if (B.getD k 0).toNat < lo ∨ hi < (B.getD k 0).toNat then .error (code, k) else .ok (B.getD k 0, k + 1)) else .error (201, k)
  D c := lo ≤ c.toNat ∧ c.toNat ≤ hi
  fwd := by
    intro B k c hd ho
    have hl := ho.le
    have hg := occ_get ho (j := 0) (by simp)
    simp only [List.length_singleton] at hl
    have hg : B.getD k 0 = c := hg
    rw [if_pos (by omega), hg, if_neg (by omega)]
    rfl
  bwd := by
    intro B k c k' hk h
    split at h
    · rename_i hl
      split at h
      · cases h
      · rename_i hn
        injection h with h
        injection h with e1 e2
        subst e1 e2
        exact ⟨by omega, occ_one hl, rfl⟩
    · cases h
  cut := by
    intro B k c n hd hn ho hB
    simp only [List.length_singleton] at hn
    rw [if_neg (by omega)]
    have : k = B.length := by omega
    rw [this]
  bad := by
    intro B k c a hk h
    split at h
    · split at h
      · injection h with h
        injection h with e1 e2
        subst e1 e2
        exact ⟨h1, h2, hk⟩
      · cases h
    · injection h with h
      injection h with e1 e2
      subst e1 e2
      omega
/-- What is read must not be barred by what stands ahead of it. -/
def Cod.chk {α : Type} (C : Cod α) (ok : α → Bool) : Cod α where
  W := C.W
  P B k := dbnd (C.P B k) fun x k1 => if ok x = true then .ok (x, k1) else .error (204, k)
  D x := C.D x ∧ ok x = true
  fwd := by
    rintro B k x ⟨h1, h2⟩ ho
    rw [C.fwd h1 ho, dbnd_ok, if_pos h2]
  bwd := by
    intro B k x k' hk h
    obtain ⟨a, k1, e1, h⟩ := dbnd_inv h
    split at h
    · rename_i ho
      injection h with h
      injection h with h1 h2
      subst h1 h2
      obtain ⟨d, o, e⟩ := C.bwd hk e1
      exact ⟨⟨d, ho⟩, o, e⟩
    · cases h
  cut := by
    rintro B k x n ⟨h1, _⟩ hn ho hB
    rw [C.cut h1 hn ho hB, dbnd_bad]
  bad := by
    intro B k c x hk h
    rcases dbnd_err h with h | ⟨a, k1, e1, h⟩
    · exact C.bad hk h
    · split at h
      · cases h
      · injection h with h
        injection h with e1 e2
        subst e1 e2
        omega
/-- Behind the one ahead. -/
def okB {α : Type} (lt : α → α → Bool) (p : Option α) (x : α) : Bool :=
  match p with
  | .none => true
  | .some q => lt q x
/-- So many of them, each greater than the one ahead of it. -/
def Cod.ris {α : Type} [Inhabited α] (C : Cod α) (lt : α → α → Bool) : Nat → Option α → Cod (List α)
  | 0, _ => Cod.none []
  | n + 1, p => ((C.chk (okB lt p)).seq fun x => C.ris lt n (some x)).map (fun x => x.1 :: x.2) (fun l => (l.headD default, l.tail)) (by rintro ⟨x, l⟩ _; rfl)
/-- Rising from the one ahead. -/
def risB {α : Type} (lt : α → α → Bool) : Option α → List α → Bool
  | _, [] => true
  | p, x :: r => okB lt p x && risB lt (some x) r
theorem ris_W {α : Type} [Inhabited α] (C : Cod α) (lt : α → α → Bool) : ∀ (n : Nat) (p : Option α) (l : List α), l.length = n → (C.ris lt n p).W l = l.flatMap C.W
  | 0, p, l, h => by
    rw [List.eq_nil_of_length_eq_zero h]
    rfl
  | n + 1, p, [], h => by cases h
  | n + 1, p, x :: r, h => by
    show C.W x ++ (C.ris lt n (some x)).W r = _
    rw [ris_W C lt n (some x) r (by simpa using h), List.flatMap_cons]
theorem ris_D {α : Type} [Inhabited α] (C : Cod α) (lt : α → α → Bool) : ∀ (n : Nat) (p : Option α) (l : List α), (C.ris lt n p).D l ↔ l.length = n ∧ (∀ x, x ∈ l → C.D x) ∧ risB lt p l = true
  | 0, p, l => by
    show l = [] ↔ _
    constructor
    · rintro rfl
      exact ⟨rfl, (fun x h => by cases h), rfl⟩
    · rintro ⟨h, _⟩
      exact List.eq_nil_of_length_eq_zero h
  | n + 1, p, [] => by
    constructor
    · rintro ⟨_, h⟩
      cases h
    · rintro ⟨h, _⟩
      cases h
  | n + 1, p, x :: r => by
    have ih := ris_D C lt n (some x) r
    show (((C.D x ∧ okB lt p x = true) ∧ (C.ris lt n (some x)).D r) ∧ _) ↔ _
    rw [ih]
    constructor
    · rintro ⟨⟨⟨h1, h2⟩, h3, h4, h5⟩, _⟩
      refine ⟨by simp [h3], fun y hy => ?_, by simp [risB, h2, h5]⟩
      rcases List.mem_cons.1 hy with rfl | hy
      · exact h1
      · exact h4 y hy
    · rintro ⟨h1, h2, h3⟩
      simp only [risB, Bool.and_eq_true] at h3
      exact ⟨⟨⟨h2 x (by simp), h3.1⟩, by simpa using h1, fun y hy => h2 y (by simp [hy]), h3.2⟩, rfl⟩
/-- The bytes of a count. -/
def cnt (n : Nat) : List UInt8 := if 127 < n then UInt8.ofNat (n % 128 + 128) :: cnt (n / 128) else [UInt8.ofNat n]
termination_by n
decreasing_by omega
/-- A count, so many of its bytes left, from this one on. -/
def cntD (B : List UInt8) (f lo hi : Nat) : Nat → Nat → Nat → Nat → DR Nat
  | 0, _, _, _ => .error (202, f)
  | m + 1, j, k, n =>
    if k < B.length then
      (if 127 < (B.getD k 0).toNat then cntD B f lo hi m (j + 1) (k + 1) (n + ((B.getD k 0).toNat - 128) * 128 ^ j)
       else if (B.getD k 0).toNat = 0 ∧ 0 < j then .error (202, f)
       else if n + (B.getD k 0).toNat * 128 ^ j < lo ∨ hi < n + (B.getD k 0).toNat * 128 ^ j then .error (205, f)
       else .ok (n + (B.getD k 0).toNat * 128 ^ j, k + 1))
    else .error (201, k)
theorem u8_nat {n : Nat} (h : n < 256) : (UInt8.ofNat n).toNat = n := by
  rw [UInt8.toNat_ofNat']
  omega
theorem cnt_pos (n : Nat) : 0 < (cnt n).length := by
  rw [cnt]
  split <;> simp
theorem cnt_fwd {B : List UInt8} {f lo hi : Nat} : ∀ (m j k n v : Nat), v < 128 ^ m → (0 < j → 0 < v) → 0 < m → Occ B k (cnt v) → lo ≤ n + v * 128 ^ j → n + v * 128 ^ j ≤ hi → cntD B f lo hi m j k n = .ok (n + v * 128 ^ j, k + (cnt v).length)
  | 0, j, k, n, v, _, _, h, _, _, _ => absurd h (Nat.lt_irrefl 0)
  | m + 1, j, k, n, v, hv, hj, _, ho, h1, h2 => by
    have hl := ho.le
    have hp := cnt_pos v
    have hg := occ_get ho (j := 0) hp
    rw [Nat.add_zero] at hg
    unfold cntD
    rw [if_pos (by omega), hg]
    by_cases hb : 127 < v
    · have ec : cnt v = UInt8.ofNat (v % 128 + 128) :: cnt (v / 128) := by rw [cnt, if_pos hb]
      rw [ec] at ho ⊢
      have e0 : (UInt8.ofNat (v % 128 + 128) :: cnt (v / 128)).getD 0 0 = UInt8.ofNat (v % 128 + 128) := rfl
      rw [e0, u8_nat (by omega), if_pos (by omega)]
      have hm : 0 < m := by
        rcases Nat.eq_zero_or_pos m with rfl | h
        · rw [Nat.zero_add, Nat.pow_one] at hv; omega
        · exact h
      have hv2 : v / 128 < 128 ^ m := by
        rw [Nat.pow_succ] at hv
        exact Nat.div_lt_of_lt_mul (by rw [Nat.mul_comm]; exact hv)
      have ho2 : Occ B (k + 1) (cnt (v / 128)) := (occ_app (u := [UInt8.ofNat (v % 128 + 128)])).1 ho |>.2
      have he : n + (v % 128 + 128 - 128) * 128 ^ j + v / 128 * 128 ^ (j + 1) = n + v * 128 ^ j := by
        rw [Nat.pow_succ, Nat.add_sub_cancel, Nat.add_assoc, show v / 128 * (128 ^ j * 128) = (v / 128 * 128) * 128 ^ j by rw [Nat.mul_assoc, Nat.mul_comm 128], ← Nat.add_mul]
        congr 2
        omega
      rw [cnt_fwd m (j + 1) (k + 1) _ (v / 128) hv2 (fun _ => by omega) hm ho2 (by rw [he]; exact h1) (by rw [he]; exact h2), he, List.length_cons]
      congr 2
      omega
    · have ec : cnt v = [UInt8.ofNat v] := by rw [cnt, if_neg hb]
      rw [ec]
      have e0 : ([UInt8.ofNat v]).getD 0 0 = UInt8.ofNat v := rfl
      rw [e0, u8_nat (by omega), if_neg hb, if_neg (by omega), if_neg (by omega)]
      rfl
theorem cnt_cut {B : List UInt8} {f lo hi : Nat} : ∀ (m j k n v q : Nat), v < 128 ^ m → 0 < m → q < (cnt v).length → Occ B k ((cnt v).take q) → B.length = k + q → cntD B f lo hi m j k n = .error (201, B.length)
  | 0, j, k, n, v, q, _, h, _, _, _ => absurd h (Nat.lt_irrefl 0)
  | m + 1, j, k, n, v, q, hv, _, hq, ho, hB => by
    unfold cntD
    cases q with
    | zero =>
      rw [if_neg (by omega)]
      have : k = B.length := by omega
      rw [this]
    | succ q =>
      rw [if_pos (by omega)]
      by_cases hb : 127 < v
      · have ec : cnt v = UInt8.ofNat (v % 128 + 128) :: cnt (v / 128) := by rw [cnt, if_pos hb]
        rw [ec] at ho hq
        rw [List.take_succ_cons] at ho
        have hg := occ_get ho (j := 0) (by simp)
        rw [Nat.add_zero] at hg
        have e0 : (UInt8.ofNat (v % 128 + 128) :: (cnt (v / 128)).take q).getD 0 0 = UInt8.ofNat (v % 128 + 128) := rfl
        rw [hg, e0, u8_nat (by omega), if_pos (by omega)]
        have hm : 0 < m := by
          rcases Nat.eq_zero_or_pos m with rfl | h
          · rw [Nat.zero_add, Nat.pow_one] at hv; omega
          · exact h
        have hv2 : v / 128 < 128 ^ m := by
          rw [Nat.pow_succ] at hv
          exact Nat.div_lt_of_lt_mul (by rw [Nat.mul_comm]; exact hv)
        have ho2 : Occ B (k + 1) ((cnt (v / 128)).take q) := (occ_app (u := [UInt8.ofNat (v % 128 + 128)])).1 ho |>.2
        exact cnt_cut m (j + 1) (k + 1) _ (v / 128) q hv2 hm (by simpa using hq) ho2 (by omega)
      · have ec : cnt v = [UInt8.ofNat v] := by rw [cnt, if_neg hb]
        rw [ec] at hq
        simp at hq
theorem cnt_bwd {B : List UInt8} {f lo hi : Nat} : ∀ (m j k n v k' : Nat), cntD B f lo hi m j k n = .ok (v, k') → ∃ u, v = n + u * 128 ^ j ∧ u < 128 ^ m ∧ (0 < j → 0 < u) ∧ lo ≤ v ∧ v ≤ hi ∧ Occ B k (cnt u) ∧ k' = k + (cnt u).length
  | 0, j, k, n, v, k', h => by cases h
  | m + 1, j, k, n, v, k', h => by
    unfold cntD at h
    split at h
    · rename_i hl
      split at h
      · rename_i hb
        obtain ⟨u, h1, h2, h3, h4, h5, h6, h7⟩ := cnt_bwd m (j + 1) (k + 1) _ v k' h
        have hlt := (B.getD k 0).toNat_lt
        obtain ⟨g, hg⟩ : ∃ g, g = (B.getD k 0).toNat - 128 := ⟨_, rfl⟩
        have hgl : g < 128 := by omega
        have hu := h3 (by omega)
        have hd : (u * 128 + g) / 128 = u := by omega
        have hm : (u * 128 + g) % 128 = g := by omega
        have ec : cnt (u * 128 + g) = UInt8.ofNat (g + 128) :: cnt u := by rw [cnt, if_pos (by omega), hd, hm]
        refine ⟨u * 128 + g, ?_, ?_, fun _ => by omega, h4, h5, ?_, ?_⟩
        · rw [h1, ← hg, Nat.pow_succ, Nat.add_mul, show u * (128 ^ j * 128) = u * 128 * 128 ^ j by rw [Nat.mul_assoc, Nat.mul_comm 128]]
          omega
        · rw [Nat.pow_succ]
          omega
        · rw [ec]
          refine (occ_app (u := [UInt8.ofNat (g + 128)])).2 ⟨?_, h6⟩
          have := occ_one hl
          have e : B.getD k 0 = UInt8.ofNat (g + 128) := by
            rw [show g + 128 = (B.getD k 0).toNat by omega]
            exact UInt8.ofNat_toNat.symm
          rwa [e] at this
        · rw [ec, List.length_cons]
          omega
      · rename_i hb
        split at h
        · cases h
        · rename_i hz
          split at h
          · cases h
          · rename_i hr
            injection h with h
            injection h with e1 e2
            subst e1 e2
            have ec : cnt (B.getD k 0).toNat = [B.getD k 0] := by rw [cnt, if_neg hb, UInt8.ofNat_toNat]
            refine ⟨(B.getD k 0).toNat, rfl, ?_, fun hj => by omega, by omega, by omega, by rw [ec]; exact occ_one hl, by rw [ec]; rfl⟩
            have := Nat.one_le_pow m 128 (by omega)
            rw [Nat.pow_succ]
            omega
    · cases h
theorem cnt_bad {B : List UInt8} {f lo hi : Nat} (hf : f ≤ B.length) : ∀ (m j k n c a : Nat), k ≤ B.length → cntD B f lo hi m j k n = .error (c, a) → 200 ≤ c ∧ c ≤ 206 ∧ a ≤ B.length
  | 0, j, k, n, c, a, _, h => by
    injection h with h
    injection h with e1 e2
    subst e1 e2
    omega
  | m + 1, j, k, n, c, a, hk, h => by
    unfold cntD at h
    split at h
    · split at h
      · exact cnt_bad hf m (j + 1) (k + 1) _ c a (by omega) h
      · split at h
        · injection h with h
          injection h with e1 e2
          subst e1 e2
          omega
        · split at h
          · injection h with h
            injection h with e1 e2
            subst e1 e2
            omega
          · cases h
    · injection h with h
      injection h with e1 e2
      subst e1 e2
      omega
/-- A count within its bounds. -/
def Cod.cnt (lo hi : Nat) (hhi : hi < 128 ^ 9) : Cod Nat where
  W n := L.cnt n
  P B k := cntD B k lo hi 9 0 k 0
  D n := lo ≤ n ∧ n ≤ hi
  fwd := by
    intro B k n hd ho
    have := cnt_fwd (B := B) (f := k) (lo := lo) (hi := hi) 9 0 k 0 n (by omega) (fun h => absurd h (Nat.lt_irrefl 0)) (by omega) ho (by omega) (by omega)
    rw [this]
    simp
  bwd := by
    intro B k n k' hk h
    obtain ⟨u, h1, _, _, h4, h5, h6, h7⟩ := cnt_bwd 9 0 k 0 n k' h
    have : n = u := by rw [h1]; simp
    subst this
    exact ⟨⟨h4, h5⟩, h6, h7⟩
  cut := by
    intro B k n q hd hn ho hB
    exact cnt_cut 9 0 k 0 n q (by omega) (by omega) hn ho hB
  bad := by
    intro B k c a hk h
    exact cnt_bad hk 9 0 k 0 c a hk h
/-- So many elements, then each. -/
def Cod.lst {α : Type} [Inhabited α] (C : Cod α) (lt : α → α → Bool) (lo hi : Nat) (hhi : hi < 128 ^ 9) : Cod (List α) :=
  ((Cod.cnt lo hi hhi).seq fun n => C.ris lt n .none).map (fun x => x.2) (fun l => (l.length, l)) (by
    rintro ⟨n, l⟩ ⟨_, h⟩
    rw [ris_D] at h
    rw [h.1])
theorem lst_W {α : Type} [Inhabited α] (C : Cod α) (lt : α → α → Bool) (lo hi : Nat) (hhi : hi < 128 ^ 9) (l : List α) : (C.lst lt lo hi hhi).W l = L.cnt l.length ++ l.flatMap C.W := by
  show L.cnt l.length ++ (C.ris lt l.length .none).W l = _
  rw [ris_W C lt _ _ l rfl]
theorem lst_D {α : Type} [Inhabited α] (C : Cod α) (lt : α → α → Bool) (lo hi : Nat) (hhi : hi < 128 ^ 9) (l : List α) : (C.lst lt lo hi hhi).D l ↔ lo ≤ l.length ∧ l.length ≤ hi ∧ (∀ x, x ∈ l → C.D x) ∧ risB lt .none l = true := by
  show ((_ ∧ (C.ris lt l.length .none).D l) ∧ _) ↔ _
  rw [ris_D]
  constructor
  · rintro ⟨⟨⟨h1, h2⟩, _, h3, h4⟩, _⟩
    exact ⟨h1, h2, h3, h4⟩
  · rintro ⟨h1, h2, h3, h4⟩
    exact ⟨⟨⟨h1, h2⟩, rfl, h3, h4⟩, rfl⟩
end Go.Proofs.Ytnclpdgbjefpmaa.L
