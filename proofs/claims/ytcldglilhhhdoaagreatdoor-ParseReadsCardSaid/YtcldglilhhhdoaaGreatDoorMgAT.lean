import Derived.Test.YtcldglilhhhdoaaGreatDoorMgAS
namespace Go.Proofs.YtcldglilhhhdoaaGreatDoor.L
open Go.RowKit
set_option linter.unusedVariables false
set_option linter.unusedSimpArgs false
/-- The same tokens, at other places. -/
structure Sk (T T' : List Tok) : Prop where
  kind : ∀ i, (tk T' i).kind = (tk T i).kind
  text : ∀ i, (tk T' i).text = (tk T i).text
  num : ∀ i, (tk T' i).num = (tk T i).num
  fin : ∀ k, k < T.length → (tk T k).kind ≠ 0 → k + 1 < T.length
/-- The offsets of the same tokens. -/
def Os (T T' : List Tok) (l l' : List Int) : Prop := ∃ is : List Nat, (∀ i, i ∈ is → i < T.length) ∧ l = is.map (fun i => ((tk T i).a : Int)) ∧ l' = is.map (fun i => ((tk T' i).a : Int))
structure Rl (T T' : List Tok) (s s' : PS) : Prop where
  nx : s'.nx = s.nx
  ns : s'.ns = s.ns
  ps : s'.ps = s.ps
  os : Os T T' s.os s'.os
  lt : s.nx < T.length
/-- What is read of the one is read of the other. -/
def Rr {α : Type} (T T' : List Tok) : PRes α → PRes α → Prop
  | .ok (a, s), .ok (a', s') => a' = a ∧ Rl T T' s s'
  | .error (c, x), .error (c', x') => c' = c ∧ ((c = 0 ∧ x = 0 ∧ x' = 0) ∨ ∃ i, i < T.length ∧ x = ((tk T i).a : Int) ∧ x' = ((tk T' i).a : Int))
  | _, _ => False
theorem rr_bnd {α β : Type} {T T' : List Tok} {p p' : PRes α} {f f' : α → PS → PRes β} (hp : Rr T T' p p') (hf : ∀ a s s', p = .ok (a, s) → Rl T T' s s' → Rr T T' (f a s) (f' a s')) : Rr T T' (bnd p f) (bnd p' f') := by
  match p, p', hp with
  | .ok (a, s), .ok (a', s'), h =>
    obtain ⟨rfl, h2⟩ := h
    exact hf _ s s' rfl h2
  | .error (c, x), .error (c', x'), h => exact h
theorem rr_ok {α : Type} {T T' : List Tok} (a : α) {s s' : PS} (h : Rl T T' s s') : Rr T T' (.ok (a, s)) (.ok (a, s')) := ⟨rfl, h⟩
theorem rl_adv {T T' : List Tok} (K : Sk T T') {s s' : PS} (h : Rl T T' s s') (hk : (tk T s.nx).kind ≠ 0) : Rl T T' (adv s) (adv s') := ⟨by simp only [adv]; rw [h.nx], h.ns, h.ps, h.os, K.fin _ h.lt hk⟩
theorem rr_ref {T T' : List Tok} (K : Sk T T') {α : Type} {s s' : PS} (h : Rl T T' s s') : Rr T T' (.error (rfE T s) : PRes α) (.error (rfE T' s')) := by
  unfold rfE
  rw [h.nx, K.kind]
  exact ⟨rfl, Or.inr ⟨s.nx, h.lt, rfl, rfl⟩⟩
theorem rr_err {T T' : List Tok} {α : Type} {s s' : PS} (h : Rl T T' s s') (c : Nat) : Rr T T' (.error (c, ((tk T s.nx).a : Int)) : PRes α) (.error (c, ((tk T' s'.nx).a : Int))) := by
  rw [h.nx]
  exact ⟨rfl, Or.inr ⟨s.nx, h.lt, rfl, rfl⟩⟩
theorem rl_isM {T T' : List Tok} (K : Sk T T') {s s' : PS} (h : Rl T T' s s') (m : List UInt8) : isM T' s' m = isM T s m := by
  unfold isM
  rw [h.nx, K.kind, K.text]
theorem rr_put {T T' : List Tok} {s s' : PS} (h : Rl T T' s s') (p : Pt) (i : Nat) (hi : i < T.length) : Rr T T' (putP s p ((tk T i).a : Int)) (putP s' p ((tk T' i).a : Int)) := by
  obtain ⟨is, h1, h2, h3⟩ := h.os
  refine ⟨by rw [h.ps], ⟨h.nx, h.ns, by simp only [h.ps], ⟨is ++ [i], ?_, ?_, ?_⟩, h.lt⟩⟩
  · intro j hj
    rcases List.mem_append.1 hj with hj | hj
    · exact h1 j hj
    · rw [List.mem_singleton.1 hj]; exact hi
  · simp [h2]
  · simp [h3]
theorem rr_mark {T T' : List Tok} (K : Sk T T') {s s' : PS} (h : Rl T T' s s') (m : List UInt8) : Rr T T' (markP T s m) (markP T' s' m) := by
  unfold markP
  rw [rl_isM K h m]
  cases hm : isM T s m
  · exact rr_ref K h
  · exact rr_ok () (rl_adv K h (isM_kind hm))
theorem rr_text {T T' : List Tok} (K : Sk T T') {s s' : PS} (h : Rl T T' s s') : Rr T T' (textP T s) (textP T' s') := by
  unfold textP
  rw [h.nx, K.kind, K.text]
  by_cases hk : (tk T s.nx).kind = 1
  · rw [if_pos hk, if_pos hk]; exact rr_ok _ (rl_adv K h (by rw [hk]; decide))
  · rw [if_neg hk, if_neg hk]; exact rr_ref K h
theorem rr_open {T T' : List Tok} (K : Sk T T') {s s' : PS} (h : Rl T T' s s') (m : List UInt8) : Rr T T' (openP T s m) (openP T' s' m) := by
  unfold openP
  rw [rl_isM K h m, h.ns]
  cases hm : isM T s m
  · exact rr_ref K h
  · by_cases hn : s.ns = 32
    · rw [if_pos rfl, if_pos rfl, if_pos hn, if_pos hn]; exact rr_err h 122
    · rw [if_pos rfl, if_pos rfl, if_neg hn, if_neg hn]
      have h2 := rl_adv K h (isM_kind hm)
      exact rr_ok () ⟨h2.nx, rfl, h2.ps, h2.os, h2.lt⟩
theorem rr_el {T T' : List Tok} (K : Sk T T') {s s' : PS} (h : Rl T T' s s') (he : isEl (tk T s.nx) = true) : Rr T T' (elP T s) (elP T' s') := by
  have h2 := rl_adv K h (isel_kind he)
  unfold elP
  rw [h.nx, K.kind, K.text, K.num]
  by_cases hk : (tk T s.nx).kind = 1
  · rw [if_pos hk, if_pos hk]; exact rr_put h2 _ _ h.lt
  · rw [if_neg hk, if_neg hk]; exact rr_put h2 _ _ h.lt
theorem el_eq {T T' : List Tok} (K : Sk T T') (i : Nat) : isEl (tk T' i) = isEl (tk T i) := by unfold isEl; rw [K.kind]
theorem rr_mem {T T' : List Tok} (K : Sk T T') {s s' : PS} (h : Rl T T' s s') (n : Nat) : Rr T T' (memP T s n) (memP T' s' n) := by
  unfold memP
  rw [h.nx, el_eq K]
  cases he : isEl (tk T s.nx)
  · exact rr_ref K h
  · rw [if_pos rfl, if_pos rfl]
    by_cases hn : n = 64
    · rw [if_pos hn, if_pos hn]
      have := rr_err (α := Int) h 124
      rw [h.nx] at this
      exact this
    · rw [if_neg hn, if_neg hn]; exact rr_el K h he
theorem rr_mems {T T' : List Tok} (K : Sk T T') : ∀ (n : Nat) (ks : List Int) {s s' : PS}, Rl T T' s s' → Rr T T' (memsP T n ks s) (memsP T' n ks s')
  | 0, ks, s, s', h => rr_ok ks h
  | n + 1, ks, s, s', h => by
    unfold memsP
    rw [rl_isM K h]
    cases hm : isM T s [44]
    · exact rr_ok ks h
    · exact rr_bnd (rr_mem K (rl_adv K h (isM_kind hm)) _) fun k s1 s1' _ h1 => rr_mems K n (ks ++ [k]) h1
theorem rr_set {T T' : List Tok} (K : Sk T T') {s s' : PS} (h : Rl T T' s s') : Rr T T' (setP T s) (setP T' s') := by
  unfold setP
  rw [h.nx]
  refine rr_bnd (rr_mark K h _) fun _ s1 s1' _ h1 => rr_bnd ?_ fun ks s2 s2' _ h2 => rr_bnd (rr_mems K _ ks h2) fun ks s3 s3' _ h3 => rr_bnd (rr_mark K h3 _) fun _ s4 s4' _ h4 => rr_put h4 _ _ h.lt
  rw [rl_isM K h1]
  cases hm : isM T s1 [125]
  · exact rr_bnd (rr_mem K h1 0) fun k s2 s2' _ h2 => rr_ok [k] h2
  · exact rr_ok [] h1
theorem rr_named {T T' : List Tok} (K : Sk T T') {s s' : PS} (h : Rl T T' s s') : Rr T T' (namedP T s) (namedP T' s') :=
  rr_bnd (rr_mark K h _) fun _ s1 s1' _ h1 => rr_bnd (rr_text K h1) fun t s2 s2' _ h2 => rr_bnd (rr_mark K h2 _) fun _ s3 s3' _ h3 => rr_ok t h3
theorem field_eq {T T' : List Tok} (K : Sk T T') (i : Nat) : fieldO (tk T' i) = fieldO (tk T i) := by unfold fieldO; rw [K.kind, K.text]
theorem rr_field {T T' : List Tok} (K : Sk T T') {s s' : PS} (h : Rl T T' s s') : Rr T T' (fieldP T s) (fieldP T' s') := by
  unfold fieldP
  rw [h.nx, field_eq K]
  by_cases h0 : fieldO (tk T s.nx) = 0
  · rw [if_pos h0, if_pos h0]; exact rr_ref K h
  · rw [if_neg h0, if_neg h0]; exact rr_ok _ (rl_adv K h (field_kind h0))
theorem rr_who {T T' : List Tok} (K : Sk T T') {s s' : PS} (h : Rl T T' s s') (hk : (tk T s.nx).kind ≠ 0) (side : Int) : Rr T T' (whoP T s side) (whoP T' s' side) := by
  have ha := rl_adv K h hk
  unfold whoP
  rw [rl_isM K ha, h.nx]
  cases hm : isM T (adv s) [91]
  · exact rr_bnd (rr_mark K ha _) fun _ s1 s1' _ h1 => rr_bnd (rr_field K h1) fun k s2 s2' _ h2 => (by
      by_cases h18 : k = 18
      · rw [if_pos h18, if_pos h18]; exact rr_bnd (rr_named K h2) fun t s3 s3' _ h3 => rr_put h3 _ _ h.lt
      · rw [if_neg h18, if_neg h18]; exact rr_put h2 _ _ h.lt)
  · exact rr_bnd (rr_text K (rl_adv K ha (isM_kind hm))) fun t s1 s1' _ h1 => rr_bnd (rr_mark K h1 _) fun _ s2 s2' _ h2 => rr_put h2 _ _ h.lt
theorem rr_const {T T' : List Tok} (K : Sk T T') {s s' : PS} (h : Rl T T' s s') (hk : (tk T s.nx).kind ≠ 0) (k : Int) : Rr T T' (constP T s k) (constP T' s' k) := by
  unfold constP
  rw [h.nx]
  exact rr_put (rl_adv K h hk) _ _ h.lt
theorem rr_tol {T T' : List Tok} (K : Sk T T') {s s' : PS} (h : Rl T T' s s') (hk : (tk T s.nx).kind ≠ 0) : Rr T T' (tolP T s) (tolP T' s') := by
  unfold tolP
  rw [h.nx]
  exact rr_bnd (rr_named K (rl_adv K h hk)) fun t s1 s1' _ h1 => rr_put h1 _ _ h.lt
def Ro (T T' : List Tok) (one one' : PS → PRes Int) : Prop := ∀ s s', Rl T T' s s' → Rr T T' (one s) (one' s')
theorem rr_rows {T T' : List Tok} (K : Sk T T') {one one' : PS → PRes Int} (h1 : Ro T T' one one') (m : List UInt8) : ∀ (n : Nat) (ks : List Int) {s s' : PS}, Rl T T' s s' → Rr T T' (rowsP T one m n ks s) (rowsP T' one' m n ks s')
  | 0, ks, s, s', h => rr_ok ks h
  | n + 1, ks, s, s', h => by
    unfold rowsP
    rw [rl_isM K h]
    cases hm : isM T s m
    · exact rr_ok ks h
    · exact rr_bnd (h1 _ _ (rl_adv K h (isM_kind hm))) fun k s1 s1' _ h2 => rr_rows K h1 m n (ks ++ [k]) h2
theorem rr_row {T T' : List Tok} (K : Sk T T') {one one' : PS → PRes Int} (h1 : Ro T T' one one') (kd : Int) (m : List UInt8) : Ro T T' (rowP T one kd m) (rowP T' one' kd m) := by
  intro s s' h
  refine rr_bnd (h1 _ _ h) fun k0 s1 s1' _ h2 => rr_bnd (rr_rows K h1 m _ _ h2) fun ks s2 s2' _ h3 => ?_
  rw [h2.nx]
  by_cases hl : ks.length = 1
  · rw [if_pos hl, if_pos hl]; exact rr_ok k0 h3
  · rw [if_neg hl, if_neg hl]; exact rr_put h3 _ _ h2.lt
theorem rr_with {T T' : List Tok} (K : Sk T T') {α : Type} {inner inner' : PS → PRes α} {s s' : PS} (h : Rl T T' s s') (h1 : ∀ s s', Rl T T' s s' → Rr T T' (inner s) (inner' s')) : Rr T T' (withP T inner s) (withP T' inner' s') :=
  rr_bnd (rr_open K h _) fun _ s1 s1' _ h2 => rr_bnd (h1 _ _ h2) fun k s2 s2' _ h3 => rr_bnd (rr_mark K h3 _) fun _ s3 s3' _ h4 => rr_ok k ⟨h4.nx, by simp only [shutP]; rw [h4.ns], h4.ps, h4.os, h4.lt⟩
theorem rr_sel {T T' : List Tok} (K : Sk T T') {ex ex' : PS → PRes Int} (h1 : Ro T T' ex ex') {s s' : PS} (h : Rl T T' s s') (hk : (tk T s.nx).kind ≠ 0) (kd : Int) : Rr T T' (selP T ex kd s) (selP T' ex' kd s') := by
  unfold selP
  rw [h.nx]
  exact rr_bnd (rr_with K (rl_adv K h hk) fun s1 s1' h2 => rr_bnd (rr_text K h2) fun t s2 s2' _ h3 => rr_bnd (rr_mark K h3 _) fun _ s3 s3' _ h4 => rr_bnd (h1 _ _ h4) fun k s4 s4' _ h5 => rr_ok (t, k) h5) fun q s5 s5' _ h6 => rr_put h6 _ _ h.lt
theorem rr_neg {T T' : List Tok} (K : Sk T T') {un un' : PS → PRes Int} (h1 : Ro T T' un un') {s s' : PS} (h : Rl T T' s s') : Rr T T' (negP T un s) (negP T' un' s') := by
  unfold negP
  rw [h.nx]
  exact rr_bnd (rr_open K h _) fun _ s1 s1' _ h2 => rr_bnd (h1 _ _ h2) fun k s2 s2' _ h3 => rr_put (s := shutP s2) (s' := shutP s2') ⟨h3.nx, by simp only [shutP]; rw [h3.ns], h3.ps, h3.os, h3.lt⟩ _ _ h.lt
theorem bet_eq {T T' : List Tok} (K : Sk T T') (i : Nat) : betO (tk T' i) = betO (tk T i) := by unfold betO; rw [K.kind, K.text]
theorem bet_kind {t : Tok} {q : Int × Int} (h : betO t = some q) : t.kind ≠ 0 := by
  intro h0
  unfold betO at h
  rw [if_neg (by omega), if_neg (by omega)] at h
  cases h
theorem rr_comp {T T' : List Tok} (K : Sk T T') {te te' : PS → PRes Int} (h1 : Ro T T' te te') {s s' : PS} (h : Rl T T' s s') : Rr T T' (compP T te s) (compP T' te' s') := by
  refine rr_bnd (h1 _ _ h) fun l s1 s1' _ h2 => ?_
  rw [h2.nx, bet_eq K]
  cases hb : betO (tk T s1.nx) with
  | none => exact rr_ref K h2
  | some q => exact rr_bnd (h1 _ _ (rl_adv K h2 (bet_kind hb))) fun r s2 s2' _ h3 => rr_put h3 _ _ h2.lt
theorem rr_if {T T' : List Tok} {α : Type} {c : Prop} [Decidable c] {p q p' q' : PRes α} (hp : c → Rr T T' p p') (hq : ¬ c → Rr T T' q q') : Rr T T' (if c then p else q) (if c then p' else q') := by
  by_cases h : c
  · rw [if_pos h, if_pos h]; exact hp h
  · rw [if_neg h, if_neg h]; exact hq h
theorem rr_atom {T T' : List Tok} (K : Sk T T') {ex te ex' te' : PS → PRes Int} (h1 : Ro T T' ex ex') (h2 : Ro T T' te te') {s s' : PS} (h : Rl T T' s s') : Rr T T' (atomP T ex te s) (atomP T' ex' te' s') := by
  unfold atomP
  rw [h.nx, K.kind, K.text]
  refine rr_if (fun h3 => ?_) (fun _ => rr_comp K h2 h)
  have hk : (tk T s.nx).kind ≠ 0 := by rw [h3]; decide
  exact rr_if (fun _ => rr_const K h hk 1) (fun _ => rr_if (fun _ => rr_const K h hk 2) (fun _ => rr_if (fun _ => rr_sel K h1 h hk 8) (fun _ => rr_if (fun _ => rr_sel K h1 h hk 9) (fun _ => rr_if (fun _ => rr_tol K h hk) (fun _ => rr_comp K h2 h)))))
theorem rr_word {T T' : List Tok} (K : Sk T T') {ex te ex' te' : PS → PRes Int} (h1 : Ro T T' ex ex') (h2 : Ro T T' te te') {s s' : PS} (h : Rl T T' s s') (hk : (tk T s.nx).kind ≠ 0) : Rr T T' (wordP T ex te s) (wordP T' ex' te' s') := by
  unfold wordP
  rw [h.nx, K.text]
  exact rr_if (fun _ => rr_who K h hk 2) (fun _ => rr_if (fun _ => rr_who K h hk 1) (fun _ => rr_if (fun _ => rr_who K h hk 3) (fun _ => rr_if (fun _ => rr_bnd (rr_with K (rl_adv K h hk) h2) fun k s1 s1' _ h3 => rr_put h3 _ _ h.lt) (fun _ => rr_if (fun _ => rr_sel K h1 h hk 20) (fun _ => rr_ref K h)))))
theorem rr_gr {T T' : List Tok} (K : Sk T T') : ∀ (n : Nat) (g : Gr), Ro T T' (gr T n g) (gr T' n g)
  | 0, g => fun s s' h => ⟨rfl, Or.inl ⟨rfl, rfl, rfl⟩⟩
  | n + 1, .expr => rr_row K (rr_gr K n .conj) 5 _
  | n + 1, .conj => rr_row K (rr_gr K n .unit) 4 _
  | n + 1, .unit => fun s s' h => by
    show Rr T T' (unitP T (gr T n .expr) (gr T n .unit) (gr T n .term) s) (unitP T' (gr T' n .expr) (gr T' n .unit) (gr T' n .term) s')
    unfold unitP
    rw [rl_isM K h, rl_isM K h]
    exact rr_if (fun _ => rr_neg K (rr_gr K n .unit) h) (fun _ => rr_if (fun _ => rr_with K h (rr_gr K n .expr)) (fun _ => rr_atom K (rr_gr K n .expr) (rr_gr K n .term) h))
  | n + 1, .term => fun s s' h => by
    show Rr T T' (termP T (gr T n .expr) (gr T n .term) s) (termP T' (gr T' n .expr) (gr T' n .term) s')
    unfold termP
    rw [rl_isM K h, h.nx, el_eq K, K.kind]
    exact rr_if (fun he => rr_el K h he) (fun _ => rr_if (fun _ => rr_set K h) (fun _ => rr_if (fun h3 => rr_word K (rr_gr K n .expr) (rr_gr K n .term) h (by rw [h3]; decide)) (fun _ => rr_ref K h)))
theorem gn_whole_len {T : List Tok} {n : Nat} {k : Int} {s : PS} (e : gr T n .expr ⟨0, 0, [], []⟩ = .ok (k, s)) : s.os.length = s.ps.length := by
  have := (gn_gr n .expr _ _ _ e).os
  simpa using this
theorem rr_whole {T T' : List Tok} (K : Sk T T') (h0 : 0 < T.length) (n : Nat) : Rr T T' (wholeP T n) (wholeP T' n) := by
  refine rr_bnd (rr_gr K n .expr _ _ ⟨rfl, rfl, rfl, ⟨[], (fun i hi => absurd hi (List.not_mem_nil)), rfl, rfl⟩, h0⟩) fun k s s' e h => ?_
  rw [h.nx, K.kind, h.ps]
  refine rr_if (fun _ => rr_if (fun hl => ?_) (fun _ => rr_ok () ⟨h.nx, h.ns, h.ps, h.os, h.lt⟩)) (fun _ => rr_ref K h)
  obtain ⟨is, h1, h2, h3⟩ := h.os
  have hi : 1000 < is.length := by
    have h9 := gn_whole_len e
    rw [h2] at h9
    simp at h9
    omega
  refine ⟨rfl, Or.inr ⟨is[1000], h1 _ (List.getElem_mem hi), ?_, ?_⟩⟩
  · rw [h2]; simp [hi]
  · rw [h3]; simp [hi]
end Go.Proofs.YtcldglilhhhdoaaGreatDoor.L
namespace Go.Proofs.YtcldglilhhhdoaaGreatDoor.L
open Go.RowKit Go.Shelf
set_option linter.unusedVariables false
set_option linter.unusedSimpArgs false
/-- What may stand between two tokens. -/
structure Gp (G : ByteArray) : Prop where
  pos : 0 < G.size
  word : inwB (iv (bt G 0)) = false
  mark : ∀ a, mk2 a (bt G 0) = false
  skip : ∀ (U : ByteArray) (p : Nat), p + G.size ≤ U.size → (∀ j, j < G.size → bt U (p + j) = bt G j) → gapS U p = gapS U (p + G.size)
def gpn (n : Nat) : ByteArray := if n % 5 = 0 then ⟨#[32]⟩ else if n % 5 = 1 then ⟨#[10]⟩ else if n % 5 = 2 then ⟨#[32, 35, 32, 116, 114, 117, 101, 32, 41, 32, 125, 32, 34, 32, 38, 38, 32, 10]⟩ else if n % 5 = 3 then ⟨#[9, 13, 32]⟩ else ⟨#[35, 10]⟩
theorem gap_one {c : UInt8} (hc : blkB (iv c) = true) (U : ByteArray) (p : Nat) (hz : p < U.size) (hb : bt U p = c) : gapS U p = gapS U (p + 1) := gapS_blk U p hz (by rw [hb]; exact hc)
theorem gp_0 : Gp ⟨#[32]⟩ := ⟨by decide, by decide, fun a => by show mk2 a 32 = false; unfold mk2; simp, fun U p hz hb => gap_one (c := 32) (by decide) U p (by have : p + 1 ≤ U.size := hz; omega) (hb 0 (by decide))⟩
theorem gp_1 : Gp ⟨#[10]⟩ := ⟨by decide, by decide, fun a => by show mk2 a 10 = false; unfold mk2; simp, fun U p hz hb => gap_one (c := 10) (by decide) U p (by have : p + 1 ≤ U.size := hz; omega) (hb 0 (by decide))⟩
theorem gp_3 : Gp ⟨#[9, 13, 32]⟩ := ⟨by decide, by decide, fun a => by show mk2 a 9 = false; unfold mk2; simp, fun U p hz hb => by
  have hz : p + 3 ≤ U.size := hz
  rw [gap_one (c := 9) (by decide) U p (by omega) (hb 0 (by decide)), gap_one (c := 13) (by decide) U (p + 1) (by omega) (hb 1 (by decide)), gap_one (c := 32) (by decide) U (p + 1 + 1) (by omega) (hb 2 (by decide))]
  rfl⟩
theorem gp_4 : Gp ⟨#[35, 10]⟩ := ⟨by decide, by decide, fun a => by show mk2 a 35 = false; unfold mk2; simp, fun U p hz hb => by
  have hz : p + 2 ≤ U.size := hz
  have h0 : bt U p = 35 := hb 0 (by decide)
  have h1 : bt U (p + 1) = 10 := hb 1 (by decide)
  rw [gapS_rem U p (by omega) h0, nlAt_go U p (by omega) (by rw [h0]; decide), nlAt_yes U (p + 1) (by omega) h1, gap_one (c := 10) (by decide) U (p + 1) (by omega) h1]
  rfl⟩
theorem gp_2 : Gp ⟨#[32, 35, 32, 116, 114, 117, 101, 32, 41, 32, 125, 32, 34, 32, 38, 38, 32, 10]⟩ := ⟨by decide, by decide, fun a => by show mk2 a 32 = false; unfold mk2; simp, fun U p hz hb => by
  have hz : p + 18 ≤ U.size := hz
  have h0 : bt U p = 32 := hb 0 (by decide)
  have h1 : bt U (p + 1) = 35 := hb 1 (by decide)
  have hn : nlAt U (p + 1) = p + 17 := by
    have st : ∀ j, 1 ≤ j → j < 17 → nlAt U (p + j) = nlAt U (p + (j + 1)) := fun j hj1 hj2 => by
      rw [nlAt_go U (p + j) (by omega) ?_]
      · rfl
      · rw [hb j (by show j < 18; omega)]
        have : j = 1 ∨ j = 2 ∨ j = 3 ∨ j = 4 ∨ j = 5 ∨ j = 6 ∨ j = 7 ∨ j = 8 ∨ j = 9 ∨ j = 10 ∨ j = 11 ∨ j = 12 ∨ j = 13 ∨ j = 14 ∨ j = 15 ∨ j = 16 := by omega
        rcases this with rfl | rfl | rfl | rfl | rfl | rfl | rfl | rfl | rfl | rfl | rfl | rfl | rfl | rfl | rfl | rfl <;> decide
    rw [st 1 (by omega) (by omega), st 2 (by omega) (by omega), st 3 (by omega) (by omega), st 4 (by omega) (by omega), st 5 (by omega) (by omega), st 6 (by omega) (by omega), st 7 (by omega) (by omega), st 8 (by omega) (by omega), st 9 (by omega) (by omega), st 10 (by omega) (by omega), st 11 (by omega) (by omega), st 12 (by omega) (by omega), st 13 (by omega) (by omega), st 14 (by omega) (by omega), st 15 (by omega) (by omega), st 16 (by omega) (by omega)]
    exact nlAt_yes U (p + 17) (by omega) (hb 17 (by decide))
  rw [gap_one (c := 32) (by decide) U p (by omega) h0, gapS_rem U (p + 1) (by omega) h1, hn, gap_one (c := 10) (by decide) U (p + 17) (by omega) (hb 17 (by decide))]
  rfl⟩
theorem gp_n (n : Nat) : Gp (gpn n) := by
  unfold gpn
  split
  · exact gp_0
  · split
    · exact gp_1
    · split
      · exact gp_2
      · split
        · exact gp_3
        · exact gp_4
theorem gpn_le (n : Nat) : (gpn n).size ≤ 18 := by
  unfold gpn
  repeat' split
  all_goals decide
/-- The other source, up to k tokens. -/
def pw (s : ByteArray) (g : Nat → ByteArray) (T : List Tok) : Nat → ByteArray
  | 0 => ⟨#[]⟩
  | k + 1 => pw s g T k ++ g k ++ s.extract (tk T k).a (tk T k).e
/-- A token where it has come to stand. -/
def mt (s : ByteArray) (g : Nat → ByteArray) (T : List Tok) (k : Nat) : Tok := ⟨(tk T k).kind, (tk T k).text, (tk T k).num, (pw s g T k).size + (g k).size, (pw s g T (k + 1)).size⟩
theorem pw_app (s : ByteArray) (g : Nat → ByteArray) (T : List Tok) : ∀ (n k : Nat), ∃ R, pw s g T (k + n) = pw s g T k ++ R
  | 0, k => ⟨ByteArray.empty, by rw [ByteArray.append_empty]; rfl⟩
  | n + 1, k => by
    obtain ⟨R, h⟩ := pw_app s g T n k
    exact ⟨R ++ g (k + n) ++ s.extract (tk T (k + n)).a (tk T (k + n)).e, by show pw s g T (k + n) ++ g (k + n) ++ s.extract (tk T (k + n)).a (tk T (k + n)).e = _; rw [h]; simp only [ByteArray.append_assoc]⟩
theorem pw_succ {s : ByteArray} {g : Nat → ByteArray} {T : List Tok} {k : Nat} (h1 : (tk T k).a ≤ (tk T k).e) (h2 : (tk T k).e ≤ s.size) : (pw s g T (k + 1)).size = (pw s g T k).size + (g k).size + ((tk T k).e - (tk T k).a) := by
  show (pw s g T k ++ g k ++ s.extract (tk T k).a (tk T k).e).size = _
  rw [ByteArray.size_append, ByteArray.size_append, ext_sz s _ _ h2]
theorem pw_at {s : ByteArray} {g : Nat → ByteArray} {T : List Tok} {k L : Nat} (hk : k < L) (h2 : (tk T k).e ≤ s.size) :
    (∀ j, j < (g k).size → bt (pw s g T L) ((pw s g T k).size + j) = bt (g k) j) ∧ (∀ j, j < (tk T k).e - (tk T k).a → bt (pw s g T L) ((pw s g T k).size + (g k).size + j) = bt s ((tk T k).a + j)) ∧ (pw s g T (k + 1)).size ≤ (pw s g T L).size := by
  obtain ⟨R, hR⟩ := pw_app s g T (L - (k + 1)) (k + 1)
  rw [show k + 1 + (L - (k + 1)) = L by omega] at hR
  have hx := ext_sz s (tk T k).a (tk T k).e h2
  have e1 : pw s g T (k + 1) = pw s g T k ++ g k ++ s.extract (tk T k).a (tk T k).e := rfl
  have hz : (pw s g T (k + 1)).size = (pw s g T k).size + (g k).size + ((tk T k).e - (tk T k).a) := by rw [e1, ByteArray.size_append, ByteArray.size_append, hx]
  refine ⟨fun j hj => ?_, fun j hj => ?_, by rw [hR, ByteArray.size_append]; omega⟩
  · rw [hR, bt_app', if_pos (by omega), e1, bt_app', if_pos (by rw [ByteArray.size_append]; omega), bt_app', if_neg (by omega), show (pw s g T k).size + j - (pw s g T k).size = j by omega]
  · rw [hR, bt_app', if_pos (by omega), e1, bt_app', if_neg (by rw [ByteArray.size_append]; omega), ByteArray.size_append, show (pw s g T k).size + (g k).size + j - ((pw s g T k).size + (g k).size) = j by omega]
    exact ext_bt s _ _ j hj h2
/-- The tokens of a source and its end. -/
structure Tks (s : ByteArray) (T : List Tok) : Prop where
  pos : 0 < T.length
  mid : ∀ k, k + 1 < T.length → (tk T k).a < s.size ∧ tokS s (tk T k).a = .ok (tk T k)
  last : tk T (T.length - 1) = tokE s.size
theorem Tks.in {s : ByteArray} {T : List Tok} (h : Tks s T) {k : Nat} (hk : k < T.length) : (tk T k).a ≤ (tk T k).e ∧ (tk T k).e ≤ s.size := by
  by_cases hl : k + 1 < T.length
  · have h1 := h.mid k hl
    have h2 := tok_in h1.1 h1.2
    omega
  · rw [show k = T.length - 1 by omega, h.last]
    exact ⟨Nat.le_refl _, Nat.le_refl _⟩
theorem pw_scan {s : ByteArray} {g : Nat → ByteArray} {T : List Tok} (hT : Tks s T) (hG : ∀ i, Gp (g i)) : ∀ (n k : Nat), T.length - k = n → k < T.length → scanS (pw s g T T.length) (pw s g T k).size = ((List.range' k (T.length - k)).map (mt s g T), none) := by
  intro n
  induction n with
  | zero => intro k hn hk; omega
  | succ n ih =>
    intro k hn hk
    have hin := hT.in hk
    have ⟨b1, b2, b3⟩ := pw_at (s := s) (g := g) (T := T) (k := k) (L := T.length) hk hin.2
    have hz := pw_succ (g := g) hin.1 hin.2
    have hgk := hG k
    have hsk := hgk.skip (pw s g T T.length) (pw s g T k).size (by omega) b1
    by_cases hl : k + 1 < T.length
    · have hm := hT.mid k hl
      have hi2 := tok_in hm.1 hm.2
      have hin1 := hT.in hl
      have ⟨c1, c2, c3⟩ := pw_at (s := s) (g := g) (T := T) (k := k + 1) (L := T.length) hl hin1.2
      have hz1 := pw_succ (g := g) hin1.1 hin1.2
      have hg1 := hG (k + 1)
      have E : Em2 s (pw s g T T.length) (tk T k).a (tk T k).e ((pw s g T k).size + (g k).size) := by
        refine ⟨hin.1, hin.2, by omega, b2, Or.inr ?_⟩
        have e0 : bt (pw s g T T.length) ((pw s g T k).size + (g k).size + ((tk T k).e - (tk T k).a)) = bt (g (k + 1)) 0 := by
          have := c1 0 hg1.pos
          rw [Nat.add_zero, hz] at this
          exact this
        rw [e0]
        exact ⟨hg1.word, hg1.mark⟩
      have htk := tok_em2 hm.1 hm.2 E
      have hf := tok_first hm.1 hm.2
      have e0 : bt (pw s g T T.length) ((pw s g T k).size + (g k).size) = bt s (tk T k).a := by have := b2 0 (by omega); rwa [Nat.add_zero, Nat.add_zero] at this
      have hg : gapS (pw s g T T.length) (pw s g T k).size = (pw s g T k).size + (g k).size := by
        rw [hsk]
        exact gapS_no _ _ (by omega) (by rw [e0]; exact hf.1) (by rw [e0]; exact hf.2)
      have hs := scan_go (s := pw s g T T.length) (k := (pw s g T k).size) (by rw [hg]; omega) (by rw [hg]; exact htk)
      have ihk := ih (k + 1) (by omega) hl
      rw [hs]
      simp only
      rw [show (pw s g T k).size + (g k).size + ((tk T k).e - (tk T k).a) = (pw s g T (k + 1)).size from hz.symm, ihk, show T.length - k = (T.length - (k + 1)) + 1 by omega, List.range'_succ, List.map_cons]
      rfl
    · have hke : k = T.length - 1 := by omega
      have hlast := hT.last
      rw [← hke] at hlast
      have hT1 : T.length = k + 1 := by omega
      have e1 : (tk T k).e - (tk T k).a = 0 := by rw [hlast]; exact Nat.sub_self _
      have hU : (pw s g T T.length).size = (pw s g T k).size + (g k).size := by rw [hT1, hz, e1]; rfl
      have hg : gapS (pw s g T T.length) (pw s g T k).size = (pw s g T T.length).size := by
        rw [hsk, ← hU]
        exact gapS_end _ _ (by omega)
      rw [scan_fin (by rw [hg]; omega), show T.length - k = 1 by omega]
      simp only [List.range'_one, List.map_cons, List.map_nil]
      have hm : mt s g T k = tokE (pw s g T T.length).size := by
        unfold mt
        rw [hlast]
        unfold tokE
        rw [hU, hz, e1]
        rfl
      rw [hm]
theorem scan_tks {src : ByteArray} (h : (scanT src).2 = none) : Tks src (scanT src).1 := by
  obtain ⟨_, l, hl, hs⟩ := scan_shape h
  have hp := (scan_fin2 h).1
  refine ⟨hp, fun k hk => ?_, ?_⟩
  · have hm : tk (scanT src).1 k ∈ l := by
      rw [hl] at hk ⊢
      have h1 : k < l.length := by simp at hk; omega
      unfold tk
      rw [List.getD_eq_getElem?_getD, List.getElem?_append_left h1, List.getElem?_eq_getElem h1]
      exact List.getElem_mem h1
    exact ⟨(hs _ hm).1, (hs _ hm).2.1⟩
  · rw [hl]
    rw [List.length_append, List.length_singleton, Nat.add_sub_cancel, tk_last]
/-- The tokens of the other source. -/
def mts (s : ByteArray) (g : Nat → ByteArray) (T : List Tok) : List Tok := (List.range' 0 T.length).map (mt s g T)
theorem tk_mts {s : ByteArray} {g : Nat → ByteArray} {T : List Tok} {k : Nat} (hk : k < T.length) : tk (mts s g T) k = mt s g T k := by
  unfold tk mts
  rw [List.getD_eq_getElem?_getD, List.getElem?_map, List.getElem?_range' hk]
  simp
theorem tk_big {T : List Tok} {k : Nat} (hk : ¬ k < T.length) : tk T k = tok0 := by
  unfold tk
  rw [List.getD_eq_getElem?_getD, List.getElem?_eq_none (by omega)]
  rfl
theorem sk_mts {src : ByteArray} (h : (scanT src).2 = none) (g : Nat → ByteArray) : Sk (scanT src).1 (mts src g (scanT src).1) := by
  have hl : (mts src g (scanT src).1).length = (scanT src).1.length := by unfold mts; simp
  have key : ∀ i, (tk (mts src g (scanT src).1) i).kind = (tk (scanT src).1 i).kind ∧ (tk (mts src g (scanT src).1) i).text = (tk (scanT src).1 i).text ∧ (tk (mts src g (scanT src).1) i).num = (tk (scanT src).1 i).num := fun i => by
    by_cases hi : i < (scanT src).1.length
    · rw [tk_mts hi]; exact ⟨rfl, rfl, rfl⟩
    · rw [tk_big hi, tk_big (by rw [hl]; exact hi)]; exact ⟨rfl, rfl, rfl⟩
  exact ⟨fun i => (key i).1, fun i => (key i).2.1, fun i => (key i).2.2, (scan_fin2 h).2⟩
/-- Both sources read alike. -/
theorem blanks_pure {src : ByteArray} (h : (scanT src).2 = none) {g : Nat → ByteArray} (hG : ∀ i, Gp (g i)) (hz : (pw src g (scanT src).1 (scanT src).1.length).size ≤ 4096) :
    Rr (scanT src).1 (mts src g (scanT src).1) (wholeP (scanT src).1 16392) (wholeP (mts src g (scanT src).1) 16392) ∧ scanT (pw src g (scanT src).1 (scanT src).1.length) = (mts src g (scanT src).1, none) := by
  refine ⟨rr_whole (sk_mts h g) (scan_fin2 h).1 16392, ?_⟩
  have := pw_scan (scan_tks h) hG _ 0 rfl (scan_fin2 h).1
  have e : ∀ U : ByteArray, U.size ≤ 4096 → scanT U = scanS U 0 := fun U hU => by unfold scanT; exact if_pos hU
  rw [e _ hz]
  exact this
end Go.Proofs.YtcldglilhhhdoaaGreatDoor.L
