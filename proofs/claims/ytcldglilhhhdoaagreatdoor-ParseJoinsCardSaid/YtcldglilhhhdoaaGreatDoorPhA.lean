import Derived.Test.YtcldglilhhhdoaaGreatDoorMgAR
namespace Go.Proofs.YtcldglilhhhdoaaGreatDoor.L
open Go.RowKit
set_option linter.unusedVariables false
set_option linter.unusedSimpArgs false
/-- More strength changes nothing but the fault without a number. -/
def Mo {α : Type} (p p' : PRes α) : Prop := p = .error (0, 0) ∨ p' = p
theorem mo_rfl {α : Type} (p : PRes α) : Mo p p := Or.inr rfl
theorem mo_trans {α : Type} {p q r : PRes α} (h1 : Mo p q) (h2 : Mo q r) : Mo p r := by
  rcases h1 with h1 | h1
  · exact Or.inl h1
  · rcases h2 with h2 | h2
    · exact Or.inl (by rw [← h1]; exact h2)
    · exact Or.inr (by rw [h2, h1])
theorem mo_bnd {α β : Type} {p p' : PRes α} {f f' : α → PS → PRes β} (hp : Mo p p') (hf : ∀ a s, Mo (f a s) (f' a s)) : Mo (bnd p f) (bnd p' f') := by
  rcases hp with hp | hp
  · exact Or.inl (by rw [hp]; rfl)
  · rw [hp]
    match p with
    | .ok (a, s) => exact hf a s
    | .error e => exact mo_rfl _
theorem mo_if {α : Type} {c : Prop} [Decidable c] {p q p' q' : PRes α} (hp : Mo p p') (hq : Mo q q') : Mo (if c then p else q) (if c then p' else q') := by
  by_cases h : c
  · rw [if_pos h, if_pos h]; exact hp
  · rw [if_neg h, if_neg h]; exact hq
section
variable {T : List Tok} {one one' ex ex' te te' un un' : PS → PRes Int}
theorem mo_rows (h : ∀ s, Mo (one s) (one' s)) (m : List UInt8) : ∀ (n : Nat) (ks : List Int) (s : PS), Mo (rowsP T one m n ks s) (rowsP T one' m n ks s)
  | 0, ks, s => mo_rfl _
  | n + 1, ks, s => mo_if (mo_bnd (h _) fun k s1 => mo_rows h m n _ s1) (mo_rfl _)
theorem mo_row (h : ∀ s, Mo (one s) (one' s)) (kd : Int) (m : List UInt8) (s : PS) : Mo (rowP T one kd m s) (rowP T one' kd m s) :=
  mo_bnd (h s) fun k0 s1 => mo_bnd (mo_rows h m _ _ s1) fun ks s2 => mo_rfl _
theorem mo_with {α : Type} {inn inn' : PS → PRes α} (h : ∀ s, Mo (inn s) (inn' s)) (s : PS) : Mo (withP T inn s) (withP T inn' s) :=
  mo_bnd (mo_rfl _) fun _ s1 => mo_bnd (h s1) fun k s2 => mo_rfl _
theorem mo_sel (h : ∀ s, Mo (ex s) (ex' s)) (kd : Int) (s : PS) : Mo (selP T ex kd s) (selP T ex' kd s) :=
  mo_bnd (mo_with (fun s1 => mo_bnd (mo_rfl _) fun t s2 => mo_bnd (mo_rfl _) fun _ s3 => mo_bnd (h s3) fun k s4 => mo_rfl _) _) fun q s5 => mo_rfl _
theorem mo_neg (h : ∀ s, Mo (un s) (un' s)) (s : PS) : Mo (negP T un s) (negP T un' s) :=
  mo_bnd (mo_rfl _) fun _ s1 => mo_bnd (h s1) fun k s2 => mo_rfl _
theorem mo_comp (h : ∀ s, Mo (te s) (te' s)) (s : PS) : Mo (compP T te s) (compP T te' s) := by
  refine mo_bnd (h s) fun l s1 => ?_
  cases betO (tk T s1.nx) with
  | none => exact mo_rfl _
  | some q => exact mo_bnd (h _) fun r s2 => mo_rfl _
theorem mo_atom (h1 : ∀ s, Mo (ex s) (ex' s)) (h2 : ∀ s, Mo (te s) (te' s)) (s : PS) : Mo (atomP T ex te s) (atomP T ex' te' s) :=
  mo_if (mo_if (mo_rfl _) (mo_if (mo_rfl _) (mo_if (mo_sel h1 8 s) (mo_if (mo_sel h1 9 s) (mo_if (mo_rfl _) (mo_comp h2 s)))))) (mo_comp h2 s)
theorem mo_word (h1 : ∀ s, Mo (ex s) (ex' s)) (h2 : ∀ s, Mo (te s) (te' s)) (s : PS) : Mo (wordP T ex te s) (wordP T ex' te' s) :=
  mo_if (mo_rfl _) (mo_if (mo_rfl _) (mo_if (mo_rfl _) (mo_if (mo_bnd (mo_with h2 _) fun k s1 => mo_rfl _) (mo_if (mo_sel h1 20 s) (mo_rfl _)))))
end
theorem mo_gr {T : List Tok} : ∀ (n : Nat) (g : Gr) (s : PS), Mo (gr T n g s) (gr T (n + 1) g s)
  | 0, g, s => Or.inl rfl
  | n + 1, .expr, s => mo_row (mo_gr n .conj) 5 _ s
  | n + 1, .conj, s => mo_row (mo_gr n .unit) 4 _ s
  | n + 1, .unit, s => mo_if (mo_neg (mo_gr n .unit) s) (mo_if (mo_with (mo_gr n .expr) s) (mo_atom (mo_gr n .expr) (mo_gr n .term) s))
  | n + 1, .term, s => mo_if (mo_rfl _) (mo_if (mo_rfl _) (mo_if (mo_word (mo_gr n .expr) (mo_gr n .term) s) (mo_rfl _)))
theorem mo_le {T : List Tok} (g : Gr) (s : PS) (n : Nat) : ∀ j, Mo (gr T n g s) (gr T (n + j) g s)
  | 0 => mo_rfl _
  | j + 1 => mo_trans (mo_le g s n j) (mo_gr (n + j) g s)
theorem gr_less {T : List Tok} {g : Gr} {s : PS} {n m : Nat} (hn : 4 * (T.length - s.nx) + lvl g < n) (hm : n ≤ m) : gr T m g s = gr T n g s := by
  obtain ⟨j, rfl⟩ : ∃ j, m = n + j := ⟨m - n, by omega⟩
  rcases mo_le g s n j with h | h
  · exact absurd rfl (nz_gr n g s hn 0 0 h)
  · exact h
/-- A part behind so many others. -/
def shK (b : Int) (p : Pt) : Pt := ⟨p.kind, p.text, p.num, p.kids.map (· + b)⟩
/-- A token that stands for another: the same, or a shutting mark for the end. -/
def Tq (t t' : Tok) : Prop := (t'.kind = t.kind ∧ t'.text = t.text ∧ t'.num = t.num) ∨ (t.kind = 0 ∧ t'.kind = 4 ∧ t'.text.toList = [41])
structure Jt (T T' : List Tok) (d : Nat) : Prop where
  tok : ∀ i, i < T.length → Tq (tk T i) (tk T' (i + d))
  fin : ∀ k, k < T.length → (tk T k).kind ≠ 0 → k + 1 < T.length
structure Js (T : List Tok) (d e : Nat) (P : List Pt) (s s' : PS) : Prop where
  nx : s'.nx = s.nx + d
  ns : s'.ns = s.ns + e
  ps : s'.ps = P ++ s.ps.map (shK P.length)
  lt : s.nx < T.length
/-- What the one reads, the other reads at its place, or it comes to too great a nest. -/
def Jr {α : Type} (T : List Tok) (d e : Nat) (P : List Pt) (ra : α → α → Prop) (p p' : PRes α) : Prop :=
  ∀ a s, p = .ok (a, s) → (∃ a' s', p' = .ok (a', s') ∧ ra a a' ∧ Js T d e P s s') ∨ ∃ x, p' = .error (122, x)
section
variable {T T' : List Tok} {d e : Nat} {P : List Pt}
theorem jr_bnd {α β : Type} {ra : α → α → Prop} {rb : β → β → Prop} {p p' : PRes α} {f f' : α → PS → PRes β} (hp : Jr T d e P ra p p') (hf : ∀ a a' s s', ra a a' → Js T d e P s s' → Jr T d e P rb (f a s) (f' a' s')) : Jr T d e P rb (bnd p f) (bnd p' f') := by
  intro b sb h
  obtain ⟨a, s, e1, e2⟩ := bnd_inv h
  rcases hp a s e1 with ⟨a', s', e', r, j⟩ | ⟨x, e'⟩
  · rw [e', bnd_ok]; exact hf a a' s s' r j b sb e2
  · exact Or.inr ⟨x, by rw [e', bnd_bad]⟩
theorem jr_err {α : Type} {ra : α → α → Prop} (q : Nat × Int) (p' : PRes α) : Jr T d e P ra (.error q) p' := fun a s h => by cases h
theorem jr_ok {α : Type} {ra : α → α → Prop} {a a' : α} {s s' : PS} (h : ra a a') (j : Js T d e P s s') : Jr T d e P ra (.ok (a, s)) (.ok (a', s')) := fun b sb h0 => by
  injection h0 with h0
  injection h0 with h1 h2
  subst h1
  subst h2
  exact Or.inl ⟨a', s', rfl, h, j⟩
theorem js_adv (K : Jt T T' d) {s s' : PS} (h : Js T d e P s s') (hk : (tk T s.nx).kind ≠ 0) : Js T d e P (adv s) (adv s') := ⟨by simp only [adv]; rw [h.nx]; omega, h.ns, h.ps, K.fin _ h.lt hk⟩
theorem jt_at (K : Jt T T' d) {s s' : PS} (h : Js T d e P s s') : Tq (tk T s.nx) (tk T' s'.nx) := by rw [h.nx]; exact K.tok _ h.lt
theorem jt_yes (K : Jt T T' d) {s s' : PS} (h : Js T d e P s s') (hk : (tk T s.nx).kind ≠ 0) : (tk T' s'.nx).kind = (tk T s.nx).kind ∧ (tk T' s'.nx).text = (tk T s.nx).text ∧ (tk T' s'.nx).num = (tk T s.nx).num := by
  rcases jt_at K h with h1 | h1
  · exact h1
  · exact absurd h1.1 hk
theorem jt_isM (K : Jt T T' d) {s s' : PS} (h : Js T d e P s s') {m : List UInt8} (hm : m ≠ [41]) : isM T' s' m = isM T s m := by
  unfold isM
  rcases jt_at K h with h1 | h1
  · rw [h1.1, h1.2.1]
  · have e2 : decide ((tk T' s'.nx).text.toList = m) = false := by rw [h1.2.2]; exact decide_eq_false (fun h => hm h.symm)
    have e3 : decide ((tk T s.nx).kind = 4) = false := by rw [h1.1]; decide
    rw [e2, e3, Bool.and_false, Bool.false_and]
theorem jt_isMy (K : Jt T T' d) {s s' : PS} (h : Js T d e P s s') {m : List UInt8} (hm : isM T s m = true) : isM T' s' m = true := by
  have h1 := jt_yes K h (isM_kind hm)
  unfold isM at hm ⊢
  rw [h1.1, h1.2.1]
  exact hm
/-- Kinds that are asked: not the end's, not a mark's. -/
theorem jt_kind (K : Jt T T' d) {s s' : PS} (h : Js T d e P s s') {k : Nat} (h0 : k ≠ 0) (h4 : k ≠ 4) : ((tk T' s'.nx).kind = k) = ((tk T s.nx).kind = k) := by
  rcases jt_at K h with h1 | h1
  · rw [h1.1]
  · rw [h1.1, h1.2.1]
    exact propext ⟨fun h => absurd h.symm h4, fun h => absurd h.symm h0⟩
theorem jt_el (K : Jt T T' d) {s s' : PS} (h : Js T d e P s s') : isEl (tk T' s'.nx) = isEl (tk T s.nx) := by
  unfold isEl
  simp only [jt_kind K h (k := 1) (by decide) (by decide), jt_kind K h (k := 2) (by decide) (by decide)]
def rK (P : List Pt) (a a' : Int) : Prop := a' = a + (P.length : Int)
theorem jr_put {s s' : PS} (h : Js T d e P s s') {p p' : Pt} (hp : p' = shK P.length p) (x x' : Int) : Jr T d e P (rK P) (putP s p x) (putP s' p' x') := by
  refine jr_ok ?_ ⟨h.nx, h.ns, ?_, h.lt⟩
  · show ((s'.ps.length : Nat) : Int) = (s.ps.length : Int) + (P.length : Int)
    rw [h.ps]
    simp
    omega
  · show s'.ps ++ [p'] = _
    rw [h.ps, hp]
    simp
theorem jr_mark (K : Jt T T' d) {s s' : PS} (h : Js T d e P s s') (m : List UInt8) : Jr T d e P (fun _ _ => True) (markP T s m) (markP T' s' m) := by
  unfold markP
  cases hm : isM T s m
  · exact jr_err _ _
  · rw [jt_isMy K h hm, if_pos rfl, if_pos rfl]
    exact jr_ok trivial (js_adv K h (isM_kind hm))
theorem jr_text (K : Jt T T' d) {s s' : PS} (h : Js T d e P s s') : Jr T d e P Eq (textP T s) (textP T' s') := by
  unfold textP
  by_cases hk : (tk T s.nx).kind = 1
  · have h1 := jt_yes K h (by rw [hk]; decide)
    rw [h1.1, h1.2.1, if_pos hk, if_pos hk]
    exact jr_ok rfl (js_adv K h (by rw [hk]; decide))
  · rw [if_neg hk]; exact jr_err _ _
theorem jr_open (K : Jt T T' d) {s s' : PS} (h : Js T d e P s s') (m : List UInt8) : Jr T d e P (fun _ _ => True) (openP T s m) (openP T' s' m) := by
  unfold openP
  cases hm : isM T s m
  · exact jr_err _ _
  · rw [jt_isMy K h hm, if_pos rfl, if_pos rfl]
    by_cases hn : s.ns = 32
    · rw [if_pos hn]; exact jr_err _ _
    · rw [if_neg hn]
      by_cases hn' : s'.ns = 32
      · rw [if_pos hn']; exact fun _ _ _ => Or.inr ⟨_, rfl⟩
      · rw [if_neg hn']
        have h2 := js_adv K h (isM_kind hm)
        exact jr_ok trivial ⟨h2.nx, by simp only; rw [h.ns]; omega, h2.ps, h2.lt⟩
theorem js_shut {s s' : PS} (h : Js T d e P s s') (h0 : 0 < s.ns) : Js T d e P (shutP s) (shutP s') := ⟨h.nx, by simp only [shutP]; rw [h.ns]; omega, h.ps, h.lt⟩
theorem jr_el (K : Jt T T' d) {s s' : PS} (h : Js T d e P s s') (he : isEl (tk T s.nx) = true) : Jr T d e P (rK P) (elP T s) (elP T' s') := by
  have h2 := js_adv K h (isel_kind he)
  have h1 := jt_yes K h (isel_kind he)
  unfold elP
  rw [h1.1, h1.2.1, h1.2.2]
  by_cases hk : (tk T s.nx).kind = 1
  · rw [if_pos hk, if_pos hk]; exact jr_put h2 rfl _ _
  · rw [if_neg hk, if_neg hk]; exact jr_put h2 rfl _ _
theorem jr_mem (K : Jt T T' d) {s s' : PS} (h : Js T d e P s s') (n : Nat) : Jr T d e P (rK P) (memP T s n) (memP T' s' n) := by
  unfold memP
  rw [jt_el K h]
  cases he : isEl (tk T s.nx)
  · exact jr_err _ _
  · rw [if_pos rfl, if_pos rfl]
    by_cases hn : n = 64
    · rw [if_pos hn]; exact jr_err _ _
    · rw [if_neg hn, if_neg hn]; exact jr_el K h he
def rL (P : List Pt) (a a' : List Int) : Prop := a' = a.map (· + (P.length : Int))
theorem rl_snoc {l l' : List Int} {k k' : Int} (h : rL P l l') (hk : rK P k k') : rL P (l ++ [k]) (l' ++ [k']) := by
  unfold rL at *
  unfold rK at hk
  rw [h, hk]
  simp
theorem rl_len {l l' : List Int} (h : rL P l l') : l'.length = l.length := by
  unfold rL at h
  rw [h]
  simp
theorem jr_mems (K : Jt T T' d) : ∀ (n : Nat) (ks ks' : List Int) {s s' : PS}, rL P ks ks' → Js T d e P s s' → Jr T d e P (rL P) (memsP T n ks s) (memsP T' n ks' s')
  | 0, ks, ks', s, s', hr, h => jr_ok hr h
  | n + 1, ks, ks', s, s', hr, h => by
    unfold memsP
    rw [jt_isM K h (m := [44]) (by decide), rl_len hr]
    cases hm : isM T s [44]
    · exact jr_ok hr h
    · exact jr_bnd (jr_mem K (js_adv K h (isM_kind hm)) _) fun k k' s1 s1' hk h1 => jr_mems K n _ _ (rl_snoc hr hk) h1
theorem jr_set (K : Jt T T' d) {s s' : PS} (h : Js T d e P s s') : Jr T d e P (rK P) (setP T s) (setP T' s') := by
  unfold setP
  refine jr_bnd (jr_mark K h _) fun _ _ s1 s1' _ h1 => jr_bnd (ra := rL P) ?_ fun ks ks' s2 s2' hr h2 => jr_bnd (jr_mems K _ ks ks' hr h2) fun ks ks' s3 s3' hr h3 => jr_bnd (jr_mark K h3 _) fun _ _ s4 s4' _ h4 => jr_put h4 (by unfold rL at hr; rw [hr]; rfl) _ _
  rw [jt_isM K h1 (m := [125]) (by decide)]
  cases hm : isM T s1 [125]
  · exact jr_bnd (jr_mem K h1 0) fun k k' s2 s2' hk h2 => jr_ok (by unfold rL; unfold rK at hk; rw [hk]; rfl) h2
  · exact jr_ok rfl h1
theorem jr_named (K : Jt T T' d) {s s' : PS} (h : Js T d e P s s') : Jr T d e P Eq (namedP T s) (namedP T' s') :=
  jr_bnd (jr_mark K h _) fun _ _ s1 s1' _ h1 => jr_bnd (jr_text K h1) fun t t' s2 s2' ht h2 => jr_bnd (jr_mark K h2 _) fun _ _ s3 s3' _ h3 => jr_ok ht h3
theorem jr_field (K : Jt T T' d) {s s' : PS} (h : Js T d e P s s') : Jr T d e P Eq (fieldP T s) (fieldP T' s') := by
  unfold fieldP
  by_cases h0 : fieldO (tk T s.nx) = 0
  · rw [if_pos h0]; exact jr_err _ _
  · have h1 := jt_yes K h (field_kind h0)
    have e1 : fieldO (tk T' s'.nx) = fieldO (tk T s.nx) := by unfold fieldO; rw [h1.1, h1.2.1]
    rw [e1, if_neg h0, if_neg h0]
    exact jr_ok rfl (js_adv K h (field_kind h0))
theorem jr_who (K : Jt T T' d) {s s' : PS} (h : Js T d e P s s') (hk : (tk T s.nx).kind ≠ 0) (side : Int) : Jr T d e P (rK P) (whoP T s side) (whoP T' s' side) := by
  have ha := js_adv K h hk
  unfold whoP
  rw [jt_isM K ha (m := [91]) (by decide)]
  cases hm : isM T (adv s) [91]
  · refine jr_bnd (jr_mark K ha _) fun _ _ s1 s1' _ h1 => jr_bnd (jr_field K h1) fun k k' s2 s2' hr h2 => ?_
    subst hr
    by_cases h18 : k = 18
    · rw [if_pos h18, if_pos h18]
      refine jr_bnd (jr_named K h2) fun t t' s3 s3' ht h3 => ?_
      subst ht
      exact jr_put h3 rfl _ _
    · rw [if_neg h18, if_neg h18]; exact jr_put h2 rfl _ _
  · refine jr_bnd (jr_text K (js_adv K ha (isM_kind hm))) fun t t' s1 s1' ht h1 => jr_bnd (jr_mark K h1 _) fun _ _ s2 s2' _ h2 => ?_
    subst ht
    exact jr_put h2 rfl _ _
theorem jr_const (K : Jt T T' d) {s s' : PS} (h : Js T d e P s s') (hk : (tk T s.nx).kind ≠ 0) (k : Int) : Jr T d e P (rK P) (constP T s k) (constP T' s' k) := jr_put (js_adv K h hk) rfl _ _
theorem jr_tol (K : Jt T T' d) {s s' : PS} (h : Js T d e P s s') (hk : (tk T s.nx).kind ≠ 0) : Jr T d e P (rK P) (tolP T s) (tolP T' s') :=
  jr_bnd (jr_named K (js_adv K h hk)) fun t t' s1 s1' ht h1 => by subst ht; exact jr_put h1 rfl _ _
def Jo (T : List Tok) (d e : Nat) (P : List Pt) (one one' : PS → PRes Int) : Prop := ∀ s s', Js T d e P s s' → Jr T d e P (rK P) (one s) (one' s')
theorem jr_rows (K : Jt T T' d) {one one' : PS → PRes Int} (h1 : Jo T d e P one one') (m : List UInt8) (hm : m ≠ [41]) : ∀ (n : Nat) (ks ks' : List Int) {s s' : PS}, rL P ks ks' → Js T d e P s s' → Jr T d e P (rL P) (rowsP T one m n ks s) (rowsP T' one' m n ks' s')
  | 0, ks, ks', s, s', hr, h => jr_ok hr h
  | n + 1, ks, ks', s, s', hr, h => by
    unfold rowsP
    rw [jt_isM K h hm]
    cases hm' : isM T s m
    · exact jr_ok hr h
    · exact jr_bnd (h1 _ _ (js_adv K h (isM_kind hm'))) fun k k' s1 s1' hk h2 => jr_rows K h1 m hm n _ _ (rl_snoc hr hk) h2
theorem jr_row (K : Jt T T' d) {one one' : PS → PRes Int} (h1 : Jo T d e P one one') (kd : Int) (m : List UInt8) (hm : m ≠ [41]) : Jo T d e P (rowP T one kd m) (rowP T' one' kd m) := by
  intro s s' h
  refine jr_bnd (h1 _ _ h) fun k0 k0' s1 s1' hk h2 => jr_bnd (jr_rows K h1 m hm _ _ _ (by unfold rL; unfold rK at hk; rw [hk]; rfl) h2) fun ks ks' s2 s2' hr h3 => ?_
  rw [rl_len hr]
  by_cases hl : ks.length = 1
  · rw [if_pos hl, if_pos hl]; exact jr_ok hk h3
  · rw [if_neg hl, if_neg hl]; exact jr_put h3 (by unfold rL at hr; rw [hr]; rfl) _ _
theorem jr_bndE {α β : Type} {ra : α → α → Prop} {rb : β → β → Prop} {p p' : PRes α} {f f' : α → PS → PRes β} (hp : Jr T d e P ra p p') (hf : ∀ a a' s s', p = .ok (a, s) → ra a a' → Js T d e P s s' → Jr T d e P rb (f a s) (f' a' s')) : Jr T d e P rb (bnd p f) (bnd p' f') := by
  intro b sb h
  obtain ⟨a, s, e1, e2⟩ := bnd_inv h
  rcases hp a s e1 with ⟨a', s', e', r, j⟩ | ⟨x, e'⟩
  · rw [e', bnd_ok]; exact hf a a' s s' e1 r j b sb e2
  · exact Or.inr ⟨x, by rw [e', bnd_bad]⟩
/-- A reader that leaves the nest as it was. -/
def Sn {α : Type} (p : PS → PRes α) : Prop := ∀ s a s', p s = .ok (a, s') → s'.ns = s.ns
theorem mark_ns {s s' : PS} {m : List UInt8} {u : Unit} (h : markP T s m = .ok (u, s')) : s'.ns = s.ns := by rw [mark_ok h]; rfl
theorem jr_with (K : Jt T T' d) {α : Type} {ra : α → α → Prop} {inn inn' : PS → PRes α} {s s' : PS} (h : Js T d e P s s') (hs : Sn inn) (h1 : ∀ s s', Js T d e P s s' → Jr T d e P ra (inn s) (inn' s')) : Jr T d e P ra (withP T inn s) (withP T' inn' s') :=
  jr_bndE (jr_open K h _) fun _ _ s1 s1' e1 _ h2 => jr_bndE (h1 _ _ h2) fun k k' s2 s2' e2 hk h3 => jr_bndE (jr_mark K h3 _) fun _ _ s3 s3' e3 _ h4 => jr_ok hk (js_shut h4 (by rw [mark_ns e3, hs _ _ _ e2, open_ok e1]; exact Nat.succ_pos _))
theorem jr_sel (K : Jt T T' d) {ex ex' : PS → PRes Int} (hs : Sn ex) (h1 : Jo T d e P ex ex') {s s' : PS} (h : Js T d e P s s') (hk : (tk T s.nx).kind ≠ 0) (kd : Int) : Jr T d e P (rK P) (selP T ex kd s) (selP T' ex' kd s') := by
  unfold selP
  refine jr_bnd (ra := fun (a a' : ByteArray × Int) => a'.1 = a.1 ∧ rK P a.2 a'.2) (jr_with K (js_adv K h hk) ?_ fun s1 s1' h2 => jr_bnd (jr_text K h2) fun t t' s2 s2' ht h3 => jr_bnd (jr_mark K h3 _) fun _ _ s3 s3' _ h4 => jr_bnd (h1 _ _ h4) fun k k' s4 s4' hk h5 => jr_ok ⟨ht.symm, hk⟩ h5) fun q q' s5 s5' hq h6 => jr_put h6 ?_ _ _
  · intro s a s' h
    obtain ⟨t, s2, i1, h⟩ := bnd_inv h
    obtain ⟨u, s3, i2, h⟩ := bnd_inv h
    obtain ⟨r, s4, i3, h⟩ := bnd_inv h
    injection h with h; injection h with _ h; subst h
    rw [hs _ _ _ i3, mark_ns i2, text_ok i1]; rfl
  · have h7 := hq.2
    unfold rK at h7
    rw [h7, hq.1]
    rfl
theorem jr_neg (K : Jt T T' d) {un un' : PS → PRes Int} (hs : Sn un) (h1 : Jo T d e P un un') {s s' : PS} (h : Js T d e P s s') : Jr T d e P (rK P) (negP T un s) (negP T' un' s') := by
  unfold negP
  refine jr_bndE (jr_open K h _) fun _ _ s1 s1' e1 _ h2 => jr_bndE (h1 _ _ h2) fun k k' s2 s2' e2 hk h3 => jr_put (js_shut h3 (by rw [hs _ _ _ e2, open_ok e1]; exact Nat.succ_pos _)) ?_ _ _
  unfold rK at hk
  rw [hk]
  rfl
theorem jr_comp (K : Jt T T' d) {te te' : PS → PRes Int} (h1 : Jo T d e P te te') {s s' : PS} (h : Js T d e P s s') : Jr T d e P (rK P) (compP T te s) (compP T' te' s') := by
  refine jr_bnd (h1 _ _ h) fun l l' s1 s1' hl h2 => ?_
  cases hb : betO (tk T s1.nx) with
  | none => exact jr_err _ _
  | some q =>
    have h3 := jt_yes K h2 (bet_kind hb)
    have e1 : betO (tk T' s1'.nx) = some q := by rw [← hb]; unfold betO; rw [h3.1, h3.2.1]
    rw [e1]
    refine jr_bnd (h1 _ _ (js_adv K h2 (bet_kind hb))) fun r r' s2 s2' hr h3 => jr_put h3 ?_ _ _
    unfold rK at hl hr
    rw [hl, hr]
    rfl
theorem jr_if {α : Type} {ra : α → α → Prop} {c : Prop} [Decidable c] {p q p' q' : PRes α} (hp : c → Jr T d e P ra p p') (hq : ¬ c → Jr T d e P ra q q') : Jr T d e P ra (if c then p else q) (if c then p' else q') := by
  by_cases h : c
  · rw [if_pos h, if_pos h]; exact hp h
  · rw [if_neg h, if_neg h]; exact hq h
theorem jr_atom (K : Jt T T' d) {ex te ex' te' : PS → PRes Int} (hs : Sn ex) (h1 : Jo T d e P ex ex') (h2 : Jo T d e P te te') {s s' : PS} (h : Js T d e P s s') : Jr T d e P (rK P) (atomP T ex te s) (atomP T' ex' te' s') := by
  unfold atomP
  by_cases h3 : (tk T s.nx).kind = 3
  · have hk : (tk T s.nx).kind ≠ 0 := by rw [h3]; decide
    have h4 := jt_yes K h hk
    rw [h4.1, h4.2.1, if_pos h3, if_pos h3]
    exact jr_if (fun _ => jr_const K h hk 1) (fun _ => jr_if (fun _ => jr_const K h hk 2) (fun _ => jr_if (fun _ => jr_sel K hs h1 h hk 8) (fun _ => jr_if (fun _ => jr_sel K hs h1 h hk 9) (fun _ => jr_if (fun _ => jr_tol K h hk) (fun _ => jr_comp K h2 h)))))
  · rw [if_neg h3, if_neg (by rw [jt_kind K h (k := 3) (by decide) (by decide)]; exact h3)]
    exact jr_comp K h2 h
theorem jr_word (K : Jt T T' d) {ex te ex' te' : PS → PRes Int} (hs : Sn ex) (ht : Sn te) (h1 : Jo T d e P ex ex') (h2 : Jo T d e P te te') {s s' : PS} (h : Js T d e P s s') (hk : (tk T s.nx).kind ≠ 0) : Jr T d e P (rK P) (wordP T ex te s) (wordP T' ex' te' s') := by
  unfold wordP
  rw [(jt_yes K h hk).2.1]
  refine jr_if (fun _ => jr_who K h hk 2) (fun _ => jr_if (fun _ => jr_who K h hk 1) (fun _ => jr_if (fun _ => jr_who K h hk 3) (fun _ => jr_if (fun _ => jr_bnd (jr_with K (js_adv K h hk) ht h2) fun k k' s1 s1' hr h3 => jr_put h3 ?_ _ _) (fun _ => jr_if (fun _ => jr_sel K hs h1 h hk 20) (fun _ => jr_err _ _)))))
  unfold rK at hr
  rw [hr]
  rfl
theorem sn_gr (n : Nat) (g : Gr) : Sn (gr T n g) := fun s a s' h => (gn_gr n g s a s' h).ns
theorem jr_gr (K : Jt T T' d) : ∀ (n : Nat) (g : Gr), Jo T d e P (gr T n g) (gr T' n g)
  | 0, g => fun s s' h => jr_err _ _
  | n + 1, .expr => jr_row K (jr_gr K n .conj) 5 _ (by decide)
  | n + 1, .conj => jr_row K (jr_gr K n .unit) 4 _ (by decide)
  | n + 1, .unit => fun s s' h => by
    show Jr T d e P (rK P) (unitP T (gr T n .expr) (gr T n .unit) (gr T n .term) s) (unitP T' (gr T' n .expr) (gr T' n .unit) (gr T' n .term) s')
    unfold unitP
    rw [jt_isM K h (m := [33]) (by decide), jt_isM K h (m := [40]) (by decide)]
    exact jr_if (fun _ => jr_neg K (sn_gr n .unit) (jr_gr K n .unit) h) (fun _ => jr_if (fun _ => jr_with K h (sn_gr n .expr) (jr_gr K n .expr)) (fun _ => jr_atom K (sn_gr n .expr) (jr_gr K n .expr) (jr_gr K n .term) h))
  | n + 1, .term => fun s s' h => by
    show Jr T d e P (rK P) (termP T (gr T n .expr) (gr T n .term) s) (termP T' (gr T' n .expr) (gr T' n .term) s')
    unfold termP
    rw [jt_isM K h (m := [123]) (by decide), jt_el K h]
    refine jr_if (fun he => jr_el K h he) (fun _ => jr_if (fun _ => jr_set K h) (fun _ => ?_))
    by_cases h3 : (tk T s.nx).kind = 3
    · rw [if_pos h3, if_pos (by rw [jt_kind K h (k := 3) (by decide) (by decide)]; exact h3)]
      exact jr_word K (sn_gr n .expr) (sn_gr n .term) (jr_gr K n .expr) (jr_gr K n .term) h (by rw [h3]; decide)
    · rw [if_neg h3]; exact jr_err _ _
end
end Go.Proofs.YtcldglilhhhdoaaGreatDoor.L
