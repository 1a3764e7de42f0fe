import Derived.Test.YtodamoblnlcodaaDoorItr
namespace Go.Proofs.YtodamoblnlcodaaDoor.L
open Go.RowKit
set_option linter.unusedVariables false
theorem df_len : ∀ (n : Nat) (a b : List Lb), a.length + b.length ≤ n → (df a b).length ≤ a.length + b.length := by
  intro n
  induction n with
  | zero =>
    intro a b h
    obtain rfl := List.eq_nil_of_length_eq_zero (show a.length = 0 by omega)
    obtain rfl := List.eq_nil_of_length_eq_zero (show b.length = 0 by omega)
    rw [df]
    simp
  | succ n ih =>
    intro a b h
    cases a with
    | nil =>
      cases b with
      | nil => rw [df]; simp
      | cons y b =>
        rw [df]
        have := ih [] b (by simp at h ⊢; omega)
        simp at this ⊢
        omega
    | cons x a =>
      cases b with
      | nil =>
        rw [df]
        have := ih a [] (by simp at h ⊢; omega)
        simp at this ⊢
        omega
      | cons y b =>
        have k1 := ih a (y :: b) (by simp at h ⊢; omega)
        have k2 := ih (x :: a) b (by simp at h ⊢; omega)
        have k3 := ih a b (by simp at h ⊢; omega)
        simp only [List.length_cons] at k1 k2 k3 ⊢
        rw [df]
        split
        · simp only [List.length_cons]; omega
        · split
          · simp only [List.length_cons]; omega
          · split
            · omega
            · simp only [List.length_cons]; omega
theorem df_self : ∀ (a : List Lb), df a a = []
  | [] => by rw [df]
  | x :: a => by
    rw [df, if_neg (by rw [less_irrefl]; decide), if_neg (by rw [less_irrefl]; decide), if_pos rfl]
    exact df_self a
/-- The keys of the differences are keys of one of the lists. -/
theorem df_key : ∀ (n : Nat) (a b : List Lb), a.length + b.length ≤ n → ∀ d ∈ df a b, (∃ x ∈ a, x.1 = d.k) ∨ (∃ y ∈ b, y.1 = d.k) := by
  intro n
  induction n with
  | zero =>
    intro a b h d hd
    obtain rfl := List.eq_nil_of_length_eq_zero (show a.length = 0 by omega)
    obtain rfl := List.eq_nil_of_length_eq_zero (show b.length = 0 by omega)
    rw [df] at hd
    cases hd
  | succ n ih =>
    intro a b h d hd
    have up : ∀ (x y : Option Lb) (a' b' : List Lb), (∀ z ∈ a', z ∈ a) → (∀ z ∈ b', z ∈ b) → a'.length + b'.length ≤ n → d ∈ df a' b' → (∃ x ∈ a, x.1 = d.k) ∨ (∃ y ∈ b, y.1 = d.k) := by
      intro _ _ a' b' s1 s2 hl hm
      rcases ih a' b' hl d hm with ⟨z, hz, e⟩ | ⟨z, hz, e⟩
      · exact Or.inl ⟨z, s1 z hz, e⟩
      · exact Or.inr ⟨z, s2 z hz, e⟩
    cases a with
    | nil =>
      cases b with
      | nil => rw [df] at hd; cases hd
      | cons y b =>
        rw [df] at hd
        rcases List.mem_cons.1 hd with rfl | hd
        · exact Or.inr ⟨y, by simp, rfl⟩
        · exact up none none [] b (by simp) (fun z hz => List.mem_cons_of_mem _ hz) (by simp at h ⊢; omega) hd
    | cons x a =>
      cases b with
      | nil =>
        rw [df] at hd
        rcases List.mem_cons.1 hd with rfl | hd
        · exact Or.inl ⟨x, by simp, rfl⟩
        · exact up none none a [] (fun z hz => List.mem_cons_of_mem _ hz) (by simp) (by simp at h ⊢; omega) hd
      | cons y b =>
        rw [df] at hd
        split at hd
        · rcases List.mem_cons.1 hd with rfl | hd
          · exact Or.inl ⟨x, by simp, rfl⟩
          · exact up none none a (y :: b) (fun z hz => List.mem_cons_of_mem _ hz) (fun z hz => hz) (by simp at h ⊢; omega) hd
        · split at hd
          · rcases List.mem_cons.1 hd with rfl | hd
            · exact Or.inr ⟨y, by simp, rfl⟩
            · exact up none none (x :: a) b (fun z hz => hz) (fun z hz => List.mem_cons_of_mem _ hz) (by simp at h ⊢; omega) hd
          · split at hd
            · exact up none none a b (fun z hz => List.mem_cons_of_mem _ hz) (fun z hz => List.mem_cons_of_mem _ hz) (by simp at h ⊢; omega) hd
            · rcases List.mem_cons.1 hd with rfl | hd
              · exact Or.inl ⟨x, by simp, rfl⟩
              · exact up none none a b (fun z hz => List.mem_cons_of_mem _ hz) (fun z hz => List.mem_cons_of_mem _ hz) (by simp at h ⊢; omega) hd
def Gt (k : ByteArray) (l : List Lb) : Prop := ∀ z ∈ l, Op.bytesLess k.toList z.1.toList = true
theorem df_gt {k : ByteArray} {a b : List Lb} (ha : Gt k a) (hb : Gt k b) : ∀ d ∈ df a b, Op.bytesLess k.toList d.k.toList = true := by
  intro d hd
  rcases df_key _ a b (Nat.le_refl _) d hd with ⟨z, hz, e⟩ | ⟨z, hz, e⟩
  · rw [← e]; exact ha z hz
  · rw [← e]; exact hb z hz
theorem get_skip {x : Lb} {a : List Lb} {s : ByteArray} (h : Op.bytesLess x.1.toList s.toList = true) : getN (x :: a) s = getN a s := by
  rw [get_cons, if_neg]
  intro e
  rw [e, less_irrefl] at h
  cases h
theorem get_gt {k : ByteArray} {l : List Lb} (h : Gt k l) : getN l k = (ByteArray.empty, false) := get_none fun z hz e => by
  have := h z hz
  rw [e, less_irrefl] at this
  cases this
/-- What differences say, and that the keys rise. -/
structure Says (L : List Df) (a b : List Lb) : Prop where
  rise : L.Pairwise fun d e => Op.bytesLess d.k.toList e.k.toList = true
  old : ∀ d ∈ L, getN a d.k = (d.o, d.had)
  new : ∀ d ∈ L, getN b d.k = (d.n, d.has)
  differ : ∀ d ∈ L, d.had = d.has → d.o ≠ d.n
theorem says_nil (a b : List Lb) : Says [] a b := ⟨List.Pairwise.nil, fun _ h => (List.not_mem_nil h).elim, fun _ h => (List.not_mem_nil h).elim, fun _ h => (List.not_mem_nil h).elim⟩
theorem says_skip {L : List Df} {a b a' b' : List Lb} (h : Says L a' b') (k : ByteArray) (hr : ∀ e ∈ L, Op.bytesLess k.toList e.k.toList = true) (h1 : ∀ s : ByteArray, Op.bytesLess k.toList s.toList = true → getN a s = getN a' s) (h2 : ∀ s : ByteArray, Op.bytesLess k.toList s.toList = true → getN b s = getN b' s) : Says L a b :=
  ⟨h.rise, fun d hd => (h1 _ (hr d hd)).trans (h.old d hd), fun d hd => (h2 _ (hr d hd)).trans (h.new d hd), h.differ⟩
theorem says_cons {d : Df} {L : List Df} {a b a' b' : List Lb} (h : Says L a' b') (hr : ∀ e ∈ L, Op.bytesLess d.k.toList e.k.toList = true) (h1 : ∀ s : ByteArray, Op.bytesLess d.k.toList s.toList = true → getN a s = getN a' s) (h2 : ∀ s : ByteArray, Op.bytesLess d.k.toList s.toList = true → getN b s = getN b' s)
    (ho : getN a d.k = (d.o, d.had)) (hn : getN b d.k = (d.n, d.has)) (hd : d.had = d.has → d.o ≠ d.n) : Says (d :: L) a b := by
  have h' := says_skip h d.k hr h1 h2
  refine ⟨List.pairwise_cons.2 ⟨hr, h'.rise⟩, fun e he => ?_, fun e he => ?_, fun e he => ?_⟩
  · rcases List.mem_cons.1 he with rfl | he
    · exact ho
    · exact h'.old e he
  · rcases List.mem_cons.1 he with rfl | he
    · exact hn
    · exact h'.new e he
  · rcases List.mem_cons.1 he with rfl | he
    · exact hd
    · exact h'.differ e he
theorem get_head (x : Lb) (a : List Lb) : getN (x :: a) x.1 = (x.2, true) := by rw [get_cons, if_pos rfl]
theorem df_says : ∀ (n : Nat) (a b : List Lb), a.length + b.length ≤ n → Up a → Up b → Says (df a b) a b := by
  intro n
  induction n with
  | zero =>
    intro a b h _ _
    obtain rfl := List.eq_nil_of_length_eq_zero (show a.length = 0 by omega)
    obtain rfl := List.eq_nil_of_length_eq_zero (show b.length = 0 by omega)
    rw [df]
    exact says_nil _ _
  | succ n ih =>
    intro a b h ua ub
    have gl : ∀ {x : Lb} {l : List Lb}, Up (x :: l) → Gt x.1 l := fun u z hz => (List.pairwise_cons.1 u).1 z hz
    have tl : ∀ {x : Lb} {l : List Lb}, Up (x :: l) → Up l := fun u => (List.pairwise_cons.1 u).2
    have g0 : ∀ k, Gt k [] := fun k z hz => (List.not_mem_nil hz).elim
    cases a with
    | nil =>
      cases b with
      | nil => rw [df]; exact says_nil _ _
      | cons y b =>
        rw [df]
        exact says_cons (d := dAdd y) (ih [] b (by simp at h ⊢; omega) ua (tl ub)) (df_gt (g0 _) (gl ub)) (fun _ _ => rfl) (fun s hs => get_skip hs) rfl (get_head y b) (fun e => by cases e)
    | cons x a =>
      cases b with
      | nil =>
        rw [df]
        exact says_cons (d := dDel x) (ih a [] (by simp at h ⊢; omega) (tl ua) ub) (df_gt (gl ua) (g0 _)) (fun s hs => get_skip hs) (fun _ _ => rfl) (get_head x a) rfl (fun e => by cases e)
      | cons y b =>
        rw [df]
        split
        · rename_i l1
          have g : Gt x.1 (y :: b) := fun z hz => by
            rcases List.mem_cons.1 hz with rfl | hz
            · exact l1
            · exact less_trans _ _ _ l1 (gl ub z hz)
          exact says_cons (d := dDel x) (ih a (y :: b) (by simp at h ⊢; omega) (tl ua) ub) (df_gt (gl ua) g) (fun s hs => get_skip hs) (fun _ _ => rfl) (get_head x a) (get_gt g) (fun e => by cases e)
        · split
          · rename_i l1 l2
            have g : Gt y.1 (x :: a) := fun z hz => by
              rcases List.mem_cons.1 hz with rfl | hz
              · exact l2
              · exact less_trans _ _ _ l2 (gl ua z hz)
            exact says_cons (d := dAdd y) (ih (x :: a) b (by simp at h ⊢; omega) ua (tl ub)) (df_gt g (gl ub)) (fun _ _ => rfl) (fun s hs => get_skip hs) (get_gt g) (get_head y b) (fun e => by cases e)
          · rename_i l1 l2
            have ek : x.1 = y.1 := by
              rcases less_total x.1.toList y.1.toList with h | h | h
              · exact absurd h l1
              · exact bytes_ext h
              · exact absurd h l2
            have gb : Gt x.1 b := by rw [ek]; exact gl ub
            split
            · exact says_skip (ih a b (by simp at h ⊢; omega) (tl ua) (tl ub)) x.1 (df_gt (gl ua) gb) (fun s hs => get_skip hs) (fun s hs => get_skip (by rw [← ek]; exact hs))
            · rename_i ev
              exact says_cons (d := dChg x y) (ih a b (by simp at h ⊢; omega) (tl ua) (tl ub)) (df_gt (gl ua) gb) (fun s hs => get_skip hs) (fun s hs => get_skip (by rw [← ek]; exact hs)) (get_head x a) (by show getN (y :: b) x.1 = _; rw [ek]; exact get_head y b) (fun _ => ev)
end Go.Proofs.YtodamoblnlcodaaDoor.L
