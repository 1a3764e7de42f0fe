import Derived.Test.YtnldagpbmphdhaaGreatDoorItr
import Derived.Test.YtnldagpbmphdhaaGreatDoorWlk
import Derived.Test.YtnldagpbmphdhaaGreatDoorCkk
import Derived.Test.YtnldagpbmphdhaaGreatDoorRri
namespace Go.Proofs.YtnldagpbmphdhaaGreatDoor.L
open Go.RowKit
set_option linter.unusedVariables false
theorem df_len : ∀ (n : Nat) (a b : List Lb), a.length + b.length ≤ n → (df a b).length ≤ a.length + b.length := by
  intro n
  induction n with
  | zero =>
    intro a b h
    obtain rfl := List.eq_nil_of_length_eq_zero (show a.length = 0 by omega)
    obtain rfl := List.eq_nil_of_length_eq_zero (show b.length = 0 by omega)
    rw [df]
    simp
  | succ n ih =>
    intro a b h
    cases a with
    | nil =>
      cases b with
      | nil => rw [df]; simp
      | cons y b =>
        rw [df]
        have := ih [] b (by simp at h ⊢; omega)
        simp at this ⊢
        omega
    | cons x a =>
      cases b with
      | nil =>
        rw [df]
        have := ih a [] (by simp at h ⊢; omega)
        simp at this ⊢
        omega
      | cons y b =>
        have k1 := ih a (y :: b) (by simp at h ⊢; omega)
        have k2 := ih (x :: a) b (by simp at h ⊢; omega)
        have k3 := ih a b (by simp at h ⊢; omega)
        simp only [List.length_cons] at k1 k2 k3 ⊢
        rw [df]
        split
        · simp only [List.length_cons]; omega
        · split
          · simp only [List.length_cons]; omega
          · split
            · omega
            · simp only [List.length_cons]; omega
theorem df_self : ∀ (a : List Lb), df a a = []
  | [] => by rw [df]
  | x :: a => by
    rw [df, if_neg (by rw [less_irrefl]; decide), if_neg (by rw [less_irrefl]; decide), if_pos rfl]
    exact df_self a
/-- The keys of the differences are keys of one of the lists. -/
theorem df_key : ∀ (n : Nat) (a b : List Lb), a.length + b.length ≤ n → ∀ d ∈ df a b, (∃ x ∈ a, x.1 = d.k) ∨ (∃ y ∈ b, y.1 = d.k) := by
  intro n
  induction n with
  | zero =>
    intro a b h d hd
    obtain rfl := List.eq_nil_of_length_eq_zero (show a.length = 0 by omega)
    obtain rfl := List.eq_nil_of_length_eq_zero (show b.length = 0 by omega)
    rw [df] at hd
    cases hd
  | succ n ih =>
    intro a b h d hd
    have up : ∀ (x y : Option Lb) (a' b' : List Lb), (∀ z ∈ a', z ∈ a) → (∀ z ∈ b', z ∈ b) → a'.length + b'.length ≤ n → d ∈ df a' b' → (∃ x ∈ a, x.1 = d.k) ∨ (∃ y ∈ b, y.1 = d.k) := by
      intro _ _ a' b' s1 s2 hl hm
      rcases ih a' b' hl d hm with ⟨z, hz, e⟩ | ⟨z, hz, e⟩
      · exact Or.inl ⟨z, s1 z hz, e⟩
      · exact Or.inr ⟨z, s2 z hz, e⟩
    cases a with
    | nil =>
      cases b with
      | nil => rw [df] at hd; cases hd
      | cons y b =>
        rw [df] at hd
        rcases List.mem_cons.1 hd with rfl | hd
        · exact Or.inr ⟨y, by simp, rfl⟩
        · exact up none none [] b (by simp) (fun z hz => List.mem_cons_of_mem _ hz) (by simp at h ⊢; omega) hd
    | cons x a =>
      cases b with
      | nil =>
        rw [df] at hd
        rcases List.mem_cons.1 hd with rfl | hd
        · exact Or.inl ⟨x, by simp, rfl⟩
        · exact up none none a [] (fun z hz => List.mem_cons_of_mem _ hz) (by simp) (by simp at h ⊢; omega) hd
      | cons y b =>
        rw [df] at hd
        split at hd
        · rcases List.mem_cons.1 hd with rfl | hd
          · exact Or.inl ⟨x, by simp, rfl⟩
          · exact up none none a (y :: b) (fun z hz => List.mem_cons_of_mem _ hz) (fun z hz => hz) (by simp at h ⊢; omega) hd
        · split at hd
          · rcases List.mem_cons.1 hd with rfl | hd
            · exact Or.inr ⟨y, by simp, rfl⟩
            · exact up none none (x :: a) b (fun z hz => hz) (fun z hz => List.mem_cons_of_mem _ hz) (by simp at h ⊢; omega) hd
          · split at hd
            · exact up none none a b (fun z hz => List.mem_cons_of_mem _ hz) (fun z hz => List.mem_cons_of_mem _ hz) (by simp at h ⊢; omega) hd
            · rcases List.mem_cons.1 hd with rfl | hd
              · exact Or.inl ⟨x, by simp, rfl⟩
              · exact up none none a b (fun z hz => List.mem_cons_of_mem _ hz) (fun z hz => List.mem_cons_of_mem _ hz) (by simp at h ⊢; omega) hd
def Gt (k : ByteArray) (l : List Lb) : Prop := ∀ z ∈ l, Op.bytesLess k.toList z.1.toList = true
theorem df_gt {k : ByteArray} {a b : List Lb} (ha : Gt k a) (hb : Gt k b) : ∀ d ∈ df a b, Op.bytesLess k.toList d.k.toList = true := by
  intro d hd
  rcases df_key _ a b (Nat.le_refl _) d hd with ⟨z, hz, e⟩ | ⟨z, hz, e⟩
  · rw [← e]; exact ha z hz
  · rw [← e]; exact hb z hz
theorem get_skip {x : Lb} {a : List Lb} {s : ByteArray} (h : Op.bytesLess x.1.toList s.toList = true) : getN (x :: a) s = getN a s := by
  rw [get_cons, if_neg]
  intro e
  rw [e, less_irrefl] at h
  cases h
theorem get_gt {k : ByteArray} {l : List Lb} (h : Gt k l) : getN l k = (ByteArray.empty, false) := get_none fun z hz e => by
  have := h z hz
  rw [e, less_irrefl] at this
  cases this
/-- What differences say, and that the keys rise. -/
structure Says (L : List Df) (a b : List Lb) : Prop where
  rise : L.Pairwise fun d e => Op.bytesLess d.k.toList e.k.toList = true
  old : ∀ d ∈ L, getN a d.k = (d.o, d.had)
  new : ∀ d ∈ L, getN b d.k = (d.n, d.has)
  differ : ∀ d ∈ L, d.had = d.has → d.o ≠ d.n
theorem says_nil (a b : List Lb) : Says [] a b := ⟨List.Pairwise.nil, fun _ h => (List.not_mem_nil h).elim, fun _ h => (List.not_mem_nil h).elim, fun _ h => (List.not_mem_nil h).elim⟩
theorem says_skip {L : List Df} {a b a' b' : List Lb} (h : Says L a' b') (k : ByteArray) (hr : ∀ e ∈ L, Op.bytesLess k.toList e.k.toList = true) (h1 : ∀ s : ByteArray, Op.bytesLess k.toList s.toList = true → getN a s = getN a' s) (h2 : ∀ s : ByteArray, Op.bytesLess k.toList s.toList = true → getN b s = getN b' s) : Says L a b :=
  ⟨h.rise, fun d hd => (h1 _ (hr d hd)).trans (h.old d hd), fun d hd => (h2 _ (hr d hd)).trans (h.new d hd), h.differ⟩
theorem says_cons {d : Df} {L : List Df} {a b a' b' : List Lb} (h : Says L a' b') (hr : ∀ e ∈ L, Op.bytesLess d.k.toList e.k.toList = true) (h1 : ∀ s : ByteArray, Op.bytesLess d.k.toList s.toList = true → getN a s = getN a' s) (h2 : ∀ s : ByteArray, Op.bytesLess d.k.toList s.toList = true → getN b s = getN b' s)
    (ho : getN a d.k = (d.o, d.had)) (hn : getN b d.k = (d.n, d.has)) (hd : d.had = d.has → d.o ≠ d.n) : Says (d :: L) a b := by
  have h' := says_skip h d.k hr h1 h2
  refine ⟨List.pairwise_cons.2 ⟨hr, h'.rise⟩, fun e he => ?_, fun e he => ?_, fun e he => ?_⟩
  · rcases List.mem_cons.1 he with rfl | he
    · exact ho
    · exact h'.old e he
  · rcases List.mem_cons.1 he with rfl | he
    · exact hn
    · exact h'.new e he
  · rcases List.mem_cons.1 he with rfl | he
    · exact hd
    · exact h'.differ e he
theorem get_head (x : Lb) (a : List Lb) : getN (x :: a) x.1 = (x.2, true) := by rw [get_cons, if_pos rfl]
theorem df_says : ∀ (n : Nat) (a b : List Lb), a.length + b.length ≤ n → Up a → Up b → Says (df a b) a b := by
  intro n
  induction n with
  | zero =>
    intro a b h _ _
    obtain rfl := List.eq_nil_of_length_eq_zero (show a.length = 0 by omega)
    obtain rfl := List.eq_nil_of_length_eq_zero (show b.length = 0 by omega)
    rw [df]
    exact says_nil _ _
  | succ n ih =>
    intro a b h ua ub
    have gl : ∀ {x : Lb} {l : List Lb}, Up (x :: l) → Gt x.1 l := fun u z hz => (List.pairwise_cons.1 u).1 z hz
    have tl : ∀ {x : Lb} {l : List Lb}, Up (x :: l) → Up l := fun u => (List.pairwise_cons.1 u).2
    have g0 : ∀ k, Gt k [] := fun k z hz => (List.not_mem_nil hz).elim
    cases a with
    | nil =>
      cases b with
      | nil => rw [df]; exact says_nil _ _
      | cons y b =>
        rw [df]
        exact says_cons (d := dAdd y) (ih [] b (by simp at h ⊢; omega) ua (tl ub)) (df_gt (g0 _) (gl ub)) (fun _ _ => rfl) (fun s hs => get_skip hs) rfl (get_head y b) (fun e => by cases e)
    | cons x a =>
      cases b with
      | nil =>
        rw [df]
        exact says_cons (d := dDel x) (ih a [] (by simp at h ⊢; omega) (tl ua) ub) (df_gt (gl ua) (g0 _)) (fun s hs => get_skip hs) (fun _ _ => rfl) (get_head x a) rfl (fun e => by cases e)
      | cons y b =>
        rw [df]
        split
        · rename_i l1
          have g : Gt x.1 (y :: b) := fun z hz => by
            rcases List.mem_cons.1 hz with rfl | hz
            · exact l1
            · exact less_trans _ _ _ l1 (gl ub z hz)
          exact says_cons (d := dDel x) (ih a (y :: b) (by simp at h ⊢; omega) (tl ua) ub) (df_gt (gl ua) g) (fun s hs => get_skip hs) (fun _ _ => rfl) (get_head x a) (get_gt g) (fun e => by cases e)
        · split
          · rename_i l1 l2
            have g : Gt y.1 (x :: a) := fun z hz => by
              rcases List.mem_cons.1 hz with rfl | hz
              · exact l2
              · exact less_trans _ _ _ l2 (gl ua z hz)
            exact says_cons (d := dAdd y) (ih (x :: a) b (by simp at h ⊢; omega) ua (tl ub)) (df_gt g (gl ub)) (fun _ _ => rfl) (fun s hs => get_skip hs) (get_gt g) (get_head y b) (fun e => by cases e)
          · rename_i l1 l2
            have ek : x.1 = y.1 := by
              rcases less_total x.1.toList y.1.toList with h | h | h
              · exact absurd h l1
              · exact bytes_ext h
              · exact absurd h l2
            have gb : Gt x.1 b := by rw [ek]; exact gl ub
            split
            · exact says_skip (ih a b (by simp at h ⊢; omega) (tl ua) (tl ub)) x.1 (df_gt (gl ua) gb) (fun s hs => get_skip hs) (fun s hs => get_skip (by rw [← ek]; exact hs))
            · rename_i ev
              exact says_cons (d := dChg x y) (ih a b (by simp at h ⊢; omega) (tl ua) (tl ub)) (df_gt (gl ua) gb) (fun s hs => get_skip hs) (fun s hs => get_skip (by rw [← ek]; exact hs)) (get_head x a) (by show getN (y :: b) x.1 = _; rw [ek]; exact get_head y b) (fun _ => ev)
end Go.Proofs.YtnldagpbmphdhaaGreatDoor.L
namespace Go.Proofs.YtnldagpbmphdhaaGreatDoor.L
open Go.RowKit Go.Shelf
set_option linter.unusedVariables false
set_option maxHeartbeats 4000000 in
theorem diff_no (v1 v2 : Value) (l1 l2 : List Lb) (w : World) (h1 : Came w v1 l1) (h2 : Came w v2 l2) (g1 : Good l1) (g2 : Good l2) (h : ¬ ((checkN l1).2 = 0 ∧ (checkN l2).2 = 0)) : Calls Tryz.prog 11 #[v1, v2] w (DiffPost w [] []) := by
  have H1 := hid (fun W (hb : Below w.heap.size w W) => islist_any v1 l1 W (h1.low hb).items g1)
  have H2 := hid (fun W (hb : Below w.heap.size w W) => islist_any v2 l2 W (h2.low hb).items g2)
  clear h1 h2 g1 g2
  by_cases c1 : (checkN l1).2 = 0
  · have c2 : ((checkN l2).2 == 0) = false := by simp; exact fun e => h ⟨c1, e⟩
    rw [c1] at H1
    rw [c2] at H2
    clear c1 c2 h
    go_enter Tryz.func11, Tryz.ntmps11
    go_wp2_with fail
    have b0 : Below w.heap.size w ((w.alloc (.cells #[.slice none 0 0] 27)).alloc (.cells #[.slice none 0 0] 27)) := (belowA w _).alloc (by simp) _
    refine (H1.out _ b0).mono ?_
    rintro e w1 ⟨rfl, hb⟩
    have BX := one_box w (.slice none 0 0) (.slice none 0 0) 27 27
    have X1 := hid (BX.low hb (by simp))
    have B1 := hid (b0.trans (hb.mono b0.size))
    have Z1 := hid (show w.heap.size + 1 < w1.heap.size from Nat.lt_of_lt_of_le (by simp) hb.size)
    clear hb BX b0
    go_wp2_with fail
    refine (H2.out _ B1.out).mono ?_
    rintro e w2 ⟨rfl, hb⟩
    have X2 := hid (X1.out.low hb Z1.out)
    have B2 := hid (B1.out.trans (hb.mono B1.out.size))
    have Z2 := hid (Nat.lt_of_lt_of_le Z1.out hb.size)
    clear hb X1 B1 Z1
    go_wp2_with fail
    go_ret
    exact ⟨_, _, rfl, B2.out, X2.out.c1, X2.out.c2, Or.inl ⟨rfl, rfl⟩, Or.inl ⟨rfl, rfl⟩, Z2.out, fun _ _ _ _ _ h => absurd rfl h, fun _ _ _ _ _ h => absurd rfl h⟩
  · have c2 : ((checkN l1).2 == 0) = false := by simpa using c1
    rw [c2] at H1
    clear c1 c2 h
    go_enter Tryz.func11, Tryz.ntmps11
    go_wp2_with fail
    have b0 : Below w.heap.size w ((w.alloc (.cells #[.slice none 0 0] 27)).alloc (.cells #[.slice none 0 0] 27)) := (belowA w _).alloc (by simp) _
    refine (H1.out _ b0).mono ?_
    rintro e w1 ⟨rfl, hb⟩
    have BX := one_box w (.slice none 0 0) (.slice none 0 0) 27 27
    have X1 := hid (BX.low hb (by simp))
    have B1 := hid (b0.trans (hb.mono b0.size))
    have Z1 := hid (show w.heap.size + 1 < w1.heap.size from Nat.lt_of_lt_of_le (by simp) hb.size)
    clear hb BX b0
    go_wp2_with fail
    go_ret
    exact ⟨_, _, rfl, B1.out, X1.out.c1, X1.out.c2, Or.inl ⟨rfl, rfl⟩, Or.inl ⟨rfl, rfl⟩, Z1.out, fun _ _ _ _ _ h => absurd rfl h, fun _ _ _ _ _ h => absurd rfl h⟩
/-- What differs, of any lists. -/
def dfA (a b : List Lb) : List Df := if (checkN a).2 = 0 ∧ (checkN b).2 = 0 then df a b else []
theorem dfA_len (a b : List Lb) : (dfA a b).length ≤ 64 := by
  unfold dfA
  split
  · rename_i h
    have h1 := (check_iff h.1).len
    have h2 := (check_iff h.2).len
    have := df_len _ a b (Nat.le_refl _)
    omega
  · exact Nat.zero_le _
theorem walk_all (v1 v2 : Value) (l1 l2 : List Lb) (w : World) (h1 : Came w v1 l1) (h2 : Came w v2 l2) (g1 : Good l1) (g2 : Good l2) :
    Calls Tryz.prog 60 #[v1, v2] w fun e w' => ∃ v, e = .returned v ∧ w'.ownsRow w.heap.size 51 5 v (dfA l1 l2).length (cellsD (dfA l1 l2)) ∧ Below w.heap.size w w' := by
  have b0 : Below w.heap.size w (w.alloc (.cells #[.slice none 0 0] 38)) := belowA _ _
  have hl := dfA_len l1 l2
  unfold dfA at hl ⊢
  by_cases h : (checkN l1).2 = 0 ∧ (checkN l2).2 = 0
  · rw [if_pos h] at hl ⊢
    exact walk_of v1 v2 l1 l2 w (diff_ok v1 v2 l1 l2 _ (h1.low b0) (h2.low b0) g1 g2 (check_iff h.1) (check_iff h.2)) hl
  · rw [if_neg h]
    have := walk_of v1 v2 [] [] w (diff_no v1 v2 l1 l2 _ (h1.low b0) (h2.low b0) g1 g2 h) (by rw [df_self]; exact Nat.zero_le _)
    rw [df_self] at this
    exact this
end Go.Proofs.YtnldagpbmphdhaaGreatDoor.L
namespace Go.Proofs.YtnldagpbmphdhaaGreatDoor.L
open Go.RowKit
set_option linter.unusedVariables false
theorem get_other {x : Lb} {a : List Lb} {s : ByteArray} (h : x.1 ≠ s) : getN (x :: a) s = getN a s := by rw [get_cons, if_neg h]
/-- A key of which no difference speaks has one answer in both lists. -/
theorem df_full : ∀ (n : Nat) (a b : List Lb), a.length + b.length ≤ n → ∀ s : ByteArray, (∀ d ∈ df a b, d.k ≠ s) → getN a s = getN b s := by
  intro n
  induction n with
  | zero =>
    intro a b h s _
    obtain rfl := List.eq_nil_of_length_eq_zero (show a.length = 0 by omega)
    obtain rfl := List.eq_nil_of_length_eq_zero (show b.length = 0 by omega)
    rfl
  | succ n ih =>
    intro a b h s hs
    cases a with
    | nil =>
      cases b with
      | nil => rfl
      | cons y b =>
        rw [df] at hs
        rw [get_other (x := y) (hs _ (List.mem_cons_self ..))]
        exact ih [] b (by simp at h ⊢; omega) s fun d hd => hs d (List.mem_cons_of_mem _ hd)
    | cons x a =>
      cases b with
      | nil =>
        rw [df] at hs
        rw [get_other (x := x) (hs _ (List.mem_cons_self ..))]
        exact ih a [] (by simp at h ⊢; omega) s fun d hd => hs d (List.mem_cons_of_mem _ hd)
      | cons y b =>
        rw [df] at hs
        split at hs
        · rw [get_other (x := x) (hs _ (List.mem_cons_self ..))]
          exact ih a (y :: b) (by simp at h ⊢; omega) s fun d hd => hs d (List.mem_cons_of_mem _ hd)
        · split at hs
          · rw [get_other (x := y) (hs _ (List.mem_cons_self ..))]
            exact ih (x :: a) b (by simp at h ⊢; omega) s fun d hd => hs d (List.mem_cons_of_mem _ hd)
          · rename_i l1 l2
            have ek : x.1 = y.1 := by
              rcases less_total x.1.toList y.1.toList with h | h | h
              · exact absurd h l1
              · exact bytes_ext h
              · exact absurd h l2
            split at hs
            · rename_i ev
              have I := ih a b (by simp at h ⊢; omega) s hs
              rw [get_cons, get_cons, ek, ev, I]
            · have e1 : x.1 ≠ s := hs _ (List.mem_cons_self ..)
              rw [get_other e1, get_other (show y.1 ≠ s by rw [← ek]; exact e1)]
              exact ih a b (by simp at h ⊢; omega) s fun d hd => hs d (List.mem_cons_of_mem _ hd)
/-- What is kept and what is put in are just the other list. -/
theorem patch_mem {a b : List Lb} (ua : Up a) (ub : Up b) (x : Lb) : ((x ∈ a ∧ ∀ d ∈ df a b, d.k ≠ x.1) ∨ ∃ d ∈ df a b, d.has = true ∧ x = (d.k, d.n)) ↔ x ∈ b := by
  have hS := df_says _ a b (Nat.le_refl _) ua ub
  have hF := df_full _ a b (Nat.le_refl _)
  have yes : ∀ {l : List Lb} {s v : ByteArray}, getN l s = (v, true) → (s, v) ∈ l := fun {l s v} h => by
    have := (get_yes (l := l) (s := s) (by rw [h])).2
    rw [h] at this
    exact this
  constructor
  · rintro (⟨hx, hn⟩ | ⟨d, hd, hh, rfl⟩)
    · have e := hF x.1 hn
      rw [get_up ua hx] at e
      exact yes e.symm
    · have e := hS.new d hd
      rw [hh] at e
      exact yes e
  · intro hx
    have e := get_up ub hx
    by_cases hd : ∀ d ∈ df a b, d.k ≠ x.1
    · have e2 := hF x.1 hd
      rw [e] at e2
      exact Or.inl ⟨yes e2, hd⟩
    · right
      obtain ⟨d, hd⟩ := Classical.not_forall.1 hd
      obtain ⟨hm, hk⟩ := Classical.not_imp.1 hd
      have hk := Classical.not_not.1 hk
      have en := hS.new d hm
      rw [hk, e] at en
      obtain ⟨h1, h2⟩ := Prod.mk.inj en
      exact ⟨d, hm, h2.symm, by rw [hk, ← h1]⟩
/-- The way back: swapped differences. -/
theorem df_swap : ∀ (n : Nat) (a b : List Lb), a.length + b.length ≤ n → df b a = (df a b).map fun d => ⟨d.k, d.n, d.o, d.has, d.had⟩ := by
  intro n
  induction n with
  | zero =>
    intro a b h
    obtain rfl := List.eq_nil_of_length_eq_zero (show a.length = 0 by omega)
    obtain rfl := List.eq_nil_of_length_eq_zero (show b.length = 0 by omega)
    rw [df]
    rfl
  | succ n ih =>
    intro a b h
    cases a with
    | nil =>
      cases b with
      | nil => rw [df]; rfl
      | cons y b =>
        rw [df, df, List.map_cons, ih [] b (by simp at h ⊢; omega)]
        rfl
    | cons x a =>
      cases b with
      | nil =>
        rw [df, df, List.map_cons, ih a [] (by simp at h ⊢; omega)]
        rfl
      | cons y b =>
        have k1 := ih a (y :: b) (by simp at h ⊢; omega)
        have k2 := ih (x :: a) b (by simp at h ⊢; omega)
        have k3 := ih a b (by simp at h ⊢; omega)
        rw [df.eq_4, df.eq_4]
        by_cases l1 : Op.bytesLess x.1.toList y.1.toList = true
        · have z := (less_asymm _ _ l1).1
          rw [if_neg (by rw [z]; decide), if_pos l1, if_pos l1, List.map_cons, k1]
          rfl
        · by_cases l2 : Op.bytesLess y.1.toList x.1.toList = true
          · rw [if_pos l2, if_neg l1, if_pos l2, List.map_cons, k2]
            rfl
          · have ek : x.1 = y.1 := by
              rcases less_total x.1.toList y.1.toList with h | h | h
              · exact absurd h l1
              · exact bytes_ext h
              · exact absurd h l2
            rw [if_neg l2, if_neg l1, if_neg l1, if_neg l2]
            by_cases ev : x.2 = y.2
            · rw [if_pos ev.symm, if_pos ev, k3]
            · rw [if_neg (fun e => ev e.symm), if_neg ev, List.map_cons, k3]
              unfold dChg
              rw [ek]
end Go.Proofs.YtnldagpbmphdhaaGreatDoor.L
namespace Go.Proofs.YtnldagpbmphdhaaGreatDoor.L
open Go.RowKit
set_option linter.unusedVariables false
theorem rel_unique {α : Type} {r : α → α → Prop} (irr : ∀ x, ¬ r x x) (tr : ∀ x y z, r x y → r y z → r x z) {a b : List α} (ha : a.Pairwise r) (hb : b.Pairwise r) (h : ∀ x, x ∈ a ↔ x ∈ b) : a = b := by
  induction a generalizing b with
  | nil => cases b with
    | nil => rfl
    | cons y b => exact absurd ((h y).2 (by simp)) (by simp)
  | cons x a ih => cases b with
    | nil => exact absurd ((h x).1 (by simp)) (by simp)
    | cons y b =>
      obtain ⟨a1, a2⟩ := List.pairwise_cons.1 ha
      obtain ⟨b1, b2⟩ := List.pairwise_cons.1 hb
      have e : x = y := by
        rcases List.mem_cons.1 ((h x).1 (by simp)) with e | e
        · exact e
        · rcases List.mem_cons.1 ((h y).2 (by simp)) with f | f
          · exact f.symm
          · exact (irr _ (tr _ _ _ (a1 y f) (b1 x e))).elim
      subst e
      rw [ih a2 b2 fun z => ?_]
      constructor
      · intro hz
        rcases List.mem_cons.1 ((h z).1 (by simp [hz])) with e | e
        · rw [e] at hz
          exact (irr _ (a1 _ hz)).elim
        · exact e
      · intro hz
        rcases List.mem_cons.1 ((h z).2 (by simp [hz])) with e | e
        · rw [e] at hz
          exact (irr _ (b1 _ hz)).elim
        · exact e
/-- How a key stands in both lists. -/
def oneD (a b : List Lb) (s : ByteArray) : Df := ⟨s, (getN a s).1, (getN b s).1, (getN a s).2, (getN b s).2⟩
def difB (d : Df) : Bool := (d.had != d.has) || (d.o.toList != d.n.toList)
/-- Of these keys, those that differ. -/
def rdL (a b T : List Lb) : List Df := (T.map fun x => oneD a b x.1).filter difB
/-- All labels of the first, and of the second those with other keys. -/
def un (a b : List Lb) : List Lb := a ++ b.filter fun y => decide (findN a y.1 < 0)
theorem find_neg (l : List Lb) (s : ByteArray) : findN l s < 0 ↔ (getN l s).2 = false := by
  rcases find_cases l s with ⟨h1, h2, _⟩ | ⟨j, hj, h1, h2, _⟩
  · rw [h1, h2]; simp
  · rw [h1, h2]; simp
theorem un_take (a b : List Lb) (k : Nat) (h : k < b.length) : un a (b.take (k + 1)) = un a (b.take k) ++ (if findN a (ky b k) < 0 then [(ky b k, vl b k)] else []) := by
  unfold un
  rw [take_kv b k h, List.filter_append, ← List.append_assoc]
  congr 1
  by_cases e : findN a (ky b k) < 0
  · rw [if_pos e, List.filter_cons_of_pos (by simpa using e)]
    rfl
  · rw [if_neg e, List.filter_cons_of_neg (by simpa using e)]
    rfl
theorem un_len (a b : List Lb) : (un a b).length ≤ a.length + b.length := by
  unfold un
  rw [List.length_append]
  have := List.length_filter_le (fun y : Lb => decide (findN a y.1 < 0)) b
  omega
theorem up_dis {l : List Lb} (h : Up l) : Dist l := h.imp fun {x y} h e => by
  unfold Lt at h
  rw [e, less_irrefl] at h
  cases h
theorem un_dist {a b : List Lb} (ua : Up a) (ub : Up b) : Dist (un a b) := by
  unfold un
  refine List.pairwise_append.2 ⟨up_dis ua, List.Pairwise.sublist List.filter_sublist (up_dis ub), fun x hx y hy => ?_⟩
  have := (List.mem_filter.1 hy).2
  simp at this
  exact (get_no ((find_neg a y.1).1 this)).2 x hx
theorem un_key {a b : List Lb} {s : ByteArray} (h : (∃ x ∈ a, x.1 = s) ∨ ∃ y ∈ b, y.1 = s) : ∃ x ∈ un a b, x.1 = s := by
  unfold un
  rcases h with ⟨x, hx, e⟩ | ⟨y, hy, e⟩
  · exact ⟨x, by simp [hx], e⟩
  · by_cases f : findN a y.1 < 0
    · exact ⟨y, by simp [hy, f], e⟩
    · have : (getN a y.1).2 = true := by
        cases g : (getN a y.1).2
        · exact absurd ((find_neg a y.1).2 g) f
        · rfl
      have m := (get_yes this).2
      exact ⟨(y.1, (getN a y.1).1), List.mem_append_left _ m, e⟩
theorem rd_take (a b T : List Lb) (k : Nat) (h : k < T.length) : rdL a b (T.take (k + 1)) = rdL a b (T.take k) ++ (if difB (oneD a b (ky T k)) = true then [oneD a b (ky T k)] else []) := by
  unfold rdL
  rw [take_kv T k h, List.map_append, List.filter_append]
  congr 1
  cases e : difB (oneD a b (ky T k))
  · rw [if_neg (by decide)]
    simp [e]
  · rw [if_pos rfl]
    simp [e]
theorem rd_len (a b T : List Lb) : (rdL a b T).length ≤ T.length := by
  unfold rdL
  exact Nat.le_trans (List.length_filter_le _ _) (by rw [List.length_map]; exact Nat.le_refl _)
theorem dif_iff {d : Df} : difB d = true ↔ (d.had = d.has → d.o ≠ d.n) := by
  unfold difB
  constructor
  · intro h e f
    rw [e, f] at h
    simp at h
  · intro h
    by_cases e : d.had = d.has
    · have := h e
      rw [e]
      simp
      exact fun f => this (bytes_ext f)
    · simp [e]
theorem rd_eq {a b T : List Lb} (ua : Up a) (ub : Up b) (hp : T.Perm (un a b)) (hu : Up T) : rdL a b T = df a b := by
  have hS := df_says _ a b (Nat.le_refl _) ua ub
  have hone : ∀ d ∈ df a b, d = oneD a b d.k := fun d hd => by
    unfold oneD
    rw [hS.old d hd, hS.new d hd]
  apply rel_unique (r := fun d e : Df => Op.bytesLess d.k.toList e.k.toList = true) (fun x h => by rw [less_irrefl] at h; cases h) (fun x y z h1 h2 => less_trans _ _ _ h1 h2)
  · unfold rdL
    refine List.Pairwise.sublist List.filter_sublist ?_
    rw [List.pairwise_map]
    exact hu
  · exact hS.rise
  · intro d
    constructor
    · intro hd
      obtain ⟨h1, h2⟩ := List.mem_filter.1 hd
      obtain ⟨x, hx, rfl⟩ := List.mem_map.1 h1
      apply Classical.byContradiction
      intro hn
      have hno : ∀ e ∈ df a b, e.k ≠ x.1 := fun e he ek => hn (by
        have := hone e he
        rw [ek] at this
        rw [← this]
        exact he)
      have := df_full _ a b (Nat.le_refl _) x.1 hno
      unfold difB oneD at h2
      simp [this] at h2
    · intro hd
      have hk := df_key _ a b (Nat.le_refl _) d hd
      obtain ⟨x, hx, e⟩ := un_key hk
      refine List.mem_filter.2 ⟨List.mem_map.2 ⟨x, hp.mem_iff.2 hx, ?_⟩, dif_iff.2 (hS.differ d hd)⟩
      show oneD a b x.1 = d
      rw [e]
      exact (hone d hd).symm
end Go.Proofs.YtnldagpbmphdhaaGreatDoor.L
namespace Go.Proofs.YtnldagpbmphdhaaGreatDoor.L
open Go.RowKit
set_option linter.unusedVariables false
theorem cellsD_cons (d : Df) (L : List Df) : cellsD (d :: L) = [.string d.k, .string d.o, .string d.n, .bool d.had, .bool d.has] ++ cellsD L := by simp [cellsD]
theorem cellsD_len (L : List Df) : (cellsD L).length = L.length * 5 := by
  induction L with
  | nil => rfl
  | cons d L ih => rw [cellsD_cons, List.length_append, ih]; simp; omega
theorem cellsD_at (L : List Df) : ∀ (j : Nat) (hj : j < L.length) (i : Nat) (u : Value), [Value.string L[j].k, .string L[j].o, .string L[j].n, .bool L[j].had, .bool L[j].has][i]? = some u → (cellsD L)[j * 5 + i]? = some u := by
  induction L with
  | nil => intro j hj; cases hj
  | cons d L ih =>
    intro j hj i u hu
    rw [cellsD_cons]
    cases j with
    | zero =>
      have hi : i < 5 := by
        apply Classical.byContradiction
        intro n
        rw [List.getElem?_eq_none (by simp; omega)] at hu
        cases hu
      rw [List.getElem?_append_left (by simp; omega)]
      simpa using hu
    | succ j =>
      rw [List.getElem?_append_right (by simp; omega)]
      have := ih j (by simpa using hj) i u (by simpa using hu)
      rw [← this]
      congr 1
      simp
      omega
/-- A list of differences in memory. -/
def ItemsD (W : World) (v : Value) (L : List Df) : Prop := ∃ a cap, v = .slice a L.length cap ∧ (L.length = 0 ∨ ∃ b off, a = some ⟨b, off, none⟩ ∧ b < W.heap.size ∧ ∀ j (hj : j < L.length), W.cell? ⟨b, off + j * 5, none⟩ = some (.string L[j].k) ∧ W.cell? ⟨b, off + j * 5 + 1, none⟩ = some (.string L[j].o) ∧ W.cell? ⟨b, off + j * 5 + 2, none⟩ = some (.string L[j].n) ∧ W.cell? ⟨b, off + j * 5 + 3, none⟩ = some (.bool L[j].had) ∧ W.cell? ⟨b, off + j * 5 + 4, none⟩ = some (.bool L[j].has))
theorem own_itemsD {w : World} {base : Nat} {v : Value} {L : List Df} (h : w.ownsRow base 51 5 v L.length (cellsD L)) : ItemsD w v L := by
  obtain ⟨h1, h2⟩ := h
  rcases h2 with ⟨rfl, hz⟩ | ⟨g, cap, cur, rfl, hb, hh, hle, hm, hs, ht⟩
  · exact ⟨none, 0, by rw [hz], Or.inl hz⟩
  · refine ⟨_, cap, rfl, ?_⟩
    by_cases hz : L.length = 0
    · exact Or.inl hz
    · have hlt : g < w.heap.size := by
        apply Classical.byContradiction
        intro n
        rw [Array.getElem?_eq_none (by omega)] at hh
        cases hh
      refine Or.inr ⟨g, 0, rfl, hlt, fun j hj => ?_⟩
      have key : ∀ k u, (cellsD L)[k]? = some u → w.cell? ⟨g, k, none⟩ = some u := by
        intro k u hu
        have hk : k < L.length * 5 := by
          apply Classical.byContradiction
          intro n
          rw [List.getElem?_eq_none (by rw [cellsD_len]; omega)] at hu
          cases hu
        rw [← ht, List.getElem?_take] at hu
        rw [if_pos (by omega)] at hu
        simp [World.cell?, hh]
        simpa using hu
      have a := cellsD_at L j hj
      refine ⟨?_, ?_, ?_, ?_, ?_⟩
      · simpa using key _ _ (a 0 _ rfl)
      · simpa using key _ _ (a 1 _ rfl)
      · simpa using key _ _ (a 2 _ rfl)
      · simpa using key _ _ (a 3 _ rfl)
      · simpa using key _ _ (a 4 _ rfl)
end Go.Proofs.YtnldagpbmphdhaaGreatDoor.L
