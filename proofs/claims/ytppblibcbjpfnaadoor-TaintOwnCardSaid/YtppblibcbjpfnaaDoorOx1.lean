import Derived.Test.YtppblibcbjpfnaaDoorOwn7
import Derived.Test.YtppblibcbjpfnaaDoorQl6
import Derived.Test.YtppblibcbjpfnaaDoorQo1
namespace Go.Proofs.YtppblibcbjpfnaaDoor.L
open Go.RowKit
set_option linter.unusedVariables false
set_option maxHeartbeats 4000000 in
theorem taints_long (v : Value) (l : List Tn) (w : World) (hc : CameT w v l) (hl1 : l.length ≤ maxLen) (hl2 : l.length * 48 ≤ 140737488355000) : Calls Tryd.prog 16 #[v] w fun e w' => ∃ v', e = .returned v' ∧ OwnT w' w.heap.size v' l ∧ Below w.heap.size w w' := by
  obtain ⟨i0, hi, hz0, hz1, hz2⟩ := info_parts infoT
  rcases hc with ⟨rfl, rfl⟩ | ⟨a, cap, rfl, _, h⟩
  · go_enter Tryd.func16, Tryd.ntmps16
    go_wp2_with (first
      | (at_builtin; refine wpList_append_own_none rfl _ _ 26 rfl w.heap.size 23 i0 3 Tryd.underlying26 hi _ 0 [] rfl (World.ownsRow_made w #[] 0 (Nat.le_refl _) (Nat.zero_le _) rfl) rfl ?_)
      | go_in)
    go_ret
    exact ⟨_, rfl, World.ownsRow_made w #[] 0 (Nat.le_refl _) (Nat.zero_le _) rfl, belowA _ _⟩
  · have hcell : ∀ j u, (cellsG 3 tf l)[j]? = some u → w.cell? (a.add j) = some u := by
      rcases h with h | ⟨b, off, rfl, h⟩
      · intro j u hu
        obtain ⟨h1, _⟩ := cellsG_get _ _ l j u hu
        omega
      · exact h.src
    have hbl : l.length = 0 ∨ a.block < w.heap.size := by
      rcases h with h | ⟨b, off, rfl, h⟩
      · exact Or.inl h
      · exact Or.inr h.1
    have HC := hid hcell
    have HB := hid hbl
    clear h hcell hbl
    go_enter Tryd.func16, Tryd.ntmps16
    go_wp2_with (first
      | (at_builtin; refine wpList_append_own _ rfl _ _ 26 rfl w.heap.size 23 i0 (.agg #[.string ByteArray.empty, .string ByteArray.empty, .string ByteArray.empty]) 3 48 Tryd.underlying26 hi hz0 hz1 hz2 rfl (by decide) _ 0 [] rfl (World.ownsRow_made w #[] 0 (Nat.le_refl _) (Nat.zero_le _) rfl) a l.length cap (cellsG 3 tf l) rfl (cellsG_len _ _ l) ?_ (cellsG_one _ _ l) (by omega) (by omega) (by simp) ?_)
      | go_in)
    · intro j u hu
      obtain ⟨h1, _⟩ := cellsG_get _ _ l j u hu
      have hb : a.block < w.heap.size := by rcases HB.out with h | h <;> omega
      have b1 : Below w.heap.size w (w.alloc (.cells #[] 23)) := belowA _ _
      rw [b1.cell (p := a.add j) (by unfold Addr.add; split <;> exact hb)]
      exact HC.out j u hu
    · intro v' w1 hown hgrow _
      have R := hid (show OwnT w1 w.heap.size v' l ∧ Below w.heap.size w w1 from ⟨hown, (belowA w _).grown hgrow (by simp) (fun k hk => by simp [Value.ownBlock] at hk; omega)⟩)
      clear hown hgrow
      go_wp2
      go_ret
      exact ⟨v', rfl, R.out.1, R.out.2⟩
set_option maxHeartbeats 4000000 in
theorem tols_long (v : Value) (l : List To) (w : World) (hc : CameO w v l) (hl1 : l.length ≤ maxLen) (hl2 : l.length * 64 ≤ 140737488355000) : Calls Tryd.prog 24 #[v] w fun e w' => ∃ v', e = .returned v' ∧ OwnO w' w.heap.size v' l ∧ Below w.heap.size w w' := by
  obtain ⟨i0, hi, hz0, hz1, hz2⟩ := info_parts infoO
  rcases hc with ⟨rfl, rfl⟩ | ⟨a, cap, rfl, _, h⟩
  · go_enter Tryd.func24, Tryd.ntmps24
    go_wp2_with (first
      | (at_builtin; refine wpList_append_own_none rfl _ _ 27 rfl w.heap.size 25 i0 4 Tryd.underlying27 hi _ 0 [] rfl (World.ownsRow_made w #[] 0 (Nat.le_refl _) (Nat.zero_le _) rfl) rfl ?_)
      | go_in)
    go_ret
    exact ⟨_, rfl, World.ownsRow_made w #[] 0 (Nat.le_refl _) (Nat.zero_le _) rfl, belowA _ _⟩
  · have hcell : ∀ j u, (cellsG 4 ofn l)[j]? = some u → w.cell? (a.add j) = some u := by
      rcases h with h | ⟨b, off, rfl, h⟩
      · intro j u hu
        obtain ⟨h1, _⟩ := cellsG_get _ _ l j u hu
        omega
      · exact h.src
    have hbl : l.length = 0 ∨ a.block < w.heap.size := by
      rcases h with h | ⟨b, off, rfl, h⟩
      · exact Or.inl h
      · exact Or.inr h.1
    have HC := hid hcell
    have HB := hid hbl
    clear h hcell hbl
    go_enter Tryd.func24, Tryd.ntmps24
    go_wp2_with (first
      | (at_builtin; refine wpList_append_own _ rfl _ _ 27 rfl w.heap.size 25 i0 (.agg #[.string ByteArray.empty, .string ByteArray.empty, .string ByteArray.empty, .string ByteArray.empty]) 4 64 Tryd.underlying27 hi hz0 hz1 hz2 rfl (by decide) _ 0 [] rfl (World.ownsRow_made w #[] 0 (Nat.le_refl _) (Nat.zero_le _) rfl) a l.length cap (cellsG 4 ofn l) rfl (cellsG_len _ _ l) ?_ (cellsG_one _ _ l) (by omega) (by omega) (by simp) ?_)
      | go_in)
    · intro j u hu
      obtain ⟨h1, _⟩ := cellsG_get _ _ l j u hu
      have hb : a.block < w.heap.size := by rcases HB.out with h | h <;> omega
      have b1 : Below w.heap.size w (w.alloc (.cells #[] 25)) := belowA _ _
      rw [b1.cell (p := a.add j) (by unfold Addr.add; split <;> exact hb)]
      exact HC.out j u hu
    · intro v' w1 hown hgrow _
      have R := hid (show OwnO w1 w.heap.size v' l ∧ Below w.heap.size w w1 from ⟨hown, (belowA w _).grown hgrow (by simp) (fun k hk => by simp [Value.ownBlock] at hk; omega)⟩)
      clear hown hgrow
      go_wp2
      go_ret
      exact ⟨v', rfl, R.out.1, R.out.2⟩
/-- The law's argument in memory. -/
structure OpAt (W : World) (b : Nat) (t : Tn) (o : To) (s key : ByteArray) (v vo : Value) : Prop where
  c1 : W.cell? ⟨b, 1, none⟩ = some (.string t.1)
  c2 : W.cell? ⟨b, 2, none⟩ = some (.string t.2.1)
  c3 : W.cell? ⟨b, 3, none⟩ = some (.string t.2.2)
  c4 : W.cell? ⟨b, 4, none⟩ = some (.string o.1)
  c5 : W.cell? ⟨b, 5, none⟩ = some (.string o.2.1)
  c6 : W.cell? ⟨b, 6, none⟩ = some (.string o.2.2.1)
  c7 : W.cell? ⟨b, 7, none⟩ = some (.string o.2.2.2)
  c8 : W.cell? ⟨b, 8, none⟩ = some (.string s)
  c9 : W.cell? ⟨b, 9, none⟩ = some (.string key)
  c10 : W.cell? ⟨b, 10, none⟩ = some v
  c11 : W.cell? ⟨b, 11, none⟩ = some vo
  lt : b < W.heap.size
theorem op_new (w : World) (kd : Int) (t : Tn) (o : To) (s key : ByteArray) (v vo : Value) (ty : TypeId) : OpAt (w.alloc (.cells #[.int .i64 kd, .string t.1, .string t.2.1, .string t.2.2, .string o.1, .string o.2.1, .string o.2.2.1, .string o.2.2.2, .string s, .string key, v, vo] ty)) w.heap.size t o s key v vo := by
  have h : (w.alloc (.cells #[.int .i64 kd, .string t.1, .string t.2.1, .string t.2.2, .string o.1, .string o.2.1, .string o.2.2.1, .string o.2.2.2, .string s, .string key, v, vo] ty)).heap[w.heap.size]? = some (.cells #[.int .i64 kd, .string t.1, .string t.2.1, .string t.2.2, .string o.1, .string o.2.1, .string o.2.2.1, .string o.2.2.2, .string s, .string key, v, vo] ty) := by
    show (w.heap.push _)[w.heap.size]? = _
    simp
  refine ⟨?_, ?_, ?_, ?_, ?_, ?_, ?_, ?_, ?_, ?_, ?_, ?_⟩
  all_goals first | (unfold World.cell?; rw [h]; rfl) | simp
theorem cells12 : Tryd.prog.cellsOf 29 = 12 := by kernel_rfl
theorem OpAt.low {W W' : World} {b : Nat} {t : Tn} {o : To} {s key : ByteArray} {v vo : Value} (h : OpAt W b t o s key v vo) (hb : Below W.heap.size W W') : OpAt W' b t o s key v vo := by
  have e : ∀ i, W'.cell? ⟨b, i, none⟩ = W.cell? ⟨b, i, none⟩ := fun i => hb.cell (p := ⟨b, i, none⟩) h.lt
  obtain ⟨a1, a2, a3, a4, a5, a6, a7, a8, a9, a10, a11, lt⟩ := h
  exact ⟨(e _).trans a1, (e _).trans a2, (e _).trans a3, (e _).trans a4, (e _).trans a5, (e _).trans a6, (e _).trans a7, (e _).trans a8, (e _).trans a9, (e _).trans a10, (e _).trans a11, Nat.lt_of_lt_of_le lt hb.size⟩
def sp3 : List Tn := [(⟨#[115, 112, 97, 114, 101, 49]⟩, ⟨#[]⟩, ⟨#[]⟩), (⟨#[115, 112, 97, 114, 101, 50]⟩, ⟨#[]⟩, ⟨#[]⟩), (⟨#[115, 112, 97, 114, 101, 51]⟩, ⟨#[]⟩, ⟨#[]⟩)]
def sp2 : List To := [(⟨#[115, 112, 97, 114, 101, 52]⟩, ⟨#[]⟩, ⟨#[]⟩, ⟨#[]⟩), (⟨#[115, 112, 97, 114, 101, 53]⟩, ⟨#[]⟩, ⟨#[]⟩, ⟨#[]⟩)]
theorem block_at (w : World) (cs : List Value) (t : TypeId) : ∀ j u, cs[j]? = some u → (w.alloc (.cells cs.toArray t)).cell? ((⟨w.heap.size, 0, none⟩ : Addr).add j) = some u := by
  intro j u hu
  rw [Go.WideShapes.add_plain, Nat.zero_add]
  rw [cell_of_row (w.alloc (.cells cs.toArray t)) w.heap.size j cs.toArray t (0, 0) (heap_alloc_new w _)]
  simpa using hu
/-- The first part of a row of one's own, as a list that came in. -/
theorem came_take {α : Type} {e : TypeId} {m : Nat} {f : α → Nat → ByteArray} {W : World} {base g N cp : Nat} {l c : List α} (h : OwnG e m f W base (.slice (some ⟨g, 0, none⟩) N cp) (l ++ c)) (hN : N = (l ++ c).length) : CameG m f W (.slice (some ⟨g, 0, none⟩) l.length cp) l := by
  subst hN
  rcases ownG_came h with ⟨e, _⟩ | ⟨a, cap, e, hc, hr⟩
  · cases e
  injection e with e1 _ e3
  injection e1 with e1
  subst e1 e3
  rw [List.length_append] at hc
  refine Or.inr ⟨_, cp, rfl, ⟨by omega, hc.2⟩, ?_⟩
  rcases hr with h0 | ⟨b, off, e, hat⟩
  · rw [List.length_append] at h0
    exact Or.inl (by omega)
  · refine Or.inr ⟨b, off, e, hat.1, fun j hj i hi => ?_⟩
    have := hat.2 j (by rw [List.length_append]; omega) i hi
    rw [this, List.getElem_append_left hj]
theorem came_form {α : Type} {m : Nat} {f : α → Nat → ByteArray} {W : World} {v : Value} {l : List α} (h : CameG m f W v l) : ∃ a cap, v = .slice a l.length cap := by
  rcases h with ⟨rfl, rfl⟩ | ⟨a, cap, rfl, _⟩
  · exact ⟨none, 0, rfl⟩
  · exact ⟨_, cap, rfl⟩
theorem own_some {α : Type} {e : TypeId} {m : Nat} {f : α → Nat → ByteArray} {W : World} {base n : Nat} {v : Value} {l : List α} {xs : List Value} (h : W.ownsRow base e m v n xs) (hn : 0 < n) (hl : l.length = n) (hx : xs = cellsG m f l) : ∃ g cp, v = .slice (some ⟨g, 0, none⟩) n cp ∧ n ≤ cp ∧ OwnG e m f W base v l := by
  subst hx hl
  rcases h.2 with ⟨_, h0⟩ | ⟨g, cp, cur, e, _, _, hc, _⟩
  · omega
  · exact ⟨g, cp, e, hc, h⟩
theorem own_atG {α : Type} {e : TypeId} {m : Nat} {f : α → Nat → ByteArray} {W : World} {base g n cp : Nat} {l : List α} (h : OwnG e m f W base (.slice (some ⟨g, 0, none⟩) n cp) l) (j : Nat) (hj : j < l.length) (i : Nat) (hi : i < m) : W.cell? ⟨g, j * m + i, none⟩ = some (.string (f l[j] i)) ∧ g < W.heap.size := by
  obtain ⟨a', c', e', hr⟩ := (ownG_came h).items
  injection e' with ea' _ _
  rcases hr with h0 | ⟨b, off, ea, hat⟩
  · omega
  rw [ea] at ea'
  injection ea' with ea'
  injection ea' with e1 e2 _
  subst e1 e2
  have c0 := hat.2 j hj i hi
  rw [Nat.zero_add] at c0
  exact ⟨c0, hat.1⟩
theorem own_len {α : Type} {e : TypeId} {m : Nat} {f : α → Nat → ByteArray} {W : World} {base : Nat} {v : Value} {l : List α} (h : OwnG e m f W base v l) : ∃ a c, v = .slice a l.length c := came_form (ownG_came h)
def sZ : ByteArray := ⟨#[122]⟩
def sNoS : ByteArray := ⟨#[78, 111, 83, 99, 104, 101, 100, 117, 108, 101]⟩
/-- The first places are written over. -/
def Mkz (l : List Tn) (q : Nat) : Prop := ∀ k, k < q → l[k]? = some (sZ, mk3 3 k, sNoS)
theorem mkz_next {l : List Tn} {q : Nat} (h : Mkz l q) (hq : q < l.length) : Mkz (l.set q (sZ, mk3 3 q, sNoS)) (q + 1) := by
  intro k hk
  rw [List.getElem?_set]
  by_cases e : q = k
  · subst e
    simp [hq]
  · rw [if_neg e]
    exact h k (by omega)
theorem mkz_in {l : List Tn} {q : Nat} (h : Mkz l q) (hq : q ≤ l.length) : ∀ x ∈ l.take q, ∃ k, x = (sZ, mk3 3 k, sNoS) := by
  intro x hx
  obtain ⟨k, hk, e⟩ := List.mem_take_iff_getElem.1 hx
  have h1 := h k (by omega)
  rw [List.getElem?_eq_getElem (by omega)] at h1
  exact ⟨k, by rw [← e]; exact Option.some.inj h1⟩
theorem mk3_size (i k : Nat) : (mk3 i k).size ≤ maxLen := by
  have e : (mk3 i k).size = 3 := rfl
  rw [e]
  decide
theorem mkz_dels {l : List Tn} {q : Nat} (h : Mkz l q) (hq : q ≤ l.length) : dels (l.take q) sZ sNoS = [] := by
  unfold dels
  rw [List.filter_eq_nil_iff]
  intro x hx
  obtain ⟨k, rfl⟩ := mkz_in h hq x hx
  simp [isK, eqS]
theorem mkz_good {l : List Tn} {q : Nat} (h : Mkz l q) (hq : q ≤ l.length) (h1 : q ≤ maxLen) (h2 : q * (3 * 16) ≤ 140737488351232) : GoodT (l.take q) := by
  have hl : (l.take q).length = q := by rw [List.length_take]; omega
  refine ⟨⟨by rw [hl]; exact h1, by rw [hl]; exact h2⟩, fun x hx i hi => ?_⟩
  obtain ⟨k, rfl⟩ := mkz_in h hq x hx
  have : i = 0 ∨ i = 1 ∨ i = 2 := by omega
  rcases this with rfl | rfl | rfl
  · show sZ.size ≤ maxLen; decide
  · exact mk3_size 3 k
  · show sNoS.size ≤ maxLen; decide
/-- Nothing but a block has turned. -/
structure Fr (g : Nat) (W W' : World) : Prop where
  size : W.heap.size ≤ W'.heap.size
  block : ∀ k, k < W.heap.size → k ≠ g → W'.heap[k]? = W.heap[k]?
theorem Fr.refl (g : Nat) (W : World) : Fr g W W := ⟨Nat.le_refl _, fun _ _ _ => rfl⟩
theorem Fr.low {g : Nat} {W W1 W2 : World} (h : Fr g W W1) (b : Below W1.heap.size W1 W2) : Fr g W W2 := ⟨Nat.le_trans h.size b.size, fun k hk hn => (b.block k (Nat.lt_of_lt_of_le hk h.size)).trans (h.block k hk hn)⟩
theorem Fr.put3 {g o : Nat} {W W1 : World} (h : Fr g W W1) (a b c : Value) : Fr g W (put3 W1 g o a b c) := ⟨by rw [put3_size]; exact h.size, fun k hk hn => (put3_other W1 _ _ _ hn).trans (h.block k hk hn)⟩
theorem own_fr {α : Type} {e : TypeId} {m : Nat} {f : α → Nat → ByteArray} {g : Nat} {W W' : World} {base : Nat} {v : Value} {l : List α} (h : OwnG e m f W base v l) (k : Fr g W W') (hg : v.ownBlock ≠ some g) : OwnG e m f W' base v l := by
  refine ⟨h.1, ?_⟩
  rcases h.2 with e | ⟨g', cap', cur, e, hb, hh, r⟩
  · exact Or.inl e
  · have hlt : g' < W.heap.size := by
      apply Classical.byContradiction
      intro n
      rw [Array.getElem?_eq_none (by omega)] at hh
      cases hh
    exact Or.inr ⟨g', cap', cur, e, hb, (k.block g' hlt (fun e' => hg (by rw [e, e']; rfl))).trans hh, r⟩
theorem own_len9 {α : Type} {e : TypeId} {m : Nat} {f : α → Nat → ByteArray} {W : World} {base : Nat} {v : Value} {l : List α} (h : OwnG e m f W base v l) : ∃ a n c, v = .slice a n c := by
  obtain ⟨a, c, e⟩ := own_len h
  exact ⟨a, _, c, e⟩
theorem bd_apart {v v' : Value} {lo hi lo' hi' : Nat} (h : ∀ k, v.ownBlock = some k → lo ≤ k ∧ k < hi) (h' : ∀ k, v'.ownBlock = some k → lo' ≤ k ∧ k < hi') (hl : hi ≤ lo' ∨ hi' ≤ lo) : v.ownBlock = none ∨ v.ownBlock ≠ v'.ownBlock := by
  cases e : v.ownBlock with
  | none => exact Or.inl rfl
  | some g => exact Or.inr (fun e' => by have := h g e; have := h' g e'.symm; omega)
theorem items_nil (W : World) : ItemsG 3 tf W (.slice none 0 0) ([] : List Tn) := ⟨none, 0, rfl, Or.inl rfl⟩
theorem own_nil (W : World) (base : Nat) : OwnT W base (.slice none 0 0) [] := ⟨rfl, Or.inl ⟨rfl, rfl⟩⟩
/-- What Make answers: one list alone. -/
def MkL (l A : List Tn) : Prop := (¬ OkT l ∧ A = []) ∨ (OkT l ∧ A.Perm l ∧ Up A)
theorem mkl_one {l A B : List Tn} (h : MkL l A) (k : MkL l B) : A = B := by
  rcases h with ⟨h, rfl⟩ | ⟨h, p, u⟩ <;> rcases k with ⟨k, rfl⟩ | ⟨k, p', u'⟩
  · rfl
  · exact absurd k h
  · exact absurd h k
  · exact perm_up u u' (p.trans p'.symm)
theorem mkl_len {l A : List Tn} (h : MkL l A) : A.length ≤ l.length := by
  rcases h with ⟨_, rfl⟩ | ⟨_, p, _⟩
  · exact Nat.zero_le _
  · exact Nat.le_of_eq p.length_eq
theorem make_o (v : Value) (l : List Tn) (w : World) (hc : CameT w v l) (hg : GoodT l) : Calls Tryd.prog 15 #[v] w fun e w' => ∃ v' A at' er, e = .returned (.tuple #[v', .int .i64 at', .int .i64 er]) ∧ OwnT w' w.heap.size v' A ∧ MkL l A ∧ Below w.heap.size w w' := by
  refine (make_own v l w hc hg).mono ?_
  rintro e w' ⟨v', l', at', er, rfl, hb, h, _⟩
  rcases h with ⟨_, _, rfl, _, no⟩ | ⟨_, _, o, s, ok⟩
  · exact ⟨_, [], at', er, rfl, own_nil _ _, Or.inl ⟨no, rfl⟩, hb⟩
  · exact ⟨_, l', at', er, rfl, o, Or.inr ⟨ok, s.1, sorted_up s ok.dist⟩, hb⟩
theorem qmake_o (v : Value) (l : List Tn) (w : World) (hc : ItemsG 3 tf w v l) (hg : GoodT l) : Calls Tryd.prog 27 #[v] w fun e w' => ∃ v' A at' er, e = .returned (.tuple #[v', .int .i64 at', .int .i64 er]) ∧ OwnT w' w.heap.size v' A ∧ MkL l A ∧ Below w.heap.size w w' := by
  refine (qmake_own v l w hc hg).mono ?_
  rintro e w' ⟨v', l', at', er, rfl, hb, mk, h⟩
  rcases h with ⟨ne, rfl⟩ | ⟨rfl, o, p, u⟩
  · refine ⟨_, [], at', er, rfl, own_nil _ _, Or.inl ⟨fun ok => ?_, rfl⟩, hb⟩
    exact ne (mk_one mk (Or.inr (Or.inr ⟨rfl, rfl, ok⟩))).2
  · refine ⟨_, l', at', 0, rfl, o, Or.inr ⟨?_, p, u⟩, hb⟩
    rcases mk with ⟨h, _⟩ | ⟨_, h, _⟩ | ⟨_, _, ok⟩
    · exact absurd rfl h
    · cases h
    · exact ok
theorem dels_not {l : List Tn} {t x : Tn} (hx : x ∈ dels l t.1 t.2.2) : ¬ sameK x t := fun h => by
  have := (List.mem_filter.1 hx).2
  rw [isK_iff.2 ⟨h.1, h.2⟩] at this
  cases this
/-- What Put answers: one list alone. -/
def PtL (l : List Tn) (t : Tn) (A : List Tn) : Prop := ((¬ OkUp l ∨ tE t ≠ 0 ∨ (dels l t.1 t.2.2).length = 16) ∧ A = []) ∨ (OkUp l ∧ tE t = 0 ∧ (dels l t.1 t.2.2).length ≠ 16 ∧ A = insT (dels l t.1 t.2.2) t)
theorem ptl_one {l A B : List Tn} {t : Tn} (h : PtL l t A) (k : PtL l t B) : A = B := by
  rcases h with ⟨h, rfl⟩ | ⟨h1, h2, h3, rfl⟩ <;> rcases k with ⟨k, rfl⟩ | ⟨k1, k2, k3, rfl⟩
  · rfl
  · rcases h with h | h | h
    · exact absurd k1 h
    · exact absurd k2 h
    · exact absurd h k3
  · rcases k with h | h | h
    · exact absurd h1 h
    · exact absurd h2 h
    · exact absurd h h3
  · rfl
theorem ptl_len {l A : List Tn} {t : Tn} (h : PtL l t A) : A.length ≤ 17 := by
  rcases h with ⟨_, rfl⟩ | ⟨ok, _, _, rfl⟩
  · exact Nat.zero_le _
  · rw [(ins_perm _ _).length_eq, List.length_append]
    have := dels_len l t.1 t.2.2
    have := ok.len
    simp
    omega
theorem put_o (v : Value) (l : List Tn) (t : Tn) (w : World) (hc : CameT w v l) (hg : GoodT l) (ht : t.1.size ≤ maxLen ∧ t.2.1.size ≤ maxLen ∧ t.2.2.size ≤ maxLen) : Calls Tryd.prog 20 #[v, tv t] w fun e w' => ∃ v' A er, e = .returned (.tuple #[v', .int .i64 er]) ∧ OwnT w' w.heap.size v' A ∧ PtL l t A ∧ Below w.heap.size w w' := by
  by_cases ok : OkUp l
  · refine (put_own v l t w hc hg ok ht).mono ?_
    rintro e w' ⟨v', l', er, rfl, hb, h⟩
    rcases h with ⟨n, _, rfl⟩ | ⟨_, d, _, rfl⟩ | ⟨z, d, _, o, ss⟩
    · exact ⟨_, [], er, rfl, own_nil _ _, Or.inl ⟨Or.inr (Or.inl n), rfl⟩, hb⟩
    · exact ⟨_, [], er, rfl, own_nil _ _, Or.inl ⟨Or.inr (Or.inr d), rfl⟩, hb⟩
    · have hu := ins_up (dels_up ok.up t.1 t.2.2) (fun x hx => dels_not hx)
      have hp := ins_perm (dels l t.1 t.2.2) t
      have hd : Di (dels l t.1 t.2.2 ++ [t]) := di_perm hp.symm (up_di hu)
      have e : l' = insT (dels l t.1 t.2.2) t := perm_up (sorted_up ss hd) hu (ss.1.trans hp.symm)
      exact ⟨_, l', er, rfl, o, Or.inr ⟨ok, z, d, e⟩, hb⟩
  · refine (put_no v l t w hc hg ok).mono ?_
    rintro e w' ⟨er, rfl, hb, _⟩
    exact ⟨_, [], er, rfl, own_nil _ _, Or.inl ⟨Or.inl ok, rfl⟩, hb⟩
theorem qput_o (v : Value) (l : List Tn) (t : Tn) (w : World) (hc : ItemsG 3 tf w v l) (hg : GoodT l) (ht : t.1.size ≤ maxLen ∧ t.2.1.size ≤ maxLen ∧ t.2.2.size ≤ maxLen) : Calls Tryd.prog 28 #[v, tv t] w fun e w' => ∃ v' A er, e = .returned (.tuple #[v', .int .i64 er]) ∧ OwnT w' w.heap.size v' A ∧ PtL l t A ∧ Below w.heap.size w w' := by
  refine (qput_own v l t w hc hg ht).mono ?_
  rintro e w' ⟨v', er, rfl, hb, h⟩
  rcases h with ⟨ne, ch, rfl⟩ | ⟨ok, h⟩
  · exact ⟨_, [], er, rfl, own_nil _ _, Or.inl ⟨Or.inl (fun ok => ne (chr_no ch ok)), rfl⟩, hb⟩
  · rcases h with ⟨n, _, rfl⟩ | ⟨_, d, _, rfl⟩ | ⟨z, d, _, o⟩
    · exact ⟨_, [], er, rfl, own_nil _ _, Or.inl ⟨Or.inr (Or.inl n), rfl⟩, hb⟩
    · exact ⟨_, [], er, rfl, own_nil _ _, Or.inl ⟨Or.inr (Or.inr d), rfl⟩, hb⟩
    · exact ⟨_, _, er, rfl, o, Or.inr ⟨ok, z, d, rfl⟩, hb⟩
end Go.Proofs.YtppblibcbjpfnaaDoor.L
