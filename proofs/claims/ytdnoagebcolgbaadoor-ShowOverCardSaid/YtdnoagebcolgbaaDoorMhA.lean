import Derived.Test.YtdnoagebcolgbaaDoorMgAF
import Derived.Test.YtdnoagebcolgbaaDoorHH
import Derived.Test.YtdnoagebcolgbaaDoorHJ
import Derived.OneCell
namespace Go.Proofs.YtdnoagebcolgbaaDoor.L
open Go.RowKit Go.Shelf
set_option linter.unusedVariables false
theorem pt_app {T : List Pt} {p : Pt} {j : Nat} (h : j < T.length) : pt (T ++ [p]) j = pt T j := by
  unfold pt
  rw [List.getD_eq_getElem?_getD, List.getD_eq_getElem?_getD, List.getElem?_append_left h]
theorem pt_last (T : List Pt) (p : Pt) : pt (T ++ [p]) T.length = p := by
  unfold pt
  rw [List.getD_eq_getElem?_getD, List.getElem?_append_right (Nat.le_refl _)]
  simp
theorem fre_app (T : List Pt) (p : Pt) : ∀ i, i ≤ T.length → fre (T ++ [p]) i = fre T i
  | 0, _ => rfl
  | i + 1, h => by
    rw [fre, fre, fre_app T p i (by omega), pt_app (by omega)]
theorem tab_app {T : List Pt} {p q : Pt} (hk : ∀ x, x ∈ q.kids → 0 ≤ x ∧ x < T.length) (h : tabD T q) : tabD (T ++ [p]) q := by
  obtain ⟨a, b, c, d, e⟩ := h
  refine ⟨a, b, c, d, fun x hx => ?_⟩
  have := hk x hx
  rw [pt_app (by omega)]
  exact e x hx
theorem ok_app {T : List Pt} {p : Pt} {j : Nat} (hj : j < T.length) (h : OkA T j) : OkA (T ++ [p]) j := by
  have e1 := fre_app T p j (by omega)
  have e2 : pt (T ++ [p]) j = pt T j := pt_app hj
  refine ⟨by rw [e1, e2]; exact h.many, by rw [e1, e2]; exact h.kids, ?_⟩
  rw [e2]
  exact tab_app (fun x hx => by have := h.lt hx; omega) h.tab
/-- One part alone is left. -/
theorem fre_one {T : List Pt} (h1 : 1 ≤ T.length) (hl : ¬ Lst T) : fre T T.length = [((T.length - 1 : Nat) : Int)] := by
  obtain ⟨n, hn⟩ : ∃ n, T.length = n + 1 := ⟨T.length - 1, by omega⟩
  have h2 : ¬ 1 < (fre T T.length).length := fun h => hl (Or.inr h)
  rw [hn] at h2 ⊢
  rw [fre] at h2 ⊢
  have h3 : ((fre T n).take ((fre T n).length - (pt T n).kids.length)).length = 0 := by
    rw [List.length_append] at h2
    simp only [List.length_cons, List.length_nil] at h2
    omega
  rw [List.eq_nil_of_length_eq_zero h3]
  rfl
theorem cond_last {T : List Pt} (hl : ¬ Lst T) : 1 ≤ (pt T (T.length - 1)).kind ∧ (pt T (T.length - 1)).kind ≤ 10 := Classical.byContradiction fun h => hl (Or.inl h)
/-- The parts over a whole. -/
def overP (k : Int) (tx : ByteArray) (L : Nat) : Pt := ⟨k, tx, 0, [((L - 1 : Nat) : Int)]⟩
def OvK (k : Int) (tx : ByteArray) : Prop := (k = 3 ∧ tx = ⟨#[]⟩) ∨ (k = 8 ∧ tx.size ≤ 127)
theorem ok_over {T : List Pt} {k : Int} {tx : ByteArray} (h1 : 1 ≤ T.length) (hok : Ok0 T) (hl : ¬ Lst T) (hk : OvK k tx) : Ok0 (T ++ [overP k tx T.length]) ∧ ¬ Lst (T ++ [overP k tx T.length]) := by
  have hf := fre_one h1 hl
  have hc := cond_last hl
  have hlen : (T ++ [overP k tx T.length]).length = T.length + 1 := by simp
  have e1 := fre_app T (overP k tx T.length) T.length (Nat.le_refl _)
  have e2 := pt_last T (overP k tx T.length)
  constructor
  · intro j hj
    rw [hlen] at hj
    by_cases e : j < T.length
    · exact ok_app e (hok j e)
    · obtain rfl : j = T.length := by omega
      refine ⟨?_, ?_, ?_⟩
      · rw [e1, e2, hf]; simp [overP]
      · rw [e1, e2, hf]; simp [overP]
      · rw [e2]
        unfold tabD overP
        simp only
        rcases hk with ⟨rfl, rfl⟩ | ⟨rfl, ht⟩
        · refine ⟨by simp [kidsB], by decide, by decide, by kernel_rfl, fun x hx => ?_⟩
          simp at hx
          subst hx
          rw [pt_app (by omega)]
          have : ((T.length : Int) - 1).toNat = T.length - 1 := by omega
          unfold clsB
          simp
          omega
        · refine ⟨by simp [kidsB], by decide, by decide, by simp [holdsB]; omega, fun x hx => ?_⟩
          simp at hx
          subst hx
          rw [pt_app (by omega)]
          unfold clsB
          simp
          omega
  · rintro (h | h)
    · apply h
      rw [hlen, Nat.add_sub_cancel, e2]
      unfold overP
      rcases hk with ⟨rfl, rfl⟩ | ⟨rfl, ht⟩ <;> simp
    · rw [hlen, fre, e1, hf, e2] at h
      simp [overP] at h
theorem getD_set (n : List Int) (x j : Nat) (v : Int) (hx : x < n.length) : (n.set x v).getD j 0 = if j = x then v else n.getD j 0 := by
  rw [List.getD_eq_getElem?_getD, List.getD_eq_getElem?_getD]
  by_cases e : j = x
  · subst e
    rw [List.getElem?_set_self hx, if_pos rfl]
    rfl
  · rw [List.getElem?_set_ne (by omega), if_neg e]
theorem inn_get (T : List Pt) (i : Nat) : ∀ (ks n : List Int) (j : Nat), (∀ x, x ∈ ks → 0 ≤ x ∧ x < (i : Int)) → i < n.length → (inn T i ks n).getD j 0 = if (j : Int) ∈ ks then n.getD i 0 + btw (pt T i).kind (pt T j).kind else n.getD j 0
  | [], n, j, _, _ => by simp [inn]
  | x :: r, n, j, hk, hi => by
    have hx := hk x (by simp)
    rw [inn_cons, inn_get T i r _ j (fun y hy => hk y (by simp [hy])) (by simpa using hi), getD_set n _ i _ (by omega), getD_set n _ j _ (by omega), if_neg (show ¬ i = x.toNat by omega)]
    by_cases e : (j : Int) ∈ r
    · rw [if_pos e, if_pos (by simp [e])]
    · rw [if_neg e]
      by_cases e2 : j = x.toNat
      · subst e2
        rw [if_pos rfl, if_pos (by simp; omega)]
      · rw [if_neg e2, if_neg (by simp; exact ⟨by omega, e⟩)]
theorem par_any {T : List Pt} : ∀ i, (∀ j, j < i → OkA T j) → ∀ j, j < i → (j : Int) ∈ fre T i ∨ ∃ i', i' < i ∧ (j : Int) ∈ (pt T i').kids
  | 0, _, j, hj => absurd hj (Nat.not_lt_zero j)
  | i + 1, hok, j, hj => by
    have hO := hok i (by omega)
    by_cases e : j < i
    · rcases par_any i (fun j hj => hok j (by omega)) j e with h | ⟨i', h1, h2⟩
      · have hs := List.take_append_drop ((fre T i).length - (pt T i).kids.length) (fre T i)
        rw [← hs, List.mem_append] at h
        rcases h with h | h
        · left
          rw [fre]
          simp [h]
        · right
          exact ⟨i, by omega, by rw [hO.kids]; exact h⟩
      · exact Or.inr ⟨i', by omega, h2⟩
    · obtain rfl : j = i := by omega
      left
      rw [fre]
      simp
theorem nsts_keep {T : List Pt} (hok : Ok0 T) : ∀ (i : Nat) (n : List Int) (j : Nat), i ≤ j → i ≤ T.length → i ≤ n.length → (nsts T i n).getD j 0 = n.getD j 0
  | 0, n, j, _, _, _ => rfl
  | i + 1, n, j, h, hT, hn => by
    have hO := hok i (by omega)
    rw [nsts, nsts_keep hok i _ j (by omega) (by omega) (by rw [inn_len]; omega), inn_get T i _ _ _ (fun x hx => hO.lt hx) (by omega), if_neg (fun h9 => by have := hO.lt h9; omega)]
theorem nsts_shift {T : List Pt} {p : Pt} {d : Int} (hok : Ok0 T) (h1 : 1 ≤ T.length) (hl : ¬ Lst T) : ∀ (i : Nat) (n n' : List Int), i ≤ T.length → n.length = T.length → n'.length = T.length + 1 →
    (∀ j, j < T.length → (j = T.length - 1 ∨ ∃ i', i ≤ i' ∧ i' < T.length ∧ (j : Int) ∈ (pt T i').kids) → n'.getD j 0 = n.getD j 0 + d) →
    ∀ j, j < T.length → (j = T.length - 1 ∨ ∃ i', i' < T.length ∧ (j : Int) ∈ (pt T i').kids) → (nsts (T ++ [p]) i n').getD j 0 = (nsts T i n).getD j 0 + d
  | 0, n, n', _, _, _, h, j, hj, ha => by
    refine h j hj ?_
    rcases ha with ha | ⟨i', h1, h2⟩
    · exact Or.inl ha
    · exact Or.inr ⟨i', Nat.zero_le _, h1, h2⟩
  | i + 1, n, n', hi, hn, hn', h, j, hj, ha => by
    have hO := hok i (by omega)
    have hO' : OkA (T ++ [p]) i := ok_app (by omega) hO
    have ep : pt (T ++ [p]) i = pt T i := pt_app (by omega)
    rw [nsts, nsts]
    refine nsts_shift hok h1 hl i _ _ (by omega) (by rw [inn_len]; exact hn) (by rw [inn_len]; exact hn') (fun j hj hA => ?_) j hj ha
    rw [ep, inn_get _ i _ _ j (fun x hx => hO.lt hx) (by omega), inn_get _ i _ _ j (fun x hx => hO.lt hx) (by omega), ep, pt_app hj]
    by_cases e : (j : Int) ∈ (pt T i).kids
    · rw [if_pos e, if_pos e]
      have hpar : n'.getD i 0 = n.getD i 0 + d := by
        refine h i (by omega) ?_
        by_cases e2 : i = T.length - 1
        · exact Or.inl e2
        · right
          rcases par_any T.length (fun j hj => hok j hj) i (by omega) with hf | ⟨i', h1', h2'⟩
          · rw [fre_one h1 hl] at hf
            simp at hf
            omega
          · have := (hok i' h1').lt h2'
            exact ⟨i', by omega, h1', h2'⟩
      rw [hpar]
      omega
    · rw [if_neg e, if_neg e]
      refine h j hj ?_
      rcases hA with hA | ⟨i', h2, h3, h4⟩
      · exact Or.inl hA
      · by_cases e2 : i' = i
        · rw [e2] at h4
          exact absurd h4 e
        · exact Or.inr ⟨i', by omega, h3, h4⟩
/-- The nests of a tree with a part over its whole. -/
theorem nests_over {T : List Pt} {k : Int} {tx : ByteArray} (h1 : 1 ≤ T.length) (hok : Ok0 T) (hl : ¬ Lst T) (hk : OvK k tx) :
    (∀ j, j < T.length → (nests (T ++ [overP k tx T.length])).getD j 0 = (nests T).getD j 0 + btw k (pt T (T.length - 1)).kind) ∧ (nests (T ++ [overP k tx T.length])).getD T.length 0 = 0 := by
  have hov := ok_over h1 hok hl hk
  have e2 := pt_last T (overP k tx T.length)
  have hlen : (T ++ [overP k tx T.length]).length = T.length + 1 := by simp
  have hO := hov.1 T.length (by omega)
  obtain ⟨n', hn'⟩ : ∃ n', n' = inn (T ++ [overP k tx T.length]) T.length [((T.length - 1 : Nat) : Int)] (List.replicate (T.length + 1) 0) := ⟨_, rfl⟩
  have hne : nests (T ++ [overP k tx T.length]) = nsts (T ++ [overP k tx T.length]) T.length n' := by
    unfold nests
    rw [hlen, nsts, e2, hn']
    rfl
  have hg : ∀ j, n'.getD j 0 = if j = T.length - 1 then btw k (pt T (T.length - 1)).kind else 0 := by
    intro j
    have h0 : ∀ j, (List.replicate (T.length + 1) (0 : Int)).getD j 0 = 0 := by
      intro j
      rw [List.getD_eq_getElem?_getD, List.getElem?_replicate]
      split <;> rfl
    rw [hn', inn_get _ _ _ _ j (fun x hx => by simp at hx; omega) (by simp), h0, h0, e2]
    by_cases e : j = T.length - 1
    · rw [if_pos (by simp; omega), if_pos e, e, pt_app (by omega)]
      simp [overP]
    · rw [if_neg (by simp; omega), if_neg e]
  have hn'l : n'.length = T.length + 1 := by rw [hn', inn_len]; simp
  constructor
  · intro j hj
    rw [hne]
    refine nsts_shift hok h1 hl T.length (List.replicate T.length 0) n' (Nat.le_refl _) (by simp) hn'l (fun j hj ha => ?_) j hj ?_
    · have h0 : (List.replicate T.length (0 : Int)).getD j 0 = 0 := by
        rw [List.getD_eq_getElem?_getD, List.getElem?_replicate]
        split <;> rfl
      rw [hg, h0]
      rcases ha with ha | ⟨i', h2, h3, _⟩
      · rw [if_pos ha]
        omega
      · omega
    · by_cases e : j = T.length - 1
      · exact Or.inl e
      · right
        rcases par_any T.length (fun j hj => hok j hj) j hj with hf | ⟨i', h1', h2'⟩
        · rw [fre_one h1 hl] at hf
          simp at hf
          omega
        · exact ⟨i', h1', h2'⟩
  · rw [hne]
    have : ∀ (i : Nat) (n : List Int), i ≤ T.length → n.length = T.length + 1 → (nsts (T ++ [overP k tx T.length]) i n).getD T.length 0 = n.getD T.length 0 := fun i n hi hn => nsts_keep hov.1 i n T.length hi (by omega) (by omega)
    rw [this _ _ (Nat.le_refl _) hn'l, hg, if_neg (by omega)]
theorem nest_over {T : List Pt} {k m : Int} {tx : ByteArray} (h1 : 1 ≤ T.length) (hok : Ok0 T) (hl : ¬ Lst T) (hk : OvK k tx) (hm : NestR T m) : NestR (T ++ [overP k tx T.length]) (m + btw k (pt T (T.length - 1)).kind) := by
  obtain ⟨a, b⟩ := nests_over h1 hok hl hk
  have hlen : (T ++ [overP k tx T.length]).length = T.length + 1 := by simp
  obtain ⟨h2, j0, h3, h4⟩ := hm
  have hb := btw_le k (pt T (T.length - 1)).kind
  have hs := nests_sm hok
  constructor
  · intro j hj
    rw [hlen] at hj
    by_cases e : j < T.length
    · rw [a j e]
      have := h2 j e
      omega
    · obtain rfl : j = T.length := by omega
      rw [b]
      have := (hs j0 (by rw [nests_len]; exact h3)).1
      omega
  · exact ⟨j0, by omega, by rw [a j0 h3, h4]⟩
theorem least {p : Nat → Prop} {n : Nat} (h : p n) : ∃ a, p a ∧ a ≤ n ∧ ∀ j, j < a → ¬ p j := by
  induction n using Nat.strongRecOn with
  | ind n ih =>
    by_cases e : ∃ j, j < n ∧ p j
    · obtain ⟨j, h1, h2⟩ := e
      obtain ⟨a, h3, h4, h5⟩ := ih j h1 h2
      exact ⟨a, h3, by omega, h5⟩
    · exact ⟨n, h, Nat.le_refl _, fun j hj hp => e ⟨j, hj, hp⟩⟩
theorem res_over {T : List Pt} {k m : Int} {tx : ByteArray} (h1 : 1 ≤ T.length) (h2 : T.length < 1000) (hok : Ok0 T) (hl : ¬ Lst T) (hk : OvK k tx) (hm : NestR T m) :
    (m + btw k (pt T (T.length - 1)).kind ≤ 32 → Res (T ++ [overP k tx T.length]) 0 0) ∧ (32 < m + btw k (pt T (T.length - 1)).kind → ∃ a, Res (T ++ [overP k tx T.length]) 122 a) := by
  have hn := nest_over h1 hok hl hk hm
  obtain ⟨ho, hl'⟩ := ok_over h1 hok hl hk
  have hlen : (T ++ [overP k tx T.length]).length = T.length + 1 := by simp
  constructor
  · intro h
    exact Or.inr (Or.inr ⟨by omega, by omega, Or.inr (Or.inr ⟨ho, hl', Or.inr ⟨fun j hj => Int.le_trans (hn.1 j hj) h, rfl, rfl⟩⟩)⟩)
  · intro h
    obtain ⟨j, h3, h4⟩ := hn.2
    obtain ⟨a, h5, h6, h7⟩ := least (p := fun j => 32 < (nests (T ++ [overP k tx T.length])).getD j 0) (n := j) (by simp only [h4]; exact h)
    exact ⟨a, Or.inr (Or.inr ⟨by omega, by omega, Or.inr (Or.inr ⟨ho, hl', Or.inl ⟨⟨by omega, h5, fun i hi => Int.not_lt.1 (h7 i hi)⟩, rfl⟩⟩)⟩)⟩
theorem res_great {T : List Pt} {p : Pt} (h : T.length = 1000) : Res (T ++ [p]) 130 1000 := Or.inr (Or.inl ⟨by simp [h], rfl, rfl⟩)
theorem kidL_app {T : List Pt} {p : Pt} (X : List (List UInt8)) (k x : Int) (hx : 0 ≤ x ∧ x < T.length) : kidL (T ++ [p]) X k x = kidL T X k x := by
  unfold kidL
  rw [pt_app (by omega)]
theorem txs_app {T : List Pt} {p : Pt} (hok : Ok0 T) : ∀ i, i ≤ T.length → txs (T ++ [p]) i = txs T i
  | 0, _ => rfl
  | i + 1, h => by
    have hO := hok i (by omega)
    rw [txs, txs, txs_app hok i (by omega), pt_app (by omega)]
    congr 2
    unfold ptx
    congr 1
    unfold ksL
    apply List.map_congr_left
    intro x hx
    have := hO.lt hx
    exact kidL_app _ _ _ (by omega)
/-- The text of the part over a whole. -/
def ovT (k : Int) (q : List UInt8) (T : List Pt) : List UInt8 := txK k q 0 [kidL T (txs T T.length) k ((T.length - 1 : Nat) : Int)]
theorem txs_over {T : List Pt} {k : Int} {tx : ByteArray} (h1 : 1 ≤ T.length) (hok : Ok0 T) : txs (T ++ [overP k tx T.length]) (T.length + 1) = txs T T.length ++ [ovT k (quoteL tx.data.toList) T] := by
  rw [txs, txs_app hok _ (Nat.le_refl _), pt_last]
  congr 2
  unfold ptx ksL overP ovT
  simp only [List.map_cons, List.map_nil]
  rw [kidL_app _ _ _ (by omega)]
theorem shrt_over {T : List Pt} {k : Int} {tx : ByteArray} (h1 : 1 ≤ T.length) (hok : Ok0 T) (hs : Shrt T T.length) (hl : (ovT k (quoteL tx.data.toList) T).length ≤ 4096) : Shrt (T ++ [overP k tx T.length]) (T ++ [overP k tx T.length]).length := by
  have hlen : (T ++ [overP k tx T.length]).length = T.length + 1 := by simp
  rw [hlen]
  intro j hj
  rw [txs_over h1 hok, List.getD_eq_getElem?_getD]
  by_cases e : j < T.length
  · rw [List.getElem?_append_left (by rw [txs_len]; exact e), ← List.getD_eq_getElem?_getD]
    exact hs j e
  · obtain rfl : j = T.length := by omega
    rw [List.getElem?_append_right (by rw [txs_len]; omega), txs_len]
    simpa using hl
theorem last_over {T : List Pt} {k : Int} {tx : ByteArray} (h1 : 1 ≤ T.length) (hok : Ok0 T) : (txs (T ++ [overP k tx T.length]) (T ++ [overP k tx T.length]).length).getD ((T ++ [overP k tx T.length]).length - 1) [] = ovT k (quoteL tx.data.toList) T := by
  have hlen : (T ++ [overP k tx T.length]).length = T.length + 1 := by simp
  rw [hlen, txs_over h1 hok, List.getD_eq_getElem?_getD, Nat.add_sub_cancel, List.getElem?_append_right (by rw [txs_len]; omega), txs_len]
  simp
/-- So many kids are there, and parts that are nobody's. -/
theorem sum_kids {T : List Pt} : ∀ i, (∀ j, j < i → OkA T j) → sumK T i + (fre T i).length = T.length + i
  | 0, _ => by simp [sumK, fre]
  | i + 1, hok => by
    have h := sum_kids i (fun j hj => hok j (by omega))
    have hO := hok i (by omega)
    have := hO.many
    rw [sumK, fre, List.length_append, List.length_take]
    simp only [List.length_cons, List.length_nil]
    omega
end Go.Proofs.YtdnoagebcolgbaaDoor.L
namespace Go.Proofs.YtdnoagebcolgbaaDoor.L
open Go.RowKit Go.Shelf
set_option linter.unusedVariables false
set_option maxHeartbeats 4000000 in
set_option maxRecDepth 100000 in
theorem large_is (a : Option Addr) (T : List Pt) (cap : Nat) (w : World) (hT : PL w a T) (hG : GdT T) :
    Calls Tryd.prog 22 #[.agg #[.slice a T.length cap]] w fun e w' => (e = .returned (.bool false) ∧ sumK T T.length ≤ 100000 ∧ Below w.heap.size w w') ∨ (e = .returned (.bool true) ∧ 100000 < sumK T T.length ∧ Below w.heap.size w w') := by
  obtain ⟨L, hLe⟩ : ∃ L, L = T.length := ⟨_, rfl⟩
  have HT := hid hT
  have HL := hid hLe
  have HG := hid hG
  have hL : L ≤ 140737488355328 := by rw [hLe]; exact hG.1
  rw [← hLe]
  have HX0 := hid (Boxed.new w 24 (.slice a L cap))
  have HB0 := hid (belowA w (.cells #[.slice a L cap] 24))
  clear hT hLe hG
  go_enter Tryd.func22, Tryd.ntmps22
  go_upto_region 1 with (fail)
  have HTX := hid (HT.out.low HB0.out)
  generalize hXe : w.alloc (.cells #[.slice a L cap] 24) = X at *
  clear hXe
  have xt := HX0.out.cell
  go_wp2_with fail
  go_loopw [3, 4] (fun n i wr => ∃ (k s : Nat), k ≤ L ∧ i = .int .i64 (k : Int) ∧ n = .int .i64 (s : Int) ∧ s ≤ 281474976710656 ∧ Hid (s = sumK T k) ∧ wr = X) (fun _ i _ => L - (intOf i).toNat)
  case atStart => exact ⟨0, L, Nat.zero_le _, rfl, rfl, by omega, hid HL.out, rfl⟩
  case round =>
    obtain ⟨k, s, hk, rfl, rfl, hs, HS, rfl⟩ := hrel
    by_cases hkl : k < L
    · by_cases hs1 : s ≤ 100000
      · have hki : (k : Int) < (L : Int) := by omega
        have hsi : (s : Int) ≤ 100000 := by omega
        rcases HTX.out with h0 | ⟨b2, o2, rfl, hb2, hc2⟩
        · have := HL.out; omega
        obtain ⟨ka, kc, q0, _, _, q3, rk⟩ := hc2 k (by rw [← HL.out]; omega)
        have hkl2 := HG.out.2 k (by rw [← HL.out]; omega)
        obtain ⟨m, hm⟩ : ∃ m, m = (pt T k).kids.length := ⟨_, rfl⟩
        rw [← hm] at hkl2 q3
        have HM := hid hm
        clear hm rk hc2 q0
        have hk4 : ((k : Int) * 4).toNat = k * 4 := by omega
        go_wp2_with fail
        refine ⟨⟨k + 1, s + m, by omega, by simp, by simp, by omega, hid (by rw [HS.out, HM.out]; rfl), trivial⟩, ?_⟩
        show L - ((k : Int) + 1).toNat < L - ((k : Int)).toNat
        omega
      · have hki : (k : Int) < (L : Int) := by omega
        have hsi : ¬ ((s : Int) ≤ 100000) := by omega
        have hsj : (100000 : Int) < (s : Int) := by omega
        go_wp2_with fail
        go_ret
        have h9 := sumK_mono T (Nat.le_of_lt hkl)
        have h8 := HS.out
        exact Or.inr ⟨rfl, by first | omega | (rw [← HL.out]; omega), HB0.out⟩
    · have hki : ¬ ((k : Int) < (L : Int)) := by omega
      by_cases hs1 : s ≤ 100000
      · have hsi : ¬ ((100000 : Int) < (s : Int)) := by omega
        go_wp2_with fail
        go_ret
        refine Or.inl ⟨rfl, ?_, HB0.out⟩
        have : L = k := by omega
        rw [this, ← HS.out]
        exact hs1
      · have hsi : (100000 : Int) < (s : Int) := by omega
        go_wp2_with fail
        go_ret
        have h7 : L = k := by omega
        have h8 := HS.out
        exact Or.inr ⟨rfl, by first | (rw [h7]; omega) | (rw [← HL.out, h7]; omega), HB0.out⟩
theorem row_mono {W : World} {base base' n s : Nat} {e : TypeId} {v : Value} {xs : List Value} (h : W.ownsRow base e s v n xs) (hb : base' ≤ base) : W.ownsRow base' e s v n xs := by
  refine ⟨h.1, ?_⟩
  rcases h.2 with e | ⟨g, cap, cur, e, hg, r⟩
  · exact .inl e
  · exact .inr ⟨g, cap, cur, e, Nat.le_trans hb hg, r⟩
theorem OwnP.mono {W : World} {base base' : Nat} {v : Value} {T : List Pt} {ks : Nat → Value} {k : Nat} (h : OwnP W base v T ks k) (hb : base' ≤ base) : OwnP W base' v T ks k := ⟨row_mono h.row hb, fun j hj => row_mono (h.kids j hj) hb⟩
set_option maxHeartbeats 4000000 in
set_option maxRecDepth 100000 in
theorem copyo_any (a : Option Addr) (T : List Pt) (cap : Nat) (w : World) (hT : PLs w a T) (hG : GdT T) (hsm : sumK T T.length ≤ 100000) :
    Calls Tryd.prog 11 #[.agg #[.slice a T.length cap]] w fun e w' => ∃ a' cap' ks, e = .returned (.agg #[.slice a' T.length cap']) ∧ OwnP w' w.heap.size (.slice a' T.length cap') T ks T.length ∧ Below w.heap.size w w' := by
  obtain ⟨L, hLe⟩ : ∃ L, L = T.length := ⟨_, rfl⟩
  have HT := hid hT
  have HL := hid hLe
  have HG := hid hG
  have hL : L ≤ 140737488355328 := by rw [hLe]; exact hG.1
  have HLG := hid (fun W (h : PL W a T) => large_is a T cap W h hG)
  have HSM := hid hsm
  rw [← hLe] at HLG HSM ⊢
  have hb0 := belowA w (.cells #[.slice a L cap] 24)
  have hb1 := hb0.alloc (by simp) (.cells #[.slice none 0 0] 24)
  have HB1 := hid hb1
  have HX0 := hid (show Boxed ((w.alloc (.cells #[.slice a L cap] 24)).alloc (.cells #[.slice none 0 0] 24)) w.heap.size 24 (.slice a L cap) from (Boxed.new w _ _).alloc _)
  have HX1 := hid (show Boxed ((w.alloc (.cells #[.slice a L cap] 24)).alloc (.cells #[.slice none 0 0] 24)) (w.heap.size + 1) 24 (.slice none 0 0) by
    have := Boxed.new (w.alloc (.cells #[.slice a L cap] 24)) 24 (.slice none 0 0)
    rwa [World.size_alloc] at this)
  have HXS := hid (show ((w.alloc (.cells #[.slice a L cap] 24)).alloc (.cells #[.slice none 0 0] 24)).heap.size = w.heap.size + 1 + 1 by simp)
  clear hT hLe hG hb0 hb1 hsm
  go_enter Tryd.func11, Tryd.ntmps11
  go_upto_region 1 with (fail)
  have HTX := hid (HT.out.low HB1.out)
  generalize (w.alloc (.cells #[.slice a L cap] 24)).alloc (.cells #[.slice none 0 0] 24) = X at *
  have xt := HX0.out.cell
  go_upto_region 2 with (go_at_call 22; refine (HLG.out X HTX.out.pl).mono ?_; rintro e w1 (⟨rfl, hs, l1⟩ | ⟨rfl, hs, l1⟩))
  · have hL5 : L ≤ 100000 := by
      have h0 := sumK_mono T (Nat.zero_le L)
      have h1 : sumK T 0 = L := HL.out.symm
      omega
    have HS := hid hs
    have HW1 := hid (show Below w.heap.size w w1 from HB1.out.trans (l1.mono (by rw [HXS.out]; omega)))
    have HY0 := hid (boxed_low HX0.out l1)
    have HY1 := hid (boxed_low HX1.out l1)
    have HWS := hid (show w.heap.size + 1 < w1.heap.size from HY1.out.lt)
    have HLT := hid (Nat.lt_of_succ_lt HWS.out)
    clear hs l1 xt
    go_wp2_with fail
    go_loopw [4, 5] (fun v i wr => ∃ (k : Nat) (ks : Nat → Value), k ≤ L ∧ i = .int .i64 (k : Int) ∧ Hid (Below w1.heap.size w1 wr) ∧ Hid (OwnP wr w1.heap.size v T ks k)) (fun _ i _ => L - (intOf i).toNat)
    case atStart => exact ⟨0, fun _ => undef, Nat.zero_le _, rfl, hid (Below.refl _ _), hid ⟨⟨rfl, .inl ⟨rfl, rfl⟩⟩, fun j hj => absurd hj (Nat.not_lt_zero j)⟩⟩
    case round =>
      obtain ⟨k, ks, hk, rfl, HB, HO⟩ := hrel
      have xt := (show Boxed wr w.heap.size 24 (.slice a L cap) from boxed_low HY0.out HB.out).cell
      by_cases hkl : k < L
      · have hki : (k : Int) < (L : Int) := by omega
        have hk0 : (0 : Int) ≤ (k : Int) := by omega
        have hts := HT.out.low (HW1.out.trans (HB.out.mono (Nat.le_of_lt HLT.out)))
        have hgk := sumK_kid T hkl
        rcases hts with h0 | ⟨b2, o2, rfl, hb2, hc2⟩
        · have := HL.out; omega
        obtain ⟨ka, kc, q0, q1, q2, q3, rk, hno⟩ := hc2 k (by rw [← HL.out]; exact hkl)
        have hgl := Nat.le_trans hgk HS.out
        obtain ⟨p, hp⟩ : ∃ p, p = pt T k := ⟨_, rfl⟩
        rw [← hp] at q0 q1 q2 q3 rk hgl
        have HPT := hid hp
        obtain ⟨kd, tx, nu, zs⟩ := p
        simp only at q0 q1 q2 q3 rk hgl
        obtain ⟨n, hn⟩ : ∃ n, n = zs.length := ⟨_, rfl⟩
        rw [← hn] at q3 hgl
        have HN := hid hn
        have RK := hid rk
        have HNO := hid hno
        have hk4 : ((k : Int) * 4).toNat = k * 4 := by omega
        have hvb := belowA wr (.cells #[.int .i64 kd, .string tx, .int .i64 nu, .slice ka n kc] 45)
        have HVB := hid hvb
        have HVP := hid (heap_alloc_new wr (.cells #[.int .i64 kd, .string tx, .int .i64 nu, .slice ka n kc] 45))
        have HVS := hid (show (wr.alloc (.cells #[.int .i64 kd, .string tx, .int .i64 nu, .slice ka n kc] 45)).heap.size = wr.heap.size + 1 by simp)
        clear hc2 rk hno hp hn hvb hgk
        go_upto_region 9 with (fail)
        have RV := hid (RK.out.low HVB.out (Nat.le_refl _))
        have HP9 := hid (show Below wr.heap.size wr (wr.alloc (.cells #[.int .i64 kd, .string tx, .int .i64 nu, .slice ka n kc] 45)) from HVB.out)
        clear q0 q1 q2 q3 hb2 xt
        generalize wr.alloc (.cells #[.int .i64 kd, .string tx, .int .i64 nu, .slice ka n kc] 45) = V at *
        have HWB := hid (show w1.heap.size ≤ wr.heap.size from HB.out.size)
        generalize hPe : wr.heap.size = P at *
        have HPE := hid hPe
        clear hPe
        have x3 := (cells4 HVP.out).2.2.2
        have N0 := hid (own_new0 V V.heap.size (Nat.le_refl _))
        have HVA := hid (belowA V (.cells #[] 3))
        have RVA := hid (RV.out.low HVA.out (Nat.le_refl _))
        have HPV := hid (show P < V.heap.size by rw [HVS.out]; exact Nat.lt_succ_self _)
        have HBD := hid (show ([] : List Int).length + zs.length ≤ 17592186044000 by rw [List.length_nil, ← HN.out]; omega)
        have HSZ := hid (show V.heap.size ≤ (V.alloc (.cells #[] 3)).heap.size from HVA.out.size)
        have x3a := (HVA.out.cell (p := ⟨P, 3, none⟩) HPV.out).trans x3
        have hPne : P ≠ V.heap.size := Nat.ne_of_lt HPV.out
        go_wp2_with (at_builtin; refine append_src rfl _ _ rfl V.heap.size _ [] rfl N0.out ka n kc zs HN.out rfl HNO.out RVA.out HBD.out HSZ.out ?_)
        intro v1 w3 o1 g1
        obtain ⟨ka1, kc1, rfl⟩ := own_form o1
        have hk3 : w3.heap[P]? = V.heap[P]? := (g1.block P (Nat.lt_of_lt_of_le HPV.out HVA.out.size) (by simp [Value.ownBlock]; exact hPne)).trans (HVA.out.block P HPV.out)
        have e3 : w3.heap[P]? = some (.cells #[.int .i64 kd, .string tx, .int .i64 nu, .slice ka n kc] 45 (0, 0)) := hk3.trans HVP.out
        have f3 : w3.frozen? ⟨P, 3, none⟩ = false := by simp [World.frozen?, e3]
        obtain ⟨d0, d1, d2, d3⟩ := cells4 e3
        have HE3 := hid e3
        have O1 := hid o1
        have G1 := hid g1
        clear o1 g1 hk3 e3 x3 x3a
        go_upto_region 10 with (fail)
        have e4 : (w3.setCell ⟨P, 3, none⟩ (.slice ka1 zs.length kc1)).heap[P]? = some (.cells #[.int .i64 kd, .string tx, .int .i64 nu, .slice ka1 zs.length kc1] 45 (0, 0)) := by
          rw [setCell_eq_setRow _ _ _ _ _ _ _ HE3.out, setRow_heap _ _ _ _ _ _ HE3.out]
          rfl
        have b3 : Below V.heap.size V w3 := ((belowA V (.cells #[] 3)).grown G1.out HVA.out.size (fun k hk => by simp [Value.ownBlock] at hk; omega))
        have b4 : Below P wr (w3.setCell ⟨P, 3, none⟩ (.slice ka1 zs.length kc1)) := (HP9.out.trans (b3.mono (Nat.le_of_lt HPV.out))).setCell (p := ⟨P, 3, none⟩) (Nat.le_refl _) _
        have HB4 := hid b4
        have HO4 := hid (HO.out.low (show Below wr.heap.size wr _ by rw [HPE.out]; exact b4))
        have OK4 := hid (show OwnI (w3.setCell ⟨P, 3, none⟩ (.slice ka1 zs.length kc1)) w1.heap.size (.slice ka1 zs.length kc1) zs from own_mono (ownsRow_setCell_below O1.out (a := ⟨P, 3, none⟩) HPV.out _) (by have := HWB.out; have := HPV.out; omega))
        have ⟨x0, x1, x2, x3⟩ := cells4 e4
        have HW4 := hid (show w1.heap.size ≤ (w3.setCell ⟨P, 3, none⟩ (.slice ka1 zs.length kc1)).heap.size by have h1 := b4.size; have h2 := HWB.out; rw [HPE.out] at h1; omega)
        clear e4 b3 b4 d0 d1 d2 d3 f3
        generalize w3.setCell ⟨P, 3, none⟩ (.slice ka1 zs.length kc1) = W4 at *
        obtain ⟨i0, hi, hz0, hz1, hz2⟩ := info_parts infoP
        have HRW := hid (HO4.out.row.alloc (.cells #[.int .i64 kd, .string tx, .int .i64 nu, .slice ka1 zs.length kc1] 45))
        have HFN := hid (cell_four_new W4 (.int .i64 kd) (.string tx) (.int .i64 nu) (.slice ka1 zs.length kc1) 45)
        have HA4 := hid (belowA W4 (.cells #[.int .i64 kd, .string tx, .int .i64 nu, .slice ka1 zs.length kc1] 45))
        have HO5 := hid (HO4.out.low HA4.out)
        have OK5 := hid (own_low OK4.out HA4.out)
        go_wp2_with (at_builtin; refine wpList_append_own _ rfl _ _ 22 rfl w1.heap.size 45 i0 (.agg #[.int .i64 0, .string ByteArray.empty, .int .i64 0, .slice none 0 0]) 4 56 Tryd.underlying22 hi hz0 hz1 hz2 rfl (by decide) _ _ _ rfl HRW.out ⟨W4.heap.size, 0, none⟩ 1 1 [.int .i64 kd, .string tx, .int .i64 nu, .slice ka1 zs.length kc1] rfl rfl HFN.out (fun x hx => by simp at hx; rcases hx with rfl | rfl | rfl | rfl <;> rfl) (by unfold maxLen; omega) (by omega) (Nat.le_trans HW4.out HA4.out.size) ?_)
        intro v5 w5 hr5 hg5 hn5
        have HM := hid (OwnP.more HO5.out (show OwnI _ w1.heap.size (.slice ka1 zs.length kc1) (pt T k).kids by rw [← HPT.out]; exact OK5.out) (by rw [← HPT.out]; exact hr5) hg5)
        have HB5 := hid (show Below w1.heap.size w1 w5 by
          have h1 : Below w1.heap.size w1 W4 := HB.out.trans (HB4.out.mono HWB.out)
          refine (h1.trans (HA4.out.mono HW4.out)).grown hg5 (Nat.le_trans HW4.out HA4.out.size) (fun k hk => ?_)
          exact (HO5.out.row.lt k hk).1)
        clear hr5 hg5 hn5 hi hz0 hz1 hz2 x0 x1 x2 x3
        go_wp2_with fail
        refine ⟨⟨k + 1, _, by omega, by simp, HB5, HM⟩, ?_⟩
        show L - ((k : Int) + 1).toNat < L - ((k : Int)).toNat
        omega
      · have hki : ¬ ((k : Int) < (L : Int)) := by omega
        have ekL : k = L := by omega
        subst ekL
        have hy1 := boxed_low HY1.out HB.out
        have xc := hy1.cell
        have xf := hy1.frozen
        have HXC := hid hy1
        clear hy1
        have HO2 := hid (HO.out.set_low (p := ⟨w.heap.size + 1, 0, none⟩) HWS.out u4)
        rw [HL.out] at HO2
        obtain ⟨a', cap', hv, hp⟩ := HO2.out.pl
        rw [← HL.out] at hv HO2
        clear hp
        subst hv
        have HP := hid (HO2.out.mono (base' := w.heap.size) (Nat.le_of_lt HLT.out))
        have HW3 := hid ((HW1.out.trans (HB.out.mono (Nat.le_of_lt HLT.out))).setCell (p := ⟨w.heap.size + 1, 0, none⟩) (Nat.le_succ _) (.slice a' k cap'))
        go_wp2_with fail
        exact ⟨rfl, .agg #[.slice a' k cap'], results_cell_row Tryd.results11 _ _ (w.heap.size + 1) 24 #[.slice a' k cap'] (0, 0) _ rfl (HXC.out.set _) Tryd.underlying24 rfl (by kernel_rfl), a', cap', rfl, ⟨ks, HP.out⟩, HW3.out⟩
  · have := HSM.out
    omega
end Go.Proofs.YtdnoagebcolgbaaDoor.L
namespace Go.Proofs.YtdnoagebcolgbaaDoor.L
open Go.RowKit Go.Shelf
set_option linter.unusedVariables false
theorem CP_app (T : List Pt) (p : Pt) (ks : Nat → Value) : ∀ k, k ≤ T.length → CP (T ++ [p]) ks k = CP T ks k
  | 0, _ => rfl
  | k + 1, h => by
    rw [CP, CP, CP_app T p ks k (by omega), pt_app (by omega)]
theorem OwnP.app {W : World} {base : Nat} {v : Value} {T : List Pt} {ks : Nat → Value} (p : Pt) (h : OwnP W base v T ks T.length) : OwnP W base v (T ++ [p]) ks T.length :=
  ⟨by rw [CP_app T p ks _ (Nat.le_refl _)]; exact h.row, fun j hj => by rw [pt_app hj]; exact h.kids j hj⟩
theorem row_far {W : World} {base s n c : Nat} {e t : TypeId} {v : Value} {xs : List Value} {cs : Array Value} {fz : Nat × Nat} (h : W.ownsRow base e s v n xs) (hc : W.heap[c]? = some (.cells cs t fz)) (hne : e ≠ t) : v.ownBlock ≠ some c := by
  rcases h.2 with ⟨rfl, _⟩ | ⟨g, cap, cur, rfl, hb, hgg, _⟩
  · intro h9; cases h9
  · intro h9
    simp only [Value.ownBlock] at h9
    cases h9
    rw [hgg] at hc
    cases hc
    exact hne rfl
theorem OwnP.set_box {W : World} {base c : Nat} {v : Value} {T : List Pt} {ks : Nat → Value} {k : Nat} {cs : Array Value} {fz : Nat × Nat} (h : OwnP W base v T ks k) (hc : W.heap[c]? = some (.cells cs 24 fz)) (u : Value) : OwnP (W.setCell ⟨c, 0, none⟩ u) base v T ks k :=
  ⟨ownsRow_setCell_other h.row (row_far h.row hc (by decide)) u, fun j hj => ownsRow_setCell_other (h.kids j hj) (row_far (h.kids j hj) hc (by decide)) u⟩
theorem OwnP.set_part {W : World} {base c i : Nat} {v : Value} {T : List Pt} {ks : Nat → Value} {k : Nat} (h : OwnP W base v T ks k) (hc : c < base) (u : Value) : OwnP (W.setCell ⟨c, i, none⟩ u) base v T ks k :=
  ⟨ownsRow_setCell_below h.row (a := ⟨c, i, none⟩) hc u, fun j hj => ownsRow_setCell_below (h.kids j hj) (a := ⟨c, i, none⟩) hc u⟩
theorem one_int (w : World) (x : Int) (base : Nat) (hb : base ≤ w.heap.size) : OwnI (w.alloc (.cells #[.int .i64 x] 3)) base (.slice (some ⟨w.heap.size, 0, none⟩) 1 1) [x] := World.ownsRow_lit (base := base) (e := 3) (size := 1) w #[.int .i64 x] 1 hb (by decide) (by simp)
set_option maxHeartbeats 8000000 in
set_option maxRecDepth 100000 in
theorem hung_any (a : Option Addr) (T : List Pt) (cap : Nat) (k : Int) (tx : ByteArray) (w : World) (hT : PLs w a T) (hG : GdT T) (hsm : sumK T T.length ≤ 100000) (h1 : 1 ≤ T.length) (hL : T.length ≤ 1000) :
    Calls Tryd.prog 16 #[.agg #[.slice a T.length cap], .agg #[.int .i64 k, .string tx, .int .i64 0, .slice none 0 0]] w fun e w' => ∃ a' cap', e = .returned (.agg #[.slice a' (T ++ [overP k tx T.length]).length cap']) ∧ PLs w' a' (T ++ [overP k tx T.length]) ∧ Below w.heap.size w w' := by
  obtain ⟨L, hLe⟩ : ∃ L, L = T.length := ⟨_, rfl⟩
  have HLEN := hid (show (T ++ [overP k tx T.length]).length = L + 1 by rw [hLe]; simp)
  have HT := hid hT
  have HL := hid hLe
  have HCP := hid (fun W h => copyo_any a T cap W h hG hsm)
  rw [← hLe] at HCP h1 hL HLEN ⊢
  obtain ⟨T', hT'⟩ : ∃ T', T' = T ++ [overP k tx L] := ⟨_, rfl⟩
  rw [← hT'] at HLEN ⊢
  have HTE := hid hT'
  rw [HLEN.out]
  have b0 := belowA w (.cells #[.slice a L cap] 24)
  have b1 := belowA (w.alloc (.cells #[.slice a L cap] 24)) (.cells #[.int .i64 k, .string tx, .int .i64 0, .slice none 0 0] 45)
  have b2 := belowA ((w.alloc (.cells #[.slice a L cap] 24)).alloc (.cells #[.int .i64 k, .string tx, .int .i64 0, .slice none 0 0] 45)) (.cells #[.slice none 0 0] 24)
  have HB := hid (bch (bch b0 b1) b2)
  have HX0 := hid (boxed_low (boxed_low (Boxed.new w 24 (.slice a L cap)) b1) b2)
  have hx1 := heap_alloc_new (w.alloc (.cells #[.slice a L cap] 24)) (.cells #[.int .i64 k, .string tx, .int .i64 0, .slice none 0 0] 45)
  have HX1 := hid ((b2.block _ (lt_blk hx1)).trans hx1)
  have HX2 := hid (Boxed.new ((w.alloc (.cells #[.slice a L cap] 24)).alloc (.cells #[.int .i64 k, .string tx, .int .i64 0, .slice none 0 0] 45)) 24 (.slice none 0 0))
  have HSZ := hid (show (((w.alloc (.cells #[.slice a L cap] 24)).alloc (.cells #[.int .i64 k, .string tx, .int .i64 0, .slice none 0 0] 45)).alloc (.cells #[.slice none 0 0] 24)).heap.size = w.heap.size + 1 + 1 + 1 by simp)
  simp only [World.size_alloc] at HX1 HX2
  clear hT hG hsm hLe hT' b0 b1 b2 hx1
  go_enter Tryd.func16, Tryd.ntmps16
  go_upto_region 1 with (fail)
  have HTX := hid (HT.out.low HB.out)
  generalize ((w.alloc (.cells #[.slice a L cap] 24)).alloc (.cells #[.int .i64 k, .string tx, .int .i64 0, .slice none 0 0] 45)).alloc (.cells #[.slice none 0 0] 24) = X at *
  have xt := HX0.out.cell
  go_upto_region 2 with (go_at_call 11; refine (HCP.out X HTX.out).mono ?_; rintro e w1 ⟨a1, c1, ks, rfl, ho, l1⟩; have HO := hid ho; have L1 := hid l1; clear ho l1)
  have HOR := hid (show w.heap.size < w.heap.size + 1 ∧ w.heap.size + 1 < w.heap.size + 1 + 1 ∧ w.heap.size + 1 + 1 < X.heap.size by rw [HSZ.out]; omega)
  clear xt HSZ
  generalize hbr : w.heap.size + 1 + 1 = br at *
  generalize hbp : w.heap.size + 1 = bp at *
  clear hbr hbp
  have HY := hid (belowA w1 (.cells #[.slice a1 L c1] 24))
  have HX5 := hid (Boxed.new w1 24 (.slice a1 L c1))
  have HOY := hid (HO.out.low HY.out)
  have M1 := hid (show Below X.heap.size X _ from bch L1.out HY.out)
  have HP5 := hid (show X.heap.size ≤ w1.heap.size from L1.out.size)
  generalize hYe : w1.alloc (.cells #[.slice a1 L c1] 24) = Y at *
  clear hYe
  generalize w1.heap.size = p5 at *
  obtain ⟨k1, hk1⟩ : ∃ k1, k1 = L - 1 := ⟨_, rfl⟩
  have HK1 := hid hk1
  have e1 : ((L : Int) - 1) = (k1 : Int) := by omega
  clear hk1
  have yt := (boxed_low HX0.out M1.out).cell
  have HYP := hid ((M1.out.block _ (lt_blk HX1.out)).trans HX1.out)
  have HYR := hid (boxed_low HX2.out M1.out)
  have HZ0 := hid (belowA Y (.cells #[.int .i64 (k1 : Int)] 3))
  have HZP0 := hid ((HZ0.out.block _ (lt_blk HYP.out)).trans HYP.out)
  have z3 := (cells4 HZP0.out).2.2.2
  have zf : (Y.alloc (.cells #[.int .i64 (k1 : Int)] 3)).frozen? ⟨bp, 3, none⟩ = false := by simp [World.frozen?, HZP0.out]
  have HIZ0 := hid (one_int Y (k1 : Int) X.heap.size M1.out.size)
  have HOZ0 := hid (HOY.out.low HZ0.out)
  have HX5Z0 := hid (boxed_low HX5.out HZ0.out)
  have HXRZ0 := hid (boxed_low HYR.out HZ0.out)
  have hbpY : bp ≠ Y.heap.size := by have := lt_blk HYP.out; omega
  go_upto_region 3 with (fail)
  generalize hZ0e : Y.alloc (.cells #[.int .i64 (k1 : Int)] 3) = Z0 at *
  clear hZ0e z3 zf yt hbpY
  generalize hkb : Y.heap.size = kb at *
  have HZP := hid (show (Z0.setCell ⟨bp, 3, none⟩ (.slice (some ⟨kb, 0, none⟩) 1 1)).heap[bp]? = some (.cells #[.int .i64 k, .string tx, .int .i64 0, .slice (some ⟨kb, 0, none⟩) 1 1] 45 (0, 0)) by
    rw [setCell_eq_setRow _ _ _ _ _ _ _ HZP0.out, setRow_heap _ _ _ _ _ _ HZP0.out]
    rfl)
  have HOZ := hid (HOZ0.out.set_part (c := bp) (i := 3) (by have := HOR.out; omega) (.slice (some ⟨kb, 0, none⟩) 1 1))
  have HIZ := hid (show OwnI (Z0.setCell ⟨bp, 3, none⟩ (.slice (some ⟨kb, 0, none⟩) 1 1)) X.heap.size (.slice (some ⟨kb, 0, none⟩) 1 1) [(k1 : Int)] from ownsRow_setCell_below HIZ0.out (a := ⟨bp, 3, none⟩) (by have := HOR.out; show bp < X.heap.size; omega) _)
  have HX5Z := hid (show Boxed (Z0.setCell ⟨bp, 3, none⟩ (.slice (some ⟨kb, 0, none⟩) 1 1)) p5 24 (.slice a1 L c1) from (Below.heap_setCell _ _ _ _ (by show p5 ≠ bp; have := HOR.out; have := HP5.out; omega)).trans HX5Z0.out)
  have HXRZ := hid (show Boxed (Z0.setCell ⟨bp, 3, none⟩ (.slice (some ⟨kb, 0, none⟩) 1 1)) br 24 (.slice none 0 0) from (Below.heap_setCell _ _ _ _ (by show br ≠ bp; have := HOR.out; omega)).trans HXRZ0.out)
  have HBZ := hid (show Below w.heap.size w (Z0.setCell ⟨bp, 3, none⟩ (.slice (some ⟨kb, 0, none⟩) 1 1)) from (HB.out.trans ((M1.out.trans (HZ0.out.mono (by have h9 := M1.out.size; omega))).mono HB.out.size)).setCell (p := ⟨bp, 3, none⟩) (by show w.heap.size ≤ bp; have := HOR.out; omega) _)
  have HXZ := hid (show X.heap.size ≤ (Z0.setCell ⟨bp, 3, none⟩ (.slice (some ⟨kb, 0, none⟩) 1 1)).heap.size by
    rw [World.size_setCell]
    have h9 := M1.out.size
    have h8 := HZ0.out.size
    omega)
  clear hkb
  generalize Z0.setCell ⟨bp, 3, none⟩ (.slice (some ⟨kb, 0, none⟩) 1 1) = Z at *
  have ⟨x0, x1, x2, x3⟩ := cells4 HZP.out
  have z5 := HX5Z.out.cell
  obtain ⟨i0, hi, hz0, hz1, hz2⟩ := info_parts infoP
  have HRW := hid (HOZ.out.row.alloc (.cells #[.int .i64 k, .string tx, .int .i64 0, .slice (some ⟨kb, 0, none⟩) 1 1] 45))
  have HFN := hid (cell_four_new Z (.int .i64 k) (.string tx) (.int .i64 0) (.slice (some ⟨kb, 0, none⟩) 1 1) 45)
  have HA4 := hid (belowA Z (.cells #[.int .i64 k, .string tx, .int .i64 0, .slice (some ⟨kb, 0, none⟩) 1 1] 45))
  have HO5 := hid (HOZ.out.low HA4.out)
  have HI5 := hid (own_low HIZ.out HA4.out)
  have HX5A := hid (boxed_low HX5Z.out HA4.out)
  have HXRA := hid (boxed_low HXRZ.out HA4.out)
  go_wp2_with (at_builtin; refine wpList_append_own _ rfl _ _ 22 rfl X.heap.size 45 i0 (.agg #[.int .i64 0, .string ByteArray.empty, .int .i64 0, .slice none 0 0]) 4 56 Tryd.underlying22 hi hz0 hz1 hz2 rfl (by decide) _ _ _ rfl HRW.out ⟨Z.heap.size, 0, none⟩ 1 1 [.int .i64 k, .string tx, .int .i64 0, .slice (some ⟨kb, 0, none⟩) 1 1] rfl rfl HFN.out (fun x hx => by simp at hx; rcases hx with rfl | rfl | rfl | rfl <;> rfl) (by unfold maxLen; omega) (by omega) (Nat.le_trans HXZ.out HA4.out.size) ?_)
  intro v5 w5 hr5 hg5 hn5
  have hptk : pt T' L = overP k tx L := by rw [HTE.out, HL.out]; exact pt_last T _
  have hcp : CP T' ks L = CP T ks L := by rw [HTE.out, HL.out]; exact CP_app T _ ks _ (Nat.le_refl _)
  have hA : OwnP (Z.alloc (.cells #[.int .i64 k, .string tx, .int .i64 0, .slice (some ⟨kb, 0, none⟩) 1 1] 45)) X.heap.size (.slice a1 L c1) T' ks L := by
    have h9 := HO5.out
    rw [HTE.out]
    rw [HL.out] at h9 ⊢
    exact h9.app _
  have HM := hid (OwnP.more hA (x := .slice (some ⟨kb, 0, none⟩) 1 1) (by rw [hptk]; unfold overP; simp only; rw [← HK1.out]; exact HI5.out) (by rw [hptk, hcp]; exact hr5) hg5)
  have HX5W := hid (show Boxed w5 p5 24 (.slice a1 L c1) from (hg5.block p5 HX5A.out.lt (fun h9 => row_far HO5.out.row HX5A.out (by decide) h9.symm)).trans HX5A.out)
  have HXRW := hid (show Boxed w5 br 24 (.slice none 0 0) from (hg5.block br HXRA.out.lt (fun h9 => row_far HO5.out.row HXRA.out (by decide) h9.symm)).trans HXRA.out)
  have HBW5 := hid (show Below w.heap.size w w5 from (bch HBZ.out HA4.out).grown hg5 (bch HBZ.out HA4.out).size (fun j hj => by have := (HO5.out.row.lt j hj).1; have := HOR.out; omega))
  obtain ⟨a5, c5, hv5, _⟩ := (show OwnP w5 X.heap.size v5 T' _ T'.length by rw [HLEN.out]; exact HM.out).pl
  rw [HLEN.out] at hv5
  subst hv5
  have z5w := HX5W.out.cell
  have z5f := HX5W.out.frozen
  clear hr5 hg5 hn5 hA hptk hcp x0 x1 x2 x3 z5
  go_upto_region 4 with (fail)
  have HX5V := hid (HX5W.out.set (.slice a5 (L + 1) c5))
  have HXRV := hid (show Boxed (w5.setCell ⟨p5, 0, none⟩ (.slice a5 (L + 1) c5)) br 24 (.slice none 0 0) from (Below.heap_setCell _ _ _ _ (by show br ≠ p5; have := HOR.out; have := HP5.out; omega)).trans HXRW.out)
  have HMV := hid (HM.out.set_box HX5W.out (.slice a5 (L + 1) c5))
  have HBV := hid (show Below w.heap.size w (w5.setCell ⟨p5, 0, none⟩ (.slice a5 (L + 1) c5)) from HBW5.out.setCell (p := ⟨p5, 0, none⟩) (by show w.heap.size ≤ p5; have := HOR.out; have := HP5.out; omega) _)
  clear z5w z5f
  generalize w5.setCell ⟨p5, 0, none⟩ (.slice a5 (L + 1) c5) = V at *
  have y5 := HX5V.out.cell
  have yr := HXRV.out.cell
  have yf := HXRV.out.frozen
  have HMF := hid (HMV.out.set_part (c := br) (i := 0) (by have := HOR.out; omega) (.slice a5 (L + 1) c5))
  have HBF := hid (HBV.out.setCell (p := ⟨br, 0, none⟩) (by show w.heap.size ≤ br; have := HOR.out; omega) (.slice a5 (L + 1) c5))
  have HPF := hid (show PLs (V.setCell ⟨br, 0, none⟩ (.slice a5 (L + 1) c5)) a5 T' by
    obtain ⟨a6, c6, e6, hp⟩ := (show OwnP (V.setCell ⟨br, 0, none⟩ (.slice a5 (L + 1) c5)) X.heap.size (.slice a5 (L + 1) c5) T' _ T'.length by rw [HLEN.out]; exact HMF.out).pl
    rw [HLEN.out] at e6
    cases e6
    exact hp)
  go_wp2_with fail
  exact ⟨rfl, .agg #[.slice a5 (L + 1) c5], results_cell_row Tryd.results16 _ _ br 24 #[.slice a5 (L + 1) c5] (0, 0) _ rfl (HXRV.out.set _) Tryd.underlying24 rfl (by kernel_rfl), a5, c5, rfl, HPF.out, HBF.out⟩
end Go.Proofs.YtdnoagebcolgbaaDoor.L
namespace Go.Proofs.YtdnoagebcolgbaaDoor.L
open Go.RowKit Go.Shelf
set_option linter.unusedVariables false
abbrev zoB : ByteArray := ⟨#[122, 111, 34, 110, 101]⟩
theorem ov3 : OvK 3 ⟨#[]⟩ := Or.inl ⟨rfl, rfl⟩
theorem ov8 : OvK 8 zoB := Or.inr ⟨rfl, by decide⟩
/-- A valid tree with its nest. -/
structure Vld (T : List Pt) (n : Int) : Prop where
  one : 1 ≤ T.length
  most : T.length ≤ 1000
  ok : Ok0 T
  last : ¬ Lst T
  nest : NestR T n
  low : 0 ≤ n
  high : n ≤ 32
theorem Res.vld {T : List Pt} {n : Int} (h : Res T 0 0) (hn : NestR T n) : Vld T n := by
  rcases h with ⟨_, h, _⟩ | ⟨_, h, _⟩ | ⟨h1, h2, ⟨_, h⟩ | ⟨_, _, h, _⟩ | ⟨h3, h4, ⟨_, h⟩ | ⟨h5, _⟩⟩⟩
  · cases h
  · cases h
  · cases h
  · cases h
  · cases h
  · obtain ⟨a, j, b, c⟩ := hn
    have hs := (nests_sm h3 j (by rw [nests_len]; exact b)).1
    have hd := h5 j b
    rw [c] at hs hd
    exact ⟨h1, h2, h3, h4, ⟨a, j, b, c⟩, hs, hd⟩
theorem Vld.gd {T : List Pt} {n : Int} (h : Vld T n) : GdT T := by
  refine ⟨by have := h.most; omega, fun j hj => ?_⟩
  have h2 := fre_len T j
  have h3 := (h.ok j hj).many
  have := h.most
  omega
theorem Vld.gdo {T : List Pt} {n : Int} (h : Vld T n) (k : Int) (tx : ByteArray) : GdT (T ++ [overP k tx T.length]) := by
  refine ⟨by have := h.most; simp; omega, fun j hj => ?_⟩
  by_cases e : j < T.length
  · rw [pt_app e]
    exact h.gd.2 j e
  · have : j = T.length := by simp at hj; omega
    rw [this, pt_last]
    simp [overP]
theorem Vld.sum {T : List Pt} {n : Int} (h : Vld T n) : sumK T T.length ≤ 100000 := by
  have := sum_kids T.length (fun j hj => h.ok j hj)
  have := h.most
  omega
theorem btw8 (kk : Int) : btw 8 kk = 1 := by
  unfold btw
  have h1 : opB 8 = true := by decide
  have h2 : brB 8 kk = false := by unfold brB; simp
  rw [h1, h2]
  rfl
theorem btw3 (kk : Int) : btw 3 kk = if brB 3 kk then 2 else 1 := by
  unfold btw
  have h1 : opB 3 = true := by decide
  rw [h1]
  cases brB 3 kk <;> rfl
theorem br3 (kk : Int) : brB 3 kk = (kk == 4 || kk == 5) := by
  unfold brB
  simp
  rfl
theorem err_nil {T : List Pt} {B : Nat} {W : World} {ev : Value} (h : ErrR T B W ev) (k : Res T 0 0) : ev = .nilIface := by
  rcases h with h | ⟨N, c, i, _, _, _, h, h0⟩
  · exact h.1
  · exact absurd (res_one h k).1 h0
theorem err_not {T : List Pt} {B c i : Nat} {W : World} {ev : Value} (h : ErrR T B W ev) (k : Res T c i) (hc : c ≠ 0) : ∃ N, ev = fv N := by
  rcases h with ⟨_, h⟩ | ⟨N, c', i', e, _⟩
  · exact absurd (res_one k h).1 hc
  · exact ⟨N, e⟩
theorem res_nest {T : List Pt} {n : Int} (h : Vld T n) : Res T 0 0 := Or.inr (Or.inr ⟨h.one, h.most, Or.inr (Or.inr ⟨h.ok, h.last, Or.inr ⟨fun j hj => Int.le_trans (h.nest.1 j hj) h.high, rfl, rfl⟩⟩)⟩)
/-- Nest of a tree with a part over it. -/
theorem nest_ov {T : List Pt} {n : Int} (h : Vld T n) (hL : T.length < 1000) {k : Int} {tx : ByteArray} (hk : OvK k tx) (hd : n + btw k (pt T (T.length - 1)).kind ≤ 32) (a : Option Addr) (cap : Nat) (W : World) (hp : PL W a (T ++ [overP k tx T.length])) :
    Calls Tryd.prog 12 #[.agg #[.slice a (T ++ [overP k tx T.length]).length cap]] W fun e w' => e = .returned (.tuple #[.int .i64 (n + btw k (pt T (T.length - 1)).kind), .nilIface]) ∧ Below W.heap.size W w' := by
  have hr := (res_over h.one hL h.ok h.last hk h.nest).1 hd
  refine (nest_any a _ cap W hp (h.gdo k tx)).mono ?_
  rintro e w' ⟨m, ev, rfl, l, he, hm⟩
  have e0 := err_nil he hr
  subst e0
  rcases hm with ⟨hm, _⟩ | ⟨_, hm⟩
  · exact absurd rfl hm
  · rw [hm.one (nest_over h.one h.ok h.last hk h.nest)]
    exact ⟨rfl, l⟩
/-- Text of a tree with a part over it. -/
theorem text_ov {T : List Pt} {n : Int} (h : Vld T n) (hL : T.length < 1000) {k : Int} {tx : ByteArray} (hk : OvK k tx) (hd : n + btw k (pt T (T.length - 1)).kind ≤ 32) (hs : Shrt T T.length) (hl : (ovT k (quoteL tx.data.toList) T).length ≤ 4096) (a : Option Addr) (cap : Nat) (W : World) (hp : PL W a (T ++ [overP k tx T.length])) (hv : TabW W) :
    Calls Tryd.prog 14 #[.agg #[.slice a (T ++ [overP k tx T.length]).length cap]] W fun e w' => e = .returned (.tuple #[.string (S (ovT k (quoteL tx.data.toList) T)), .nilIface]) ∧ Below W.heap.size W w' := by
  have hr := (res_over h.one hL h.ok h.last hk h.nest).1 hd
  refine (text_any a _ cap W hp (h.gdo k tx) hv).mono ?_
  rintro e w' ⟨s, ev, rfl, l, ht⟩
  rcases ht with ⟨he, hne, _⟩ | ⟨_, _, rfl, rfl⟩ | ⟨_, hns, _⟩
  · exact absurd (err_nil he hr) hne
  · rw [last_over h.one h.ok]
    exact ⟨rfl, l⟩
  · exact absurd (shrt_over h.one h.ok hs hl) hns
theorem valid_ov_no {T : List Pt} {n : Int} (h : Vld T n) (hL : T.length < 1000) {k : Int} {tx : ByteArray} (hk : OvK k tx) (hd : 32 < n + btw k (pt T (T.length - 1)).kind) (a : Option Addr) (cap : Nat) (W : World) (hp : PL W a (T ++ [overP k tx T.length])) :
    Calls Tryd.prog 10 #[.agg #[.slice a (T ++ [overP k tx T.length]).length cap]] W fun e w' => ∃ N, e = .returned (fv N) ∧ Below W.heap.size W w' := by
  obtain ⟨i, hr⟩ := (res_over h.one hL h.ok h.last hk h.nest).2 hd
  refine (valid_any a _ cap W hp (h.gdo k tx)).mono ?_
  rintro e w' ⟨ev, rfl, l, he⟩
  obtain ⟨N, rfl⟩ := err_not he hr (by decide)
  exact ⟨N, rfl, l⟩
set_option maxHeartbeats 4000000 in
theorem refusal_no (N : Nat) (x : Int) (w : World) : Calls Tryd.prog 9 #[fv N, .int .i64 0, .int .i64 x] w fun e w' => e = .returned (.bool false) ∧ w' = w := by
  unfold fv
  go_enter Tryd.func9, Tryd.ntmps9
  go_wp2_with fail
  exact bodyPost_ret (v := .bool false) (by simp [results, Tryd.results9]) rfl ⟨rfl, rfl⟩
/-- What is written over a whole. -/
theorem ovT8 (T : List Pt) (sl : List UInt8) (h1 : 1 ≤ T.length) (hs : (txs T T.length).getD (T.length - 1) [] = sl) : ovT 8 (quoteL zoB.data.toList) T = [110, 101, 97, 114, 40, 34, 122, 111, 92, 34, 110, 101, 34, 44, 32] ++ sl ++ [41] := by
  have e0 : kidL T (txs T T.length) 8 ((T.length - 1 : Nat) : Int) = sl := by
    unfold kidL
    rw [show brB 8 (pt T ((T.length - 1 : Nat) : Int).toNat).kind = false by unfold brB; simp]
    simpa using hs
  unfold ovT
  rw [e0, show quoteL zoB.data.toList = [34, 122, 111, 92, 34, 110, 101, 34] by decide +kernel]
  simp [txK]
theorem ovT3 (T : List Pt) (sl : List UInt8) (h1 : 1 ≤ T.length) (hs : (txs T T.length).getD (T.length - 1) [] = sl) (q : List UInt8) : ovT 3 q T = if brB 3 (pt T (T.length - 1)).kind then [33, 40] ++ sl ++ [41] else [33] ++ sl := by
  have e0 : kidL T (txs T T.length) 3 ((T.length - 1 : Nat) : Int) = if brB 3 (pt T (T.length - 1)).kind then [40] ++ (sl ++ [41]) else sl := by
    unfold kidL
    rw [Int.toNat_natCast, hs]
  unfold ovT
  rw [e0]
  cases brB 3 (pt T (T.length - 1)).kind <;> simp [txK]
end Go.Proofs.YtdnoagebcolgbaaDoor.L
