import Derived.Test.YtodamoblnlcodaaDoorRri
import Derived.Test.YtodamoblnlcodaaDoorFul
namespace Go.Proofs.YtodamoblnlcodaaDoor.L
open Go.RowKit
set_option linter.unusedVariables false
theorem rel_unique {α : Type} {r : α → α → Prop} (irr : ∀ x, ¬ r x x) (tr : ∀ x y z, r x y → r y z → r x z) {a b : List α} (ha : a.Pairwise r) (hb : b.Pairwise r) (h : ∀ x, x ∈ a ↔ x ∈ b) : a = b := by
  induction a generalizing b with
  | nil => cases b with
    | nil => rfl
    | cons y b => exact absurd ((h y).2 (by simp)) (by simp)
  | cons x a ih => cases b with
    | nil => exact absurd ((h x).1 (by simp)) (by simp)
    | cons y b =>
      obtain ⟨a1, a2⟩ := List.pairwise_cons.1 ha
      obtain ⟨b1, b2⟩ := List.pairwise_cons.1 hb
      have e : x = y := by
        rcases List.mem_cons.1 ((h x).1 (by simp)) with e | e
        · exact e
        · rcases List.mem_cons.1 ((h y).2 (by simp)) with f | f
          · exact f.symm
          · exact (irr _ (tr _ _ _ (a1 y f) (b1 x e))).elim
      subst e
      rw [ih a2 b2 fun z => ?_]
      constructor
      · intro hz
        rcases List.mem_cons.1 ((h z).1 (by simp [hz])) with e | e
        · rw [e] at hz
          exact (irr _ (a1 _ hz)).elim
        · exact e
      · intro hz
        rcases List.mem_cons.1 ((h z).2 (by simp [hz])) with e | e
        · rw [e] at hz
          exact (irr _ (b1 _ hz)).elim
        · exact e
/-- How a key stands in both lists. -/
def oneD (a b : List Lb) (s : ByteArray) : Df := ⟨s, (getN a s).1, (getN b s).1, (getN a s).2, (getN b s).2⟩
def difB (d : Df) : Bool := (d.had != d.has) || (d.o.toList != d.n.toList)
/-- Of these keys, those that differ. -/
def rdL (a b T : List Lb) : List Df := (T.map fun x => oneD a b x.1).filter difB
/-- All labels of the first, and of the second those with other keys. -/
def un (a b : List Lb) : List Lb := a ++ b.filter fun y => decide (findN a y.1 < 0)
theorem find_neg (l : List Lb) (s : ByteArray) : findN l s < 0 ↔ (getN l s).2 = false := by
  rcases find_cases l s with ⟨h1, h2, _⟩ | ⟨j, hj, h1, h2, _⟩
  · rw [h1, h2]; simp
  · rw [h1, h2]; simp
theorem un_take (a b : List Lb) (k : Nat) (h : k < b.length) : un a (b.take (k + 1)) = un a (b.take k) ++ (if findN a (ky b k) < 0 then [(ky b k, vl b k)] else []) := by
  unfold un
  rw [take_kv b k h, List.filter_append, ← List.append_assoc]
  congr 1
  by_cases e : findN a (ky b k) < 0
  · rw [if_pos e, List.filter_cons_of_pos (by simpa using e)]
    rfl
  · rw [if_neg e, List.filter_cons_of_neg (by simpa using e)]
    rfl
theorem un_len (a b : List Lb) : (un a b).length ≤ a.length + b.length := by
  unfold un
  rw [List.length_append]
  have := List.length_filter_le (fun y : Lb => decide (findN a y.1 < 0)) b
  omega
theorem up_dis {l : List Lb} (h : Up l) : Dist l := h.imp fun {x y} h e => by
  unfold Lt at h
  rw [e, less_irrefl] at h
  cases h
theorem un_dist {a b : List Lb} (ua : Up a) (ub : Up b) : Dist (un a b) := by
  unfold un
  refine List.pairwise_append.2 ⟨up_dis ua, List.Pairwise.sublist List.filter_sublist (up_dis ub), fun x hx y hy => ?_⟩
  have := (List.mem_filter.1 hy).2
  simp at this
  exact (get_no ((find_neg a y.1).1 this)).2 x hx
theorem un_key {a b : List Lb} {s : ByteArray} (h : (∃ x ∈ a, x.1 = s) ∨ ∃ y ∈ b, y.1 = s) : ∃ x ∈ un a b, x.1 = s := by
  unfold un
  rcases h with ⟨x, hx, e⟩ | ⟨y, hy, e⟩
  · exact ⟨x, by simp [hx], e⟩
  · by_cases f : findN a y.1 < 0
    · exact ⟨y, by simp [hy, f], e⟩
    · have : (getN a y.1).2 = true := by
        cases g : (getN a y.1).2
        · exact absurd ((find_neg a y.1).2 g) f
        · rfl
      have m := (get_yes this).2
      exact ⟨(y.1, (getN a y.1).1), List.mem_append_left _ m, e⟩
theorem rd_take (a b T : List Lb) (k : Nat) (h : k < T.length) : rdL a b (T.take (k + 1)) = rdL a b (T.take k) ++ (if difB (oneD a b (ky T k)) = true then [oneD a b (ky T k)] else []) := by
  unfold rdL
  rw [take_kv T k h, List.map_append, List.filter_append]
  congr 1
  cases e : difB (oneD a b (ky T k))
  · rw [if_neg (by decide)]
    simp [e]
  · rw [if_pos rfl]
    simp [e]
theorem rd_len (a b T : List Lb) : (rdL a b T).length ≤ T.length := by
  unfold rdL
  exact Nat.le_trans (List.length_filter_le _ _) (by rw [List.length_map]; exact Nat.le_refl _)
theorem dif_iff {d : Df} : difB d = true ↔ (d.had = d.has → d.o ≠ d.n) := by
  unfold difB
  constructor
  · intro h e f
    rw [e, f] at h
    simp at h
  · intro h
    by_cases e : d.had = d.has
    · have := h e
      rw [e]
      simp
      exact fun f => this (bytes_ext f)
    · simp [e]
theorem rd_eq {a b T : List Lb} (ua : Up a) (ub : Up b) (hp : T.Perm (un a b)) (hu : Up T) : rdL a b T = df a b := by
  have hS := df_says _ a b (Nat.le_refl _) ua ub
  have hone : ∀ d ∈ df a b, d = oneD a b d.k := fun d hd => by
    unfold oneD
    rw [hS.old d hd, hS.new d hd]
  apply rel_unique (r := fun d e : Df => Op.bytesLess d.k.toList e.k.toList = true) (fun x h => by rw [less_irrefl] at h; cases h) (fun x y z h1 h2 => less_trans _ _ _ h1 h2)
  · unfold rdL
    refine List.Pairwise.sublist List.filter_sublist ?_
    rw [List.pairwise_map]
    exact hu
  · exact hS.rise
  · intro d
    constructor
    · intro hd
      obtain ⟨h1, h2⟩ := List.mem_filter.1 hd
      obtain ⟨x, hx, rfl⟩ := List.mem_map.1 h1
      apply Classical.byContradiction
      intro hn
      have hno : ∀ e ∈ df a b, e.k ≠ x.1 := fun e he ek => hn (by
        have := hone e he
        rw [ek] at this
        rw [← this]
        exact he)
      have := df_full _ a b (Nat.le_refl _) x.1 hno
      unfold difB oneD at h2
      simp [this] at h2
    · intro hd
      have hk := df_key _ a b (Nat.le_refl _) d hd
      obtain ⟨x, hx, e⟩ := un_key hk
      refine List.mem_filter.2 ⟨List.mem_map.2 ⟨x, hp.mem_iff.2 hx, ?_⟩, dif_iff.2 (hS.differ d hd)⟩
      show oneD a b x.1 = d
      rw [e]
      exact (hone d hd).symm
end Go.Proofs.YtodamoblnlcodaaDoor.L
