import Derived.Test.YtdhjoimiejdgbabDoorRf7
import Derived.Test.YtdhjoimiejdgbabDoorMgE
import Derived.Test.YtdhjoimiejdgbabDoorSat
namespace Go.Proofs.YtdhjoimiejdgbabDoor.L
open Go.RowKit Bs Go.Maps
set_option linter.unusedVariables false
/-- The document's rows are the table's. -/
structure Rel (l : List Rw) (d : List Dr) : Prop where
  th : ∀ x ∈ d, isT l x.1 = true ∧ nm l x.1 = x.2.1 ∧ vlu l x.1 = x.2.2
  nd : (d.map (·.1)).Nodup
  al : ∀ i, isT l i = true → ∃ x ∈ d, x.1 = i
theorem Rel.nil : Rel [] [] := ⟨fun x hx => (by cases hx), (by simp), fun i hi => (by simp [isT, nm] at hi)⟩
theorem Rel.row {l : List Rw} {d : List Dr} (h : Rel l d) {k : Nat} (hk : k < d.length) : isT l (ds d k) = true ∧ nm l (ds d k) = dn d k ∧ vlu l (ds d k) = dl d k := by
  rw [ds_at hk, dn_at hk, dl_at hk]
  exact h.th _ (List.getElem_mem hk)
theorem Rel.is {l : List Rw} {d : List Dr} (h : Rel l d) {i : Nat} (hi : isT l i = true) : ∃ k, k < d.length ∧ ds d k = i := by
  obtain ⟨x, hx, e⟩ := h.al i hi
  obtain ⟨k, hk, rfl⟩ := List.getElem_of_mem hx
  exact ⟨k, hk, by rw [ds_at hk]; exact e⟩
def prD (d : List Dr) : List Sn := d.map fun x => (x.1, x.2.1)
theorem tkK_nodup (ss : List ByteArray) : ∀ k, (tkK ss k).Nodup
  | 0 => by simp [tkK]
  | k + 1 => by
    rw [tkK]
    split
    · simpa using tkK_nodup ss k
    · rw [List.nodup_append]
      refine ⟨tkK_nodup ss k, by simp, fun a ha b hb c => ?_⟩
      simp at hb
      subst hb
      subst c
      have := ((tkK_mem ss _ k).1 ha).1
      simp at this
theorem bs_len (l : List Rw) : (bs l).length = l.length := by unfold bs; simp
theorem tk_mem (l : List Rw) (x : Sn) : x ∈ tk (bs l) ↔ isT l x.1 = true ∧ nm l x.1 = x.2 := by
  unfold tk
  rw [tkK_mem, nmS_bs, bs_len]
  constructor
  · rintro ⟨_, h2, h3⟩
    exact ⟨isT_iff.2 h3, h2.symm⟩
  · rintro ⟨h1, h2⟩
    exact ⟨isT_lt h1, h2.symm, isT_iff.1 h1⟩
theorem perm_of {α : Type} [DecidableEq α] {a b : List α} (h1 : a.Nodup) (h2 : b.Nodup) (h : ∀ x, x ∈ a ↔ x ∈ b) : a.Perm b := by
  letI i1 : BEq α := instBEqOfDecidableEq
  refine (@List.perm_iff_count α i1 _ _ _).2 fun x => ?_
  have e1 := @List.Nodup.count α i1 _ x a h1
  have e2 := @List.Nodup.count α i1 _ x b h2
  rw [e1, e2]
  by_cases c : x ∈ a
  · rw [if_pos c, if_pos ((h x).1 c)]
  · rw [if_neg c, if_neg (fun d => c ((h x).2 d))]
theorem nodup_of_map {α β : Type} {f : α → β} {a : List α} (h : (a.map f).Nodup) : a.Nodup := by
  unfold List.Nodup at h ⊢
  rw [List.pairwise_map] at h
  exact h.imp (fun hne e => hne (by rw [e]))
theorem Rel.perm {l : List Rw} {d : List Dr} (h : Rel l d) : (prD d).Perm (tk (bs l)) := by
  refine perm_of ?_ (tkK_nodup _ _) (fun x => ?_)
  · refine nodup_of_map (f := (·.1)) ?_
    unfold prD
    rw [List.map_map]
    exact h.nd
  · rw [tk_mem]
    unfold prD
    rw [List.mem_map]
    constructor
    · rintro ⟨y, hy, rfl⟩
      have := h.th y hy
      exact ⟨this.1, this.2.1⟩
    · rintro ⟨h1, h2⟩
      obtain ⟨y, hy, e⟩ := h.al x.1 h1
      refine ⟨y, hy, ?_⟩
      have := (h.th y hy).2.1
      rw [e, h2] at this
      rw [e, ← this]
theorem Rel.len {l : List Rw} {d : List Dr} (h : Rel l d) : d.length = cnt l := by
  have := h.perm.length_eq
  have e := nmL_len l
  unfold prD at this
  unfold nmL at e
  rw [List.length_map] at this e
  rw [this, e]
def nmD (d : List Dr) : List ByteArray := d.map (·.2.1)
theorem Rel.names {l : List Rw} {d : List Dr} (h : Rel l d) : srt (nmD d) = srt (nmL l) := by
  refine srt_perm ?_
  have := h.perm.map (·.2)
  unfold prD at this
  rw [List.map_map] at this
  exact this
theorem Rel.find {l : List Rw} {d : List Dr} (h : Rel l d) (s : ByteArray) : (NoN l s ∧ findD d s = -1) ∨ ∃ k : Nat, findD d s = k ∧ k < d.length ∧ isT l (ds d k) = true ∧ nm l (ds d k) = s ∧ dn d k = s ∧ vlu l (ds d k) = dl d k := by
  rcases findD_cases d s with ⟨e, hn⟩ | ⟨j, e, hj, hs⟩
  · refine Or.inl ⟨fun i hi c => ?_, e⟩
    obtain ⟨k, hk, rfl⟩ := h.is hi
    exact hn k hk (by rw [← (h.row hk).2.1]; exact c)
  · obtain ⟨a, b, c⟩ := h.row hj
    exact Or.inr ⟨j, e, hj, a, by rw [b]; exact hs, hs, c⟩
theorem Rel.at_ {l : List Rw} {d : List Dr} (h : Rel l d) (i : Int) : (NoS l i ∧ atD d i = -1) ∨ ∃ k : Nat, atD d i = k ∧ k < d.length ∧ (ds d k : Int) = i ∧ isT l (ds d k) = true ∧ nm l (ds d k) = dn d k ∧ vlu l (ds d k) = dl d k := by
  rcases atD_cases d i with ⟨e, hn⟩ | ⟨j, e, hj, hs⟩
  · refine Or.inl ⟨fun k hk => ?_, e⟩
    cases c : isT l k
    · rfl
    · obtain ⟨q, hq, rfl⟩ := h.is c
      exact absurd hk.symm (hn q hq)
  · obtain ⟨a, b, c⟩ := h.row hj
    exact Or.inr ⟨j, e, hj, hs, a, b, c⟩
theorem spn_le2 {d : List Dr} {b : Nat} : ∀ n, (∀ k, k < n → ds d k < b) → spn d n ≤ b
  | 0, _ => Nat.zero_le _
  | n + 1, h => Nat.max_le.2 ⟨spn_le2 n (fun k hk => h k (by omega)), h n (by omega)⟩
theorem Rel.span {l : List Rw} {d : List Dr} (h : Rel l d) (ht : tl l = l.length) : spanD d = l.length := by
  have h1 : spanD d ≤ l.length := spn_le2 _ (fun k hk => isT_lt (h.row hk).1)
  have h2 : l.length ≤ spanD d := by
    rcases tl_last l with e | e
    · omega
    · rw [ht] at e
      obtain ⟨k, hk, ek⟩ := h.is e
      have : atD d ((l.length - 1 : Nat) : Int) ≠ -1 := fun c => by
        rcases atD_cases d ((l.length - 1 : Nat) : Int) with ⟨_, hn⟩ | ⟨j, ej, _⟩
        · exact hn k hk (by rw [ek])
        · omega
      have := atD_span this
      omega
  omega
theorem Rel.lowest {l : List Rw} {d : List Dr} (h : Rel l d) {r : Nat} (hr : LowD d r) : low l = r := by
  refine low_one ?_ (fun j hj => ?_)
  · rcases h.at_ (r : Int) with ⟨a, _⟩ | ⟨k, e, _⟩
    · exact a r rfl
    · have := hr.1; omega
  · rcases h.at_ (j : Int) with ⟨_, e⟩ | ⟨k, e, hk, e2, c, _⟩
    · exact absurd e (hr.2 j hj)
    · obtain rfl : ds d k = j := by omega
      exact c
theorem Rel.slots {l : List Rw} {d : List Dr} {m : Nat} (h : Rel l d) (ok : OkS m l) : ∀ k, ds d k < 65536 := by
  intro k
  by_cases hk : k < d.length
  · have a := isT_lt (h.row hk).1
    have := ok.le
    have := ok.mm
    omega
  · unfold ds
    rw [List.getElem?_eq_none (by omega)]
    decide
theorem vlu_wrt (l : List Rw) (i : Nat) (x : Rw) (h : i ≤ l.length) (j : Nat) : vlu (wrt l i x) j = if j = i then x.2 else vlu l j := by
  unfold vlu
  rw [get_wrt l i x h]
  split <;> rfl
theorem vlu_set (l : List Rw) (i : Nat) (x : Rw) (h : i < l.length) (j : Nat) : vlu (l.set i x) j = if j = i then x.2 else vlu l j := by
  unfold vlu
  rw [List.getElem?_set]
  by_cases e : i = j
  · subst e; simp [h]
  · rw [if_neg e, if_neg (fun c => e c.symm)]
theorem Rel.put {l : List Rw} {d : List Dr} (h : Rel l d) {s : ByteArray} {v : Int} (hs : s.size ≠ 0) {r : Nat} (hr : L.low l = r) : Rel (wrt l r (s, v)) (d ++ [(r, s, v)]) := by
  have hle := low_le l
  have hf := low_free l
  rw [hr] at hle hf
  have hN := nm_wrt l r (s, v) hle
  have hV := vlu_wrt l r (s, v) hle
  have hT : ∀ j, isT (wrt l r (s, v)) j = if j = r then true else isT l j := fun j => by
    unfold isT; rw [hN]; split
    · simpa using hs
    · rfl
  have hne : ∀ x ∈ d, x.1 ≠ r := fun x hx c => by
    have := (h.th x hx).1
    rw [c, hf] at this
    cases this
  refine ⟨fun x hx => ?_, ?_, fun i hi => ?_⟩
  · rcases List.mem_append.1 hx with hx | hx
    · have n := hne x hx
      rw [hT, hN, hV, if_neg n, if_neg n, if_neg n]
      exact h.th x hx
    · simp at hx
      subst hx
      rw [hT, hN, hV, if_pos rfl, if_pos rfl, if_pos rfl]
      exact ⟨rfl, rfl, rfl⟩
  · rw [List.map_append, List.nodup_append]
    refine ⟨h.nd, by simp, fun a ha b hb c => ?_⟩
    simp at hb
    subst hb
    subst c
    obtain ⟨x, hx, e⟩ := List.mem_map.1 ha
    exact hne x hx e
  · rw [hT] at hi
    by_cases c : i = r
    · exact ⟨(r, s, v), by simp, c.symm⟩
    · rw [if_neg c] at hi
      obtain ⟨x, hx, e⟩ := h.al i hi
      exact ⟨x, List.mem_append.2 (Or.inl hx), e⟩
theorem Rel.set {l : List Rw} {d : List Dr} (h : Rel l d) {k : Nat} (hk : k < d.length) {s : ByteArray} {v : Int} (hs : dn d k = s) : Rel (l.set (ds d k) (s, v)) (d.set k (ds d k, dn d k, v)) := by
  obtain ⟨r1, r2, r3⟩ := h.row hk
  have hl := isT_lt r1
  have hN : ∀ j, nm (l.set (ds d k) (s, v)) j = nm l j := fun j => by
    rw [nm_set l _ _ hl]
    split
    · rename_i c; rw [c, r2]; exact hs.symm
    · rfl
  have hT : ∀ j, isT (l.set (ds d k) (s, v)) j = isT l j := fun j => by unfold isT; rw [hN]
  have hV := vlu_set l (ds d k) (s, v) hl
  have hm : (d.set k (ds d k, dn d k, v)).map (·.1) = d.map (·.1) := by
    rw [List.map_set]
    apply List.ext_getElem
    · simp
    · intro i h1 h2
      rw [List.getElem_set]
      split
      · rename_i c; subst c; simp [ds_at hk]
      · rfl
  refine ⟨fun x hx => ?_, by rw [hm]; exact h.nd, fun i hi => ?_⟩
  · obtain ⟨j, hj, rfl⟩ := List.getElem_of_mem hx
    rw [List.length_set] at hj
    rw [List.getElem_set]
    split
    · rename_i c
      subst c
      rw [hT, hN, hV, if_pos rfl]
      exact ⟨r1, r2, rfl⟩
    · rename_i c
      have n : (d[j]).1 ≠ ds d k := fun e => by
        rw [ds_at hk] at e
        have := (List.pairwise_iff_getElem.1 h.nd)
        rcases Nat.lt_or_ge j k with q | q
        · exact this j k (by simpa using hj) (by simpa using hk) q (by simpa using e)
        · exact this k j (by simpa using hk) (by simpa using hj) (by omega) (by simpa using e.symm)
      rw [hT, hN, hV, if_neg n]
      exact h.th _ (List.getElem_mem hj)
  · rw [hT] at hi
    have : i ∈ d.map (·.1) := by
      obtain ⟨x, hx, e⟩ := h.al i hi
      exact List.mem_map.2 ⟨x, hx, e⟩
    rw [← hm] at this
    obtain ⟨x, hx, e⟩ := List.mem_map.1 this
    exact ⟨x, hx, e⟩
theorem Rel.drop {l : List Rw} {d : List Dr} (h : Rel l d) {k : Nat} (hk : k < d.length) : Rel (trim (l.set (ds d k) (ByteArray.empty, 0))) (d.eraseIdx k) := by
  obtain ⟨r1, r2, r3⟩ := h.row hk
  have hl := isT_lt r1
  have hN := nm_drop (v := (0 : Int)) r1
  have hT : ∀ j, isT (trim (l.set (ds d k) (ByteArray.empty, 0))) j = if j = ds d k then false else isT l j := fun j => by
    unfold isT; rw [hN]; split <;> rfl
  have hV : ∀ j, j ≠ ds d k → isT l j = true → vlu (trim (l.set (ds d k) (ByteArray.empty, 0))) j = vlu l j := fun j hj ht => by
    have : isT (l.set (ds d k) (ByteArray.empty, (0 : Int))) j = true := by
      unfold isT
      rw [nm_set l _ _ hl, if_neg hj]
      exact ht
    unfold vlu
    rw [get_trim _ _ this, List.getElem?_set, if_neg (fun c => hj c.symm)]
  have hne : ∀ j (hj : j < d.length), j ≠ k → (d[j]).1 ≠ ds d k := fun j hj c e => by
    rw [ds_at hk] at e
    have := (List.pairwise_iff_getElem.1 h.nd)
    rcases Nat.lt_or_ge j k with q | q
    · exact this j k (by simpa using hj) (by simpa using hk) q (by simpa using e)
    · exact this k j (by simpa using hk) (by simpa using hj) (by omega) (by simpa using e.symm)
  refine ⟨fun x hx => ?_, ((List.eraseIdx_sublist _ _).map _).nodup h.nd, fun i hi => ?_⟩
  · obtain ⟨j, hj, c, rfl⟩ := List.mem_eraseIdx_iff_getElem.1 hx
    have n := hne j hj c
    obtain ⟨a, b, e⟩ := h.th _ (List.getElem_mem hj)
    rw [hT, hN, if_neg n, if_neg n, hV _ n a]
    exact ⟨a, b, e⟩
  · rw [hT] at hi
    by_cases c : i = ds d k
    · rw [if_pos c] at hi; cases hi
    · rw [if_neg c] at hi
      obtain ⟨x, hx, e⟩ := h.al i hi
      obtain ⟨j, hj, rfl⟩ := List.getElem_of_mem hx
      refine ⟨d[j], List.mem_eraseIdx_iff_getElem.2 ⟨j, hj, fun q => ?_, rfl⟩, e⟩
      subst q
      rw [ds_at hk] at c
      exact c e.symm
end Go.Proofs.YtdhjoimiejdgbabDoor.L
namespace Go.Proofs.YtdhjoimiejdgbabDoor.L
open Go.RowKit
set_option linter.unusedVariables false
theorem bless_iff : ∀ x y : List UInt8, Op.bytesLess x y = true ↔ x < y
  | x, [] => by simp [Op.bytesLess]
  | [], b :: y => by simp [Op.bytesLess]
  | a :: x, b :: y => by
    rw [Op.bytesLess, Bool.or_eq_true, Bool.and_eq_true, bless_iff x y, List.cons_lt_cons_iff]
    simp
/-- How many names at the head are below s. -/
def pos : List ByteArray → ByteArray → Nat
  | [], _ => 0
  | x :: r, s => if Op.bytesLess x.toList s.toList = true then pos r s + 1 else 0
theorem pos_le : ∀ (o : List ByteArray) (s : ByteArray), pos o s ≤ o.length
  | [], _ => Nat.le_refl _
  | x :: r, s => by
    unfold pos
    have := pos_le r s
    split <;> simp <;> omega
theorem pos_lt : ∀ (o : List ByteArray) (s : ByteArray) (j : Nat), j < pos o s → Op.bytesLess (nmS o j).toList s.toList = true
  | [], _, j, h => by simp [pos] at h
  | x :: r, s, j, h => by
    unfold pos at h
    split at h
    · rename_i hx
      cases j with
      | zero => exact hx
      | succ j => exact pos_lt r s j (by omega)
    · omega
theorem pos_at : ∀ (o : List ByteArray) (s : ByteArray), pos o s < o.length → Op.bytesLess (nmS o (pos o s)).toList s.toList = false
  | [], _, h => by simp [pos] at h
  | x :: r, s, h => by
    unfold pos at h ⊢
    by_cases hx : Op.bytesLess x.toList s.toList = true
    · rw [if_pos hx] at h ⊢
      exact pos_at r s (by simpa using h)
    · rw [if_neg hx]
      show Op.bytesLess x.toList s.toList = false
      simpa using hx
def insAt (o : List ByteArray) (p : Nat) (s : ByteArray) : List ByteArray := o.take p ++ s :: o.drop p
theorem insAt_len (o : List ByteArray) (p : Nat) (s : ByteArray) : (insAt o p s).length = o.length + 1 := by
  unfold insAt
  rw [List.length_append, List.length_cons, List.length_take, List.length_drop]
  omega
theorem insAt_perm (o : List ByteArray) (p : Nat) (s : ByteArray) : (insAt o p s).Perm (s :: o) := by
  unfold insAt
  refine List.perm_middle.trans ?_
  rw [List.take_append_drop]
def leS (a b : ByteArray) : Prop := a.data.toList ≤ b.data.toList
theorem insAt_up : ∀ (o : List ByteArray) (s : ByteArray), o.Pairwise leS → (insAt o (pos o s) s).Pairwise leS
  | [], s, _ => by simp [insAt]
  | x :: r, s, h => by
    have h1 := (List.pairwise_cons.1 h).1
    have h2 := (List.pairwise_cons.1 h).2
    unfold pos
    by_cases hx : Op.bytesLess x.toList s.toList = true
    · rw [if_pos hx]
      have hxs : leS x s := by
        unfold leS
        have := (bless_iff _ _).1 hx
        rw [bytes_toList, bytes_toList] at this
        exact List.le_of_lt this
      have e : insAt (x :: r) (pos r s + 1) s = x :: insAt r (pos r s) s := rfl
      rw [e]
      refine List.pairwise_cons.2 ⟨fun y hy => ?_, insAt_up r s h2⟩
      rcases List.mem_cons.1 ((insAt_perm r (pos r s) s).mem_iff.1 hy) with c | c
      · rw [c]; exact hxs
      · exact h1 y c
    · rw [if_neg hx]
      have hsx : leS s x := by
        unfold leS
        have : ¬ x.toList < s.toList := fun c => hx ((bless_iff _ _).2 c)
        rw [bytes_toList, bytes_toList] at this
        exact List.not_lt.1 this
      have e : insAt (x :: r) 0 s = s :: x :: r := rfl
      rw [e]
      refine List.pairwise_cons.2 ⟨fun y hy => ?_, h⟩
      rcases List.mem_cons.1 hy with c | c
      · rw [c]; exact hsx
      · exact List.le_trans hsx (h1 y c)
def insL (d : List Dr) : Nat → List ByteArray
  | 0 => []
  | k + 1 => insAt (insL d k) (pos (insL d k) (dn d k)) (dn d k)
theorem insL_len (d : List Dr) : ∀ k, (insL d k).length = k
  | 0 => rfl
  | k + 1 => by rw [insL, insAt_len, insL_len d k]
theorem insL_up (d : List Dr) : ∀ k, (insL d k).Pairwise leS
  | 0 => by simp [insL]
  | k + 1 => insAt_up _ _ (insL_up d k)
theorem insL_perm (d : List Dr) : ∀ k, k ≤ d.length → (insL d k).Perm ((nmD d).take k)
  | 0, _ => by simp [insL]
  | k + 1, h => by
    have hk : k < d.length := by omega
    have e : (nmD d).take (k + 1) = (nmD d).take k ++ [dn d k] := by
      rw [List.take_succ_eq_append_getElem (by unfold nmD; simpa using hk)]
      congr 1
      rw [dn_at hk]
      unfold nmD
      simp
    rw [insL, e]
    exact ((insAt_perm _ _ _).trans ((insL_perm d k (by omega)).cons _)).trans (List.perm_append_singleton _ _).symm
theorem srt_up (a : List ByteArray) : (srt a).Pairwise leS := by
  unfold srt bsL
  rw [List.pairwise_map]
  have : (srtL (lsB a)).Pairwise fun x y => decide (x ≤ y) = true := List.pairwise_mergeSort (fun a b c h1 h2 => by simp at *; exact List.le_trans h1 h2) (fun a b => by simpa using List.le_total a b) _
  refine this.imp (fun {x y} h => ?_)
  unfold leS
  simpa using h
theorem srt_self (a : List ByteArray) : (srt a).Perm a := by
  unfold srt
  have h1 : (srtL (lsB a)).Perm (lsB a) := List.mergeSort_perm _ _
  have h2 := h1.map (fun b : List UInt8 => (⟨b.toArray⟩ : ByteArray))
  have h3 : (lsB a).map (fun b : List UInt8 => (⟨b.toArray⟩ : ByteArray)) = a := by
    unfold lsB
    rw [List.map_map]
    conv => rhs; rw [← List.map_id a]
    apply List.map_congr_left
    intro s hs
    simp
  rw [h3] at h2
  exact h2
theorem insL_srt (d : List Dr) : insL d d.length = srt (nmD d) := by
  refine List.Perm.eq_of_pairwise (le := leS) (fun x y _ _ h1 h2 => bytes_ext (List.le_antisymm h1 h2)) (insL_up d _) (srt_up _) ?_
  have := insL_perm d d.length (Nat.le_refl _)
  rw [List.take_of_length_le (by unfold nmD; simp)] at this
  exact this.trans (srt_self _).symm
/-- The list while it is shifted: above place j each name has gone up by one. -/
def shf (o : List ByteArray) (j : Nat) : List ByteArray := (List.range (o.length + 1)).map fun p => if p ≤ j then nmS o p else nmS o (p - 1)
theorem shf_len (o : List ByteArray) (j : Nat) : (shf o j).length = o.length + 1 := by unfold shf; simp
theorem shf_get (o : List ByteArray) (j p : Nat) (h : p ≤ o.length) : (shf o j)[p]? = some (if p ≤ j then nmS o p else nmS o (p - 1)) := by
  unfold shf
  rw [List.getElem?_map, List.getElem?_range (by omega)]
  rfl
theorem shf_start (o : List ByteArray) : shf o o.length = o ++ [ByteArray.empty] := by
  apply List.ext_getElem?
  intro i
  by_cases hi : i ≤ o.length
  · rw [shf_get o _ i hi, if_pos hi, List.getElem?_append]
    unfold nmS
    split
    · rename_i c; rw [List.getD_eq_getElem?_getD, List.getElem?_eq_getElem c]; rfl
    · rename_i c
      obtain rfl : i = o.length := by omega
      rw [List.getD_eq_getElem?_getD, List.getElem?_eq_none (Nat.le_refl _)]
      simp
  · rw [List.getElem?_eq_none (by rw [shf_len]; omega), List.getElem?_eq_none (by simp; omega)]
theorem shf_step (o : List ByteArray) (j : Nat) (h : j + 1 ≤ o.length) : (shf o (j + 1)).set (j + 1) (nmS o j) = shf o j := by
  apply List.ext_getElem?
  intro i
  rw [List.getElem?_set]
  by_cases hi : i ≤ o.length
  · rw [shf_get o (j + 1) i hi, shf_get o j i hi, shf_len]
    by_cases c : j + 1 = i
    · subst c
      rw [if_pos rfl, if_pos (by omega), if_neg (by omega)]
      simp
    · rw [if_neg c]
      by_cases c2 : i ≤ j
      · rw [if_pos (by omega), if_pos c2]
      · rw [if_neg (by omega), if_neg c2]
  · rw [if_neg (by omega), List.getElem?_eq_none (by rw [shf_len]; omega), List.getElem?_eq_none (by rw [shf_len]; omega)]
theorem shf_end (o : List ByteArray) (p : Nat) (s : ByteArray) (h : p ≤ o.length) : (shf o p).set p s = insAt o p s := by
  apply List.ext_getElem?
  intro i
  unfold insAt
  rw [List.getElem?_set, List.getElem?_append, List.length_take, Nat.min_eq_left h]
  by_cases hi : i ≤ o.length
  · rw [shf_get o p i hi, shf_len]
    by_cases c : p = i
    · subst c
      rw [if_pos rfl, if_pos (by omega), if_neg (by omega), Nat.sub_self]
      rfl
    · rw [if_neg c]
      by_cases c2 : i < p
      · rw [if_pos (by omega), if_pos c2, List.getElem?_take, if_pos c2]
        unfold nmS
        rw [List.getD_eq_getElem?_getD, List.getElem?_eq_getElem (by omega)]
        rfl
      · rw [if_neg (by omega), if_neg c2]
        obtain ⟨q, hq⟩ : ∃ q, i = p + q + 1 := ⟨i - p - 1, by omega⟩
        subst hq
        rw [show p + q + 1 - p = q + 1 by omega, List.getElem?_cons_succ, List.getElem?_drop]
        unfold nmS
        rw [List.getD_eq_getElem?_getD, show p + q + 1 - 1 = p + q by omega, List.getElem?_eq_getElem (by omega)]
        rfl
  · rw [if_neg (by omega), List.getElem?_eq_none (by rw [shf_len]; omega), if_neg (by omega), List.getElem?_eq_none]
    rw [List.length_cons, List.length_drop]
    omega
end Go.Proofs.YtdhjoimiejdgbabDoor.L
