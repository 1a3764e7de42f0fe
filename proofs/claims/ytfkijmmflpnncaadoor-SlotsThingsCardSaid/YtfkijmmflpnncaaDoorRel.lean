import Derived.Test.YtfkijmmflpnncaaDoorRf7
import Derived.Test.YtfkijmmflpnncaaDoorVw
import Derived.Test.YtfkijmmflpnncaaDoorMgAH
namespace Go.Proofs.YtfkijmmflpnncaaDoor.L
open Go.RowKit Bs Go.Maps
set_option linter.unusedVariables false
/-- The document's rows are the table's. -/
structure Rel (l : List Rw) (d : List Dr) : Prop where
  th : ∀ x ∈ d, isT l x.1 = true ∧ nm l x.1 = x.2.1 ∧ vlu l x.1 = x.2.2
  nd : (d.map (·.1)).Nodup
  al : ∀ i, isT l i = true → ∃ x ∈ d, x.1 = i
theorem Rel.nil : Rel [] [] := ⟨fun x hx => (by cases hx), (by simp), fun i hi => (by simp [isT, nm] at hi)⟩
theorem Rel.row {l : List Rw} {d : List Dr} (h : Rel l d) {k : Nat} (hk : k < d.length) : isT l (ds d k) = true ∧ nm l (ds d k) = dn d k ∧ vlu l (ds d k) = dl d k := by
  rw [ds_at hk, dn_at hk, dl_at hk]
  exact h.th _ (List.getElem_mem hk)
theorem Rel.is {l : List Rw} {d : List Dr} (h : Rel l d) {i : Nat} (hi : isT l i = true) : ∃ k, k < d.length ∧ ds d k = i := by
  obtain ⟨x, hx, e⟩ := h.al i hi
  obtain ⟨k, hk, rfl⟩ := List.getElem_of_mem hx
  exact ⟨k, hk, by rw [ds_at hk]; exact e⟩
def prD (d : List Dr) : List Sn := d.map fun x => (x.1, x.2.1)
theorem tkK_nodup (ss : List ByteArray) : ∀ k, (tkK ss k).Nodup
  | 0 => by simp [tkK]
  | k + 1 => by
    rw [tkK]
    split
    · simpa using tkK_nodup ss k
    · rw [List.nodup_append]
      refine ⟨tkK_nodup ss k, by simp, fun a ha b hb c => ?_⟩
      simp at hb
      subst hb
      subst c
      have := ((tkK_mem ss _ k).1 ha).1
      simp at this
theorem bs_len (l : List Rw) : (bs l).length = l.length := by unfold bs; simp
theorem tk_mem (l : List Rw) (x : Sn) : x ∈ tk (bs l) ↔ isT l x.1 = true ∧ nm l x.1 = x.2 := by
  unfold tk
  rw [tkK_mem, nmS_bs, bs_len]
  constructor
  · rintro ⟨_, h2, h3⟩
    exact ⟨isT_iff.2 h3, h2.symm⟩
  · rintro ⟨h1, h2⟩
    exact ⟨isT_lt h1, h2.symm, isT_iff.1 h1⟩
theorem perm_of {α : Type} [DecidableEq α] {a b : List α} (h1 : a.Nodup) (h2 : b.Nodup) (h : ∀ x, x ∈ a ↔ x ∈ b) : a.Perm b := by
  letI i1 : BEq α := instBEqOfDecidableEq
  refine (@List.perm_iff_count α i1 _ _ _).2 fun x => ?_
  have e1 := @List.Nodup.count α i1 _ x a h1
  have e2 := @List.Nodup.count α i1 _ x b h2
  rw [e1, e2]
  by_cases c : x ∈ a
  · rw [if_pos c, if_pos ((h x).1 c)]
  · rw [if_neg c, if_neg (fun d => c ((h x).2 d))]
theorem nodup_of_map {α β : Type} {f : α → β} {a : List α} (h : (a.map f).Nodup) : a.Nodup := by
  unfold List.Nodup at h ⊢
  rw [List.pairwise_map] at h
  exact h.imp (fun hne e => hne (by rw [e]))
theorem Rel.perm {l : List Rw} {d : List Dr} (h : Rel l d) : (prD d).Perm (tk (bs l)) := by
  refine perm_of ?_ (tkK_nodup _ _) (fun x => ?_)
  · refine nodup_of_map (f := (·.1)) ?_
    unfold prD
    rw [List.map_map]
    exact h.nd
  · rw [tk_mem]
    unfold prD
    rw [List.mem_map]
    constructor
    · rintro ⟨y, hy, rfl⟩
      have := h.th y hy
      exact ⟨this.1, this.2.1⟩
    · rintro ⟨h1, h2⟩
      obtain ⟨y, hy, e⟩ := h.al x.1 h1
      refine ⟨y, hy, ?_⟩
      have := (h.th y hy).2.1
      rw [e, h2] at this
      rw [e, ← this]
theorem Rel.len {l : List Rw} {d : List Dr} (h : Rel l d) : d.length = cnt l := by
  have := h.perm.length_eq
  have e := nmL_len l
  unfold prD at this
  unfold nmL at e
  rw [List.length_map] at this e
  rw [this, e]
def nmD (d : List Dr) : List ByteArray := d.map (·.2.1)
theorem Rel.names {l : List Rw} {d : List Dr} (h : Rel l d) : srt (nmD d) = srt (nmL l) := by
  refine srt_perm ?_
  have := h.perm.map (·.2)
  unfold prD at this
  rw [List.map_map] at this
  exact this
theorem Rel.find {l : List Rw} {d : List Dr} (h : Rel l d) (s : ByteArray) : (NoN l s ∧ findD d s = -1) ∨ ∃ k : Nat, findD d s = k ∧ k < d.length ∧ isT l (ds d k) = true ∧ nm l (ds d k) = s ∧ dn d k = s ∧ vlu l (ds d k) = dl d k := by
  rcases findD_cases d s with ⟨e, hn⟩ | ⟨j, e, hj, hs⟩
  · refine Or.inl ⟨fun i hi c => ?_, e⟩
    obtain ⟨k, hk, rfl⟩ := h.is hi
    exact hn k hk (by rw [← (h.row hk).2.1]; exact c)
  · obtain ⟨a, b, c⟩ := h.row hj
    exact Or.inr ⟨j, e, hj, a, by rw [b]; exact hs, hs, c⟩
theorem Rel.at_ {l : List Rw} {d : List Dr} (h : Rel l d) (i : Int) : (NoS l i ∧ atD d i = -1) ∨ ∃ k : Nat, atD d i = k ∧ k < d.length ∧ (ds d k : Int) = i ∧ isT l (ds d k) = true ∧ nm l (ds d k) = dn d k ∧ vlu l (ds d k) = dl d k := by
  rcases atD_cases d i with ⟨e, hn⟩ | ⟨j, e, hj, hs⟩
  · refine Or.inl ⟨fun k hk => ?_, e⟩
    cases c : isT l k
    · rfl
    · obtain ⟨q, hq, rfl⟩ := h.is c
      exact absurd hk.symm (hn q hq)
  · obtain ⟨a, b, c⟩ := h.row hj
    exact Or.inr ⟨j, e, hj, hs, a, b, c⟩
theorem spn_le2 {d : List Dr} {b : Nat} : ∀ n, (∀ k, k < n → ds d k < b) → spn d n ≤ b
  | 0, _ => Nat.zero_le _
  | n + 1, h => Nat.max_le.2 ⟨spn_le2 n (fun k hk => h k (by omega)), h n (by omega)⟩
theorem Rel.span {l : List Rw} {d : List Dr} (h : Rel l d) (ht : tl l = l.length) : spanD d = l.length := by
  have h1 : spanD d ≤ l.length := spn_le2 _ (fun k hk => isT_lt (h.row hk).1)
  have h2 : l.length ≤ spanD d := by
    rcases tl_last l with e | e
    · omega
    · rw [ht] at e
      obtain ⟨k, hk, ek⟩ := h.is e
      have : atD d ((l.length - 1 : Nat) : Int) ≠ -1 := fun c => by
        rcases atD_cases d ((l.length - 1 : Nat) : Int) with ⟨_, hn⟩ | ⟨j, ej, _⟩
        · exact hn k hk (by rw [ek])
        · omega
      have := atD_span this
      omega
  omega
theorem Rel.lowest {l : List Rw} {d : List Dr} (h : Rel l d) {r : Nat} (hr : LowD d r) : low l = r := by
  refine low_one ?_ (fun j hj => ?_)
  · rcases h.at_ (r : Int) with ⟨a, _⟩ | ⟨k, e, _⟩
    · exact a r rfl
    · have := hr.1; omega
  · rcases h.at_ (j : Int) with ⟨_, e⟩ | ⟨k, e, hk, e2, c, _⟩
    · exact absurd e (hr.2 j hj)
    · obtain rfl : ds d k = j := by omega
      exact c
theorem Rel.slots {l : List Rw} {d : List Dr} {m : Nat} (h : Rel l d) (ok : OkS m l) : ∀ k, ds d k < 65536 := by
  intro k
  by_cases hk : k < d.length
  · have a := isT_lt (h.row hk).1
    have := ok.le
    have := ok.mm
    omega
  · unfold ds
    rw [List.getElem?_eq_none (by omega)]
    decide
theorem vlu_wrt (l : List Rw) (i : Nat) (x : Rw) (h : i ≤ l.length) (j : Nat) : vlu (wrt l i x) j = if j = i then x.2 else vlu l j := by
  unfold vlu
  rw [get_wrt l i x h]
  split <;> rfl
theorem vlu_set (l : List Rw) (i : Nat) (x : Rw) (h : i < l.length) (j : Nat) : vlu (l.set i x) j = if j = i then x.2 else vlu l j := by
  unfold vlu
  rw [List.getElem?_set]
  by_cases e : i = j
  · subst e; simp [h]
  · rw [if_neg e, if_neg (fun c => e c.symm)]
theorem Rel.put {l : List Rw} {d : List Dr} (h : Rel l d) {s : ByteArray} {v : Int} (hs : s.size ≠ 0) {r : Nat} (hr : L.low l = r) : Rel (wrt l r (s, v)) (d ++ [(r, s, v)]) := by
  have hle := low_le l
  have hf := low_free l
  rw [hr] at hle hf
  have hN := nm_wrt l r (s, v) hle
  have hV := vlu_wrt l r (s, v) hle
  have hT : ∀ j, isT (wrt l r (s, v)) j = if j = r then true else isT l j := fun j => by
    unfold isT; rw [hN]; split
    · simpa using hs
    · rfl
  have hne : ∀ x ∈ d, x.1 ≠ r := fun x hx c => by
    have := (h.th x hx).1
    rw [c, hf] at this
    cases this
  refine ⟨fun x hx => ?_, ?_, fun i hi => ?_⟩
  · rcases List.mem_append.1 hx with hx | hx
    · have n := hne x hx
      rw [hT, hN, hV, if_neg n, if_neg n, if_neg n]
      exact h.th x hx
    · simp at hx
      subst hx
      rw [hT, hN, hV, if_pos rfl, if_pos rfl, if_pos rfl]
      exact ⟨rfl, rfl, rfl⟩
  · rw [List.map_append, List.nodup_append]
    refine ⟨h.nd, by simp, fun a ha b hb c => ?_⟩
    simp at hb
    subst hb
    subst c
    obtain ⟨x, hx, e⟩ := List.mem_map.1 ha
    exact hne x hx e
  · rw [hT] at hi
    by_cases c : i = r
    · exact ⟨(r, s, v), by simp, c.symm⟩
    · rw [if_neg c] at hi
      obtain ⟨x, hx, e⟩ := h.al i hi
      exact ⟨x, List.mem_append.2 (Or.inl hx), e⟩
theorem Rel.set {l : List Rw} {d : List Dr} (h : Rel l d) {k : Nat} (hk : k < d.length) {s : ByteArray} {v : Int} (hs : dn d k = s) : Rel (l.set (ds d k) (s, v)) (d.set k (ds d k, dn d k, v)) := by
  obtain ⟨r1, r2, r3⟩ := h.row hk
  have hl := isT_lt r1
  have hN : ∀ j, nm (l.set (ds d k) (s, v)) j = nm l j := fun j => by
    rw [nm_set l _ _ hl]
    split
    · rename_i c; rw [c, r2]; exact hs.symm
    · rfl
  have hT : ∀ j, isT (l.set (ds d k) (s, v)) j = isT l j := fun j => by unfold isT; rw [hN]
  have hV := vlu_set l (ds d k) (s, v) hl
  have hm : (d.set k (ds d k, dn d k, v)).map (·.1) = d.map (·.1) := by
    rw [List.map_set]
    apply List.ext_getElem
    · simp
    · intro i h1 h2
      rw [List.getElem_set]
      split
      · rename_i c; subst c; simp [ds_at hk]
      · rfl
  refine ⟨fun x hx => ?_, by rw [hm]; exact h.nd, fun i hi => ?_⟩
  · obtain ⟨j, hj, rfl⟩ := List.getElem_of_mem hx
    rw [List.length_set] at hj
    rw [List.getElem_set]
    split
    · rename_i c
      subst c
      rw [hT, hN, hV, if_pos rfl]
      exact ⟨r1, r2, rfl⟩
    · rename_i c
      have n : (d[j]).1 ≠ ds d k := fun e => by
        rw [ds_at hk] at e
        have := (List.pairwise_iff_getElem.1 h.nd)
        rcases Nat.lt_or_ge j k with q | q
        · exact this j k (by simpa using hj) (by simpa using hk) q (by simpa using e)
        · exact this k j (by simpa using hk) (by simpa using hj) (by omega) (by simpa using e.symm)
      rw [hT, hN, hV, if_neg n]
      exact h.th _ (List.getElem_mem hj)
  · rw [hT] at hi
    have : i ∈ d.map (·.1) := by
      obtain ⟨x, hx, e⟩ := h.al i hi
      exact List.mem_map.2 ⟨x, hx, e⟩
    rw [← hm] at this
    obtain ⟨x, hx, e⟩ := List.mem_map.1 this
    exact ⟨x, hx, e⟩
theorem Rel.drop {l : List Rw} {d : List Dr} (h : Rel l d) {k : Nat} (hk : k < d.length) : Rel (trim (l.set (ds d k) (ByteArray.empty, 0))) (d.eraseIdx k) := by
  obtain ⟨r1, r2, r3⟩ := h.row hk
  have hl := isT_lt r1
  have hN := nm_drop (v := (0 : Int)) r1
  have hT : ∀ j, isT (trim (l.set (ds d k) (ByteArray.empty, 0))) j = if j = ds d k then false else isT l j := fun j => by
    unfold isT; rw [hN]; split <;> rfl
  have hV : ∀ j, j ≠ ds d k → isT l j = true → vlu (trim (l.set (ds d k) (ByteArray.empty, 0))) j = vlu l j := fun j hj ht => by
    have : isT (l.set (ds d k) (ByteArray.empty, (0 : Int))) j = true := by
      unfold isT
      rw [nm_set l _ _ hl, if_neg hj]
      exact ht
    unfold vlu
    rw [get_trim _ _ this, List.getElem?_set, if_neg (fun c => hj c.symm)]
  have hne : ∀ j (hj : j < d.length), j ≠ k → (d[j]).1 ≠ ds d k := fun j hj c e => by
    rw [ds_at hk] at e
    have := (List.pairwise_iff_getElem.1 h.nd)
    rcases Nat.lt_or_ge j k with q | q
    · exact this j k (by simpa using hj) (by simpa using hk) q (by simpa using e)
    · exact this k j (by simpa using hk) (by simpa using hj) (by omega) (by simpa using e.symm)
  refine ⟨fun x hx => ?_, ((List.eraseIdx_sublist _ _).map _).nodup h.nd, fun i hi => ?_⟩
  · obtain ⟨j, hj, c, rfl⟩ := List.mem_eraseIdx_iff_getElem.1 hx
    have n := hne j hj c
    obtain ⟨a, b, e⟩ := h.th _ (List.getElem_mem hj)
    rw [hT, hN, if_neg n, if_neg n, hV _ n a]
    exact ⟨a, b, e⟩
  · rw [hT] at hi
    by_cases c : i = ds d k
    · rw [if_pos c] at hi; cases hi
    · rw [if_neg c] at hi
      obtain ⟨x, hx, e⟩ := h.al i hi
      obtain ⟨j, hj, rfl⟩ := List.getElem_of_mem hx
      refine ⟨d[j], List.mem_eraseIdx_iff_getElem.2 ⟨j, hj, fun q => ?_, rfl⟩, e⟩
      subst q
      rw [ds_at hk] at c
      exact c e.symm
end Go.Proofs.YtfkijmmflpnncaaDoor.L
