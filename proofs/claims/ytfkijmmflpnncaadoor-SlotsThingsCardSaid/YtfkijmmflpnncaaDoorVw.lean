import Derived.Test.YtfkijmmflpnncaaDoorMgAH
import Derived.Test.YtfkijmmflpnncaaDoorMgAD
namespace Go.Proofs.YtfkijmmflpnncaaDoor.L
open Go.RowKit Bs Go.Maps
set_option linter.unusedVariables false
/-- The value of a name. -/
def vw (l : List Rw) (s : ByteArray) : Option Int := if s.size = 0 then none else (l.find? (fun x => decide (x.1 = s))).map (·.2)
theorem vw_some {m : Nat} {l : List Rw} (ok : OkS m l) {i : Nat} (hi : isT l i = true) : vw l (nm l i) = some (vlu l i) := by
  have h0 := isT_iff.1 hi
  have hl := isT_lt hi
  unfold vw
  rw [if_neg h0]
  cases hf : l.find? (fun x => decide (x.1 = nm l i)) with
  | none =>
    have := List.find?_eq_none.1 hf (l[i]) (List.getElem_mem hl)
    rw [← nm_at hl] at this
    simp at this
  | some x =>
    have hx := List.find?_some hf
    have hx' : x.1 = nm l i := by simpa using hx
    obtain ⟨j, hj, hjx⟩ := List.getElem_of_mem (List.mem_of_find?_eq_some hf)
    have ej : nm l j = nm l i := by rw [nm_at hj, hjx]; exact hx'
    have hjt : isT l j = true := isT_iff.2 (by rw [ej]; exact h0)
    have e := ok.ap j i hjt ej
    subst e
    rw [vlu_at hj, hjx]
    rfl
theorem vw_none {l : List Rw} {s : ByteArray} (h : NoN l s) : vw l s = none := by
  unfold vw
  split
  · rfl
  · rename_i hs
    rw [List.find?_eq_none.2]
    · rfl
    · intro x hx
      obtain ⟨j, hj, hjx⟩ := List.getElem_of_mem hx
      have e : nm l j = x.1 := by rw [nm_at hj, hjx]
      intro c
      have c' : x.1 = s := by simpa using c
      exact h j (isT_iff.2 (by rw [e, c']; exact hs)) (e.trans c')
theorem vw_or {m : Nat} {l : List Rw} (ok : OkS m l) (s : ByteArray) : (NoN l s ∧ vw l s = none) ∨ ∃ i, isT l i = true ∧ nm l i = s ∧ vw l s = some (vlu l i) := by
  rcases there_or l s with h | ⟨i, hi, e⟩
  · exact Or.inl ⟨h, vw_none h⟩
  · exact Or.inr ⟨i, hi, e, by rw [← e]; exact vw_some ok hi⟩
theorem vw_iff {m : Nat} {l : List Rw} (ok : OkS m l) {s : ByteArray} {v : Int} : vw l s = some v ↔ ∃ i, isT l i = true ∧ nm l i = s ∧ vlu l i = v := by
  constructor
  · intro h
    rcases vw_or ok s with ⟨_, e⟩ | ⟨i, hi, e, ev⟩
    · rw [h] at e; cases e
    · rw [h] at ev; injection ev with ev; exact ⟨i, hi, e, ev.symm⟩
  · rintro ⟨i, hi, rfl, rfl⟩
    exact vw_some ok hi
/-- Two tables whose entries agree but for one name. -/
theorem vw_same {m m' : Nat} {l l' : List Rw} (ok : OkS m l) (ok' : OkS m' l') {t : ByteArray} (h : ∀ i, nm l i = t ∨ nm l' i = t → t.size ≠ 0 → nm l' i = nm l i ∧ vlu l' i = vlu l i) : vw l' t = vw l t := by
  rcases vw_or ok t with ⟨hn, e⟩ | ⟨i, hi, hit, e⟩
  · rw [e]
    refine vw_none (fun i hi c => ?_)
    have h0 := isT_iff.1 hi
    rw [c] at h0
    obtain ⟨h1, _⟩ := h i (Or.inr c) h0
    exact hn i (isT_iff.2 (by rw [← h1, c]; exact h0)) (by rw [← h1]; exact c)
  · have h0 := isT_iff.1 hi
    rw [hit] at h0
    obtain ⟨h1, h2⟩ := h i (Or.inl hit) h0
    rw [e, ← h2]
    have ht : isT l' i = true := isT_iff.2 (by rw [h1, hit]; exact h0)
    have := vw_some ok' ht
    rw [h1, hit] at this
    exact this
theorem put_vw (p m : Nat) (l : List Rw) (F : List Nat) (s : ByteArray) (v : Int) (w : World) (h : Tb w p m l F) (ht : Tab w) (hs : s.size ≤ maxLen) (hc : cnt l < m) : Calls Tryd.prog 27 #[.pointer (some ⟨p, 0, none⟩), .string s, .int .i64 v] w fun e w' =>
    ∃ (a b : Int) (l' : List Rw) (F' : List Nat), e = .returned (.tuple #[.int .i64 a, .int .i64 b]) ∧ Tb w' p m l' F' ∧ Mv F F' w w' ∧ cnt l' ≤ cnt l + 1 ∧ ∀ t, vw l' t = if t = s ∧ badB s = false ∧ vw l s = none then some v else vw l t := by
  have ok := h.ok
  cases hb : badB s
  · rcases vw_or ok s with ⟨hn, e⟩ | ⟨i, hi, hn, e⟩
    · refine (put_ok p m l F s v w h ht hb hn hc).mono ?_
      rintro e2 w' ⟨F', rfl, hT, hM⟩
      have hs0 : s.size ≠ 0 := by
        unfold badB at hb
        rw [Bool.or_eq_false_iff, decide_eq_false_iff_not] at hb
        exact hb.1
      have nw := nm_wrt l (low l) (s, v) (low_le l)
      have gw := get_wrt l (low l) (s, v) (low_le l)
      refine ⟨_, _, _, F', rfl, hT, hM, ?_, fun t => ?_⟩
      · rw [cnt_wrt l (low l) (s, v) (low_le l) (low_free l) hs0]; exact Nat.le_refl _
      · by_cases c : t = s
        · subst c
          rw [if_pos ⟨rfl, rfl, e⟩]
          have ht : isT (wrt l (low l) (t, v)) (low l) = true := isT_iff.2 (by rw [nw, if_pos rfl]; exact hs0)
          have := vw_some hT.ok ht
          rw [nw, if_pos rfl] at this
          rw [this]
          unfold vlu
          rw [gw, if_pos rfl]; rfl
        · rw [if_neg (fun d => c d.1)]
          refine vw_same ok hT.ok (fun i hi h0 => ?_)
          have hne : i ≠ low l := by
            intro d
            subst d
            rw [nw, if_pos rfl] at hi
            rcases hi with hi | hi
            · have := isT_no.1 (low_free l)
              rw [hi] at this
              rw [this] at h0; exact h0 rfl
            · exact c hi.symm
          refine ⟨by rw [nw, if_neg hne], ?_⟩
          unfold vlu
          rw [gw, if_neg hne]
    · refine (put_there p m i l F s v w h hb hi hn).mono ?_
      rintro e2 w' ⟨rfl, rfl⟩
      refine ⟨_, _, l, F, rfl, h, Mv.refl _ _, by omega, fun t => ?_⟩
      rw [if_neg (fun d => by rw [e] at d; cases d.2.2)]
  · refine (put_bad p s v w hs hb).mono ?_
    rintro e2 w' ⟨rfl, rfl⟩
    refine ⟨_, _, l, F, rfl, h, Mv.refl _ _, by omega, fun t => ?_⟩
    rw [if_neg (fun d => by cases d.2.1)]
theorem drop_vw (p m : Nat) (l : List Rw) (F : List Nat) (s : ByteArray) (w : World) (h : Tb w p m l F) (hs : s.size ≤ maxLen) : Calls Tryd.prog 28 #[.pointer (some ⟨p, 0, none⟩), .string s] w fun e w' =>
    ∃ (a b : Int) (l' : List Rw) (F' : List Nat), e = .returned (.tuple #[.int .i64 a, .int .i64 b]) ∧ Tb w' p m l' F' ∧ Mv F F' w w' ∧ cnt l' ≤ cnt l ∧ ∀ t, vw l' t = if t = s then none else vw l t := by
  have ok := h.ok
  rcases vw_or ok s with ⟨hn, e⟩ | ⟨i, hi, hn, e⟩
  · have triv : ∀ t, vw l t = if t = s then none else vw l t := fun t => by
      by_cases c : t = s
      · rw [if_pos c, c, e]
      · rw [if_neg c]
    cases hb : badB s
    · refine (drop_no p m l F s w h hb hn).mono ?_
      rintro e2 w' ⟨rfl, rfl⟩
      exact ⟨_, _, l, F, rfl, h, Mv.refl _ _, Nat.le_refl _, triv⟩
    · refine (drop_bad p s w hs hb).mono ?_
      rintro e2 w' ⟨rfl, rfl⟩
      exact ⟨_, _, l, F, rfl, h, Mv.refl _ _, Nat.le_refl _, triv⟩
  · have hb : badB s = false := by
      have h1 := isT_iff.1 hi
      have h2 := ok.sz i
      rw [hn] at h1 h2
      unfold badB
      rw [Bool.or_eq_false_iff, decide_eq_false_iff_not, decide_eq_false_iff_not]
      omega
    refine (drop_ok p m i l F s w h hb hi hn).mono ?_
    rintro e2 w' ⟨F', rfl, hT, hM⟩
    have nw := nm_drop (v := (0 : Int)) hi
    refine ⟨_, _, _, F', rfl, hT, hM, ?_, fun t => ?_⟩
    · have := cnt_drop (v := (0 : Int)) hi; omega
    · by_cases c : t = s
      · rw [if_pos c]
        refine vw_none (fun j hj cj => ?_)
        have h0 := isT_iff.1 hj
        rw [nw] at h0 cj
        by_cases d : j = i
        · rw [if_pos d] at h0; exact h0 rfl
        · rw [if_neg d] at h0 cj
          exact d (ok.ap j i (isT_iff.2 h0) (by rw [cj, c, hn]))
      · rw [if_neg c]
        refine vw_same ok hT.ok (fun j hj h0 => ?_)
        have hne : j ≠ i := by
          intro d
          subst d
          rw [nw, if_pos rfl] at hj
          rcases hj with hj | hj
          · exact c (hj.symm.trans hn)
          · rw [← hj] at h0; exact h0 rfl
        have en : nm (trim (l.set i (ByteArray.empty, 0))) j = nm l j := by rw [nw, if_neg hne]
        refine ⟨en, ?_⟩
        have hjt : isT l j = true := isT_iff.2 (by
          rcases hj with hj | hj
          · rw [hj]; exact h0
          · rw [en] at hj; rw [hj]; exact h0)
        unfold vlu
        rw [get_trim _ j (by
          rw [isT_iff, nm_set l i _ (isT_lt hi), if_neg hne]
          exact isT_iff.1 hjt), List.getElem?_set_ne (fun d => hne d.symm)]
/-- The names of a table, by slot. -/
def nmL (l : List Rw) : List ByteArray := (tk (bs l)).map (·.2)
theorem nmS_bs (l : List Rw) (j : Nat) : nmS (bs l) j = nm l j := by
  unfold nmS bs nm
  rw [List.getD_eq_getElem?_getD, List.getElem?_map]
theorem tkK_mem (ss : List ByteArray) (x : Sn) : ∀ k, x ∈ tkK ss k ↔ x.1 < k ∧ x.2 = nmS ss x.1 ∧ (nmS ss x.1).size ≠ 0
  | 0 => by simp [tkK]
  | k + 1 => by
    rw [tkK, List.mem_append, tkK_mem ss x k]
    obtain ⟨j, s⟩ := x
    constructor
    · rintro (⟨h1, h2, h3⟩ | h)
      · exact ⟨by omega, h2, h3⟩
      · split at h
        · cases h
        · rename_i h0
          simp at h
          obtain ⟨rfl, rfl⟩ := h
          exact ⟨Nat.lt_succ_self _, rfl, h0⟩
    · rintro ⟨h1, h2, h3⟩
      by_cases e : j < k
      · exact Or.inl ⟨e, h2, h3⟩
      · right
        obtain rfl : j = k := by simp at h1; omega
        rw [if_neg h3]
        simp at h2
        simp [h2]
theorem nmL_mem {m : Nat} {l : List Rw} (ok : OkS m l) (s : ByteArray) : s ∈ nmL l ↔ vw l s ≠ none := by
  unfold nmL
  rw [List.mem_map]
  constructor
  · rintro ⟨x, hx, rfl⟩
    obtain ⟨h1, h2, h3⟩ := (tkK_mem (bs l) x _).1 hx
    rw [nmS_bs] at h2 h3
    have := vw_some ok (isT_iff.2 h3)
    rw [← h2] at this
    rw [this]; simp
  · intro h
    rcases vw_or ok s with ⟨_, e⟩ | ⟨i, hi, e, _⟩
    · exact absurd e h
    · refine ⟨(i, s), (tkK_mem (bs l) (i, s) _).2 ⟨?_, ?_, ?_⟩, rfl⟩
      · have := isT_lt hi
        unfold bs; simpa using this
      · rw [nmS_bs]; exact e.symm
      · rw [nmS_bs]; exact isT_iff.1 hi
theorem nmK_nodup {m : Nat} {l : List Rw} (ok : OkS m l) : ∀ k, ((tkK (bs l) k).map (·.2)).Nodup
  | 0 => by simp [tkK]
  | k + 1 => by
    rw [tkK, List.map_append]
    split
    · simpa using nmK_nodup ok k
    · rename_i h0
      rw [List.nodup_append]
      refine ⟨nmK_nodup ok k, by simp, fun a ha b hb c => ?_⟩
      simp at hb
      subst hb
      subst c
      obtain ⟨x, hx, e⟩ := List.mem_map.1 ha
      obtain ⟨h1, h2, h3⟩ := (tkK_mem (bs l) x k).1 hx
      rw [nmS_bs] at h0 e h2 h3
      have := ok.ap x.1 k (isT_iff.2 h3) (by rw [← h2, e])
      omega
theorem nmL_nodup {m : Nat} {l : List Rw} (ok : OkS m l) : (nmL l).Nodup := nmK_nodup ok _
theorem cnt_take : ∀ (l : List Rw) (k : Nat), k ≤ l.length → cnt (l.take k) = (tkK (bs l) k).length
  | l, 0, _ => by simp [cnt, tkK]
  | l, k + 1, h => by
    have hk : k < l.length := by omega
    rw [List.take_succ_eq_append_getElem hk, cnt_app, cnt_take l k (by omega), tkK, List.length_append, nmS_bs, nm_at hk]
    split <;> simp_all [cnt]
theorem nmL_len (l : List Rw) : (nmL l).length = cnt l := by
  unfold nmL tk
  rw [List.length_map, ← cnt_take l (bs l).length (by unfold bs; simp)]
  unfold bs
  simp
/-- Tables with the same names. -/
theorem nmL_same {m m' : Nat} {l l' : List Rw} (ok : OkS m l) (ok' : OkS m' l') (h : ∀ s, vw l s ≠ none ↔ vw l' s ≠ none) : (nmL l).Perm (nmL l') := by
  letI i1 : BEq ByteArray := instBEqOfDecidableEq
  refine (@List.perm_iff_count ByteArray i1 _ _ _).2 fun a => ?_
  have e1 := @List.Nodup.count ByteArray i1 _ a (nmL l) (nmL_nodup ok)
  have e2 := @List.Nodup.count ByteArray i1 _ a (nmL l') (nmL_nodup ok')
  rw [e1, e2]
  have : a ∈ nmL l ↔ a ∈ nmL l' := by rw [nmL_mem ok, nmL_mem ok']; exact h a
  by_cases c : a ∈ nmL l
  · rw [if_pos c, if_pos (this.1 c)]
  · rw [if_neg c, if_neg (fun d => c (this.2 d))]
theorem srt_perm {a b : List ByteArray} (h : a.Perm b) : srt a = srt b := by
  unfold srt
  congr 1
  unfold srtL lsB
  have hp : (a.map fun s => s.data.toList).Perm (b.map fun s => s.data.toList) := h.map _
  refine List.Perm.eq_of_pairwise (le := fun x y => decide (x ≤ y) = true) (fun x y _ _ h1 h2 => List.le_antisymm (by simpa using h1) (by simpa using h2)) ?_ ?_ (((List.mergeSort_perm _ _).trans hp).trans (List.mergeSort_perm _ _).symm)
  · exact List.pairwise_mergeSort (fun a b c h1 h2 => by simp at *; exact List.le_trans h1 h2) (fun a b => by simpa using List.le_total a b) _
  · exact List.pairwise_mergeSort (fun a b c h1 h2 => by simp at *; exact List.le_trans h1 h2) (fun a b => by simpa using List.le_total a b) _
theorem srt_mem (a : List ByteArray) (s : ByteArray) : s ∈ srt a ↔ s ∈ a := by
  unfold srt bsL srtL lsB
  rw [List.mem_map]
  constructor
  · rintro ⟨b, hb, rfl⟩
    have := (List.mergeSort_perm _ _).mem_iff.1 hb
    obtain ⟨t, ht, rfl⟩ := List.mem_map.1 this
    simpa using ht
  · intro h
    exact ⟨s.data.toList, (List.mergeSort_perm _ _).mem_iff.2 (List.mem_map.2 ⟨s, h, rfl⟩), by simp⟩
end Go.Proofs.YtfkijmmflpnncaaDoor.L
