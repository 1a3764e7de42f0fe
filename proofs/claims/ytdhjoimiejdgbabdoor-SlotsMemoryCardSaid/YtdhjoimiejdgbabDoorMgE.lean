import Derived.Test.YtdhjoimiejdgbabDoorSnm
import Derived.Test.YtdhjoimiejdgbabDoorMgJ
namespace Go.Proofs.YtdhjoimiejdgbabDoor.L
open Go.RowKit Bs Go.Maps
set_option linter.unusedVariables false
/-- The value of a name. -/
def vw (l : List Rw) (s : ByteArray) : Option Int := if s.size = 0 then none else (l.find? (fun x => decide (x.1 = s))).map (·.2)
theorem vw_some {m : Nat} {l : List Rw} (ok : OkS m l) {i : Nat} (hi : isT l i = true) : vw l (nm l i) = some (vlu l i) := by
  have h0 := isT_iff.1 hi
  have hl := isT_lt hi
  unfold vw
  rw [if_neg h0]
  cases hf : l.find? (fun x => decide (x.1 = nm l i)) with
  | none =>
    have := List.find?_eq_none.1 hf (l[i]) (List.getElem_mem hl)
    rw [← nm_at hl] at this
    simp at this
  | some x =>
    have hx := List.find?_some hf
    have hx' : x.1 = nm l i := by simpa using hx
    obtain ⟨j, hj, hjx⟩ := List.getElem_of_mem (List.mem_of_find?_eq_some hf)
    have ej : nm l j = nm l i := by rw [nm_at hj, hjx]; exact hx'
    have hjt : isT l j = true := isT_iff.2 (by rw [ej]; exact h0)
    have e := ok.ap j i hjt ej
    subst e
    rw [vlu_at hj, hjx]
    rfl
theorem vw_none {l : List Rw} {s : ByteArray} (h : NoN l s) : vw l s = none := by
  unfold vw
  split
  · rfl
  · rename_i hs
    rw [List.find?_eq_none.2]
    · rfl
    · intro x hx
      obtain ⟨j, hj, hjx⟩ := List.getElem_of_mem hx
      have e : nm l j = x.1 := by rw [nm_at hj, hjx]
      intro c
      have c' : x.1 = s := by simpa using c
      exact h j (isT_iff.2 (by rw [e, c']; exact hs)) (e.trans c')
theorem vw_or {m : Nat} {l : List Rw} (ok : OkS m l) (s : ByteArray) : (NoN l s ∧ vw l s = none) ∨ ∃ i, isT l i = true ∧ nm l i = s ∧ vw l s = some (vlu l i) := by
  rcases there_or l s with h | ⟨i, hi, e⟩
  · exact Or.inl ⟨h, vw_none h⟩
  · exact Or.inr ⟨i, hi, e, by rw [← e]; exact vw_some ok hi⟩
theorem vw_iff {m : Nat} {l : List Rw} (ok : OkS m l) {s : ByteArray} {v : Int} : vw l s = some v ↔ ∃ i, isT l i = true ∧ nm l i = s ∧ vlu l i = v := by
  constructor
  · intro h
    rcases vw_or ok s with ⟨_, e⟩ | ⟨i, hi, e, ev⟩
    · rw [h] at e; cases e
    · rw [h] at ev; injection ev with ev; exact ⟨i, hi, e, ev.symm⟩
  · rintro ⟨i, hi, rfl, rfl⟩
    exact vw_some ok hi
/-- Two tables whose entries agree but for one name. -/
theorem vw_same {m m' : Nat} {l l' : List Rw} (ok : OkS m l) (ok' : OkS m' l') {t : ByteArray} (h : ∀ i, nm l i = t ∨ nm l' i = t → t.size ≠ 0 → nm l' i = nm l i ∧ vlu l' i = vlu l i) : vw l' t = vw l t := by
  rcases vw_or ok t with ⟨hn, e⟩ | ⟨i, hi, hit, e⟩
  · rw [e]
    refine vw_none (fun i hi c => ?_)
    have h0 := isT_iff.1 hi
    rw [c] at h0
    obtain ⟨h1, _⟩ := h i (Or.inr c) h0
    exact hn i (isT_iff.2 (by rw [← h1, c]; exact h0)) (by rw [← h1]; exact c)
  · have h0 := isT_iff.1 hi
    rw [hit] at h0
    obtain ⟨h1, h2⟩ := h i (Or.inl hit) h0
    rw [e, ← h2]
    have ht : isT l' i = true := isT_iff.2 (by rw [h1, hit]; exact h0)
    have := vw_some ok' ht
    rw [h1, hit] at this
    exact this
theorem put_vw (p m : Nat) (l : List Rw) (F : List Nat) (s : ByteArray) (v : Int) (w : World) (h : Tb w p m l F) (ht : Tab w) (hs : s.size ≤ maxLen) (hc : cnt l < m) : Calls Tryd.prog 7 #[.pointer (some ⟨p, 0, none⟩), .string s, .int .i64 v] w fun e w' =>
    ∃ (a b : Int) (l' : List Rw) (F' : List Nat), e = .returned (.tuple #[.int .i64 a, .int .i64 b]) ∧ Tb w' p m l' F' ∧ Mv F F' w w' ∧ cnt l' ≤ cnt l + 1 ∧ ∀ t, vw l' t = if t = s ∧ badB s = false ∧ vw l s = none then some v else vw l t := by
  have ok := h.ok
  cases hb : badB s
  · rcases vw_or ok s with ⟨hn, e⟩ | ⟨i, hi, hn, e⟩
    · refine (put_ok p m l F s v w h ht hb hn hc).mono ?_
      rintro e2 w' ⟨F', rfl, hT, hM⟩
      have hs0 : s.size ≠ 0 := by
        unfold badB at hb
        rw [Bool.or_eq_false_iff, decide_eq_false_iff_not] at hb
        exact hb.1
      have nw := nm_wrt l (low l) (s, v) (low_le l)
      have gw := get_wrt l (low l) (s, v) (low_le l)
      refine ⟨_, _, _, F', rfl, hT, hM, ?_, fun t => ?_⟩
      · rw [cnt_wrt l (low l) (s, v) (low_le l) (low_free l) hs0]; exact Nat.le_refl _
      · by_cases c : t = s
        · subst c
          rw [if_pos ⟨rfl, rfl, e⟩]
          have ht : isT (wrt l (low l) (t, v)) (low l) = true := isT_iff.2 (by rw [nw, if_pos rfl]; exact hs0)
          have := vw_some hT.ok ht
          rw [nw, if_pos rfl] at this
          rw [this]
          unfold vlu
          rw [gw, if_pos rfl]; rfl
        · rw [if_neg (fun d => c d.1)]
          refine vw_same ok hT.ok (fun i hi h0 => ?_)
          have hne : i ≠ low l := by
            intro d
            subst d
            rw [nw, if_pos rfl] at hi
            rcases hi with hi | hi
            · have := isT_no.1 (low_free l)
              rw [hi] at this
              rw [this] at h0; exact h0 rfl
            · exact c hi.symm
          refine ⟨by rw [nw, if_neg hne], ?_⟩
          unfold vlu
          rw [gw, if_neg hne]
    · refine (put_there p m i l F s v w h hb hi hn).mono ?_
      rintro e2 w' ⟨rfl, rfl⟩
      refine ⟨_, _, l, F, rfl, h, Mv.refl _ _, by omega, fun t => ?_⟩
      rw [if_neg (fun d => by rw [e] at d; cases d.2.2)]
  · refine (put_bad p s v w hs hb).mono ?_
    rintro e2 w' ⟨rfl, rfl⟩
    refine ⟨_, _, l, F, rfl, h, Mv.refl _ _, by omega, fun t => ?_⟩
    rw [if_neg (fun d => by cases d.2.1)]
theorem drop_vw (p m : Nat) (l : List Rw) (F : List Nat) (s : ByteArray) (w : World) (h : Tb w p m l F) (hs : s.size ≤ maxLen) : Calls Tryd.prog 8 #[.pointer (some ⟨p, 0, none⟩), .string s] w fun e w' =>
    ∃ (a b : Int) (l' : List Rw) (F' : List Nat), e = .returned (.tuple #[.int .i64 a, .int .i64 b]) ∧ Tb w' p m l' F' ∧ Mv F F' w w' ∧ cnt l' ≤ cnt l ∧ ∀ t, vw l' t = if t = s then none else vw l t := by
  have ok := h.ok
  rcases vw_or ok s with ⟨hn, e⟩ | ⟨i, hi, hn, e⟩
  · have triv : ∀ t, vw l t = if t = s then none else vw l t := fun t => by
      by_cases c : t = s
      · rw [if_pos c, c, e]
      · rw [if_neg c]
    cases hb : badB s
    · refine (drop_no p m l F s w h hb hn).mono ?_
      rintro e2 w' ⟨rfl, rfl⟩
      exact ⟨_, _, l, F, rfl, h, Mv.refl _ _, Nat.le_refl _, triv⟩
    · refine (drop_bad p s w hs hb).mono ?_
      rintro e2 w' ⟨rfl, rfl⟩
      exact ⟨_, _, l, F, rfl, h, Mv.refl _ _, Nat.le_refl _, triv⟩
  · have hb : badB s = false := by
      have h1 := isT_iff.1 hi
      have h2 := ok.sz i
      rw [hn] at h1 h2
      unfold badB
      rw [Bool.or_eq_false_iff, decide_eq_false_iff_not, decide_eq_false_iff_not]
      omega
    refine (drop_ok p m i l F s w h hb hi hn).mono ?_
    rintro e2 w' ⟨F', rfl, hT, hM⟩
    have nw := nm_drop (v := (0 : Int)) hi
    refine ⟨_, _, _, F', rfl, hT, hM, ?_, fun t => ?_⟩
    · have := cnt_drop (v := (0 : Int)) hi; omega
    · by_cases c : t = s
      · rw [if_pos c]
        refine vw_none (fun j hj cj => ?_)
        have h0 := isT_iff.1 hj
        rw [nw] at h0 cj
        by_cases d : j = i
        · rw [if_pos d] at h0; exact h0 rfl
        · rw [if_neg d] at h0 cj
          exact d (ok.ap j i (isT_iff.2 h0) (by rw [cj, c, hn]))
      · rw [if_neg c]
        refine vw_same ok hT.ok (fun j hj h0 => ?_)
        have hne : j ≠ i := by
          intro d
          subst d
          rw [nw, if_pos rfl] at hj
          rcases hj with hj | hj
          · exact c (hj.symm.trans hn)
          · rw [← hj] at h0; exact h0 rfl
        have en : nm (trim (l.set i (ByteArray.empty, 0))) j = nm l j := by rw [nw, if_neg hne]
        refine ⟨en, ?_⟩
        have hjt : isT l j = true := isT_iff.2 (by
          rcases hj with hj | hj
          · rw [hj]; exact h0
          · rw [en] at hj; rw [hj]; exact h0)
        unfold vlu
        rw [get_trim _ j (by
          rw [isT_iff, nm_set l i _ (isT_lt hi), if_neg hne]
          exact isT_iff.1 hjt), List.getElem?_set_ne (fun d => hne d.symm)]
theorem set_vw (p m : Nat) (l : List Rw) (F : List Nat) (s : ByteArray) (u v : Int) (w : World) (h : Tb w p m l F) (hu : vw l s = some u) : Calls Tryd.prog 10 #[.pointer (some ⟨p, 0, none⟩), .string s, .int .i64 v] w fun e w' =>
    ∃ l' : List Rw, e = .returned (.int .i64 0) ∧ Tb w' p m l' F ∧ Mv F F w w' ∧ cnt l' = cnt l ∧ ∀ t, vw l' t = if t = s then some v else vw l t := by
  have ok := h.ok
  obtain ⟨i, hi, hn, _⟩ := (vw_iff ok).1 hu
  have h0 : s.size ≠ 0 := by rw [← hn]; exact isT_iff.1 hi
  have hb : badB s = false := by
    have h2 := ok.sz i
    rw [hn] at h2
    unfold badB
    rw [Bool.or_eq_false_iff, decide_eq_false_iff_not, decide_eq_false_iff_not]
    omega
  have hl := isT_lt hi
  refine (set_ok p m i l F s v w h hb hi hn).mono ?_
  rintro e2 w' ⟨rfl, hT, hM⟩
  have nw := nm_set l i (s, v) hl
  have nn : ∀ j, nm (l.set i (s, v)) j = nm l j := fun j => by
    rw [nw]
    split
    · rename_i c; rw [c]; exact hn.symm
    · rfl
  refine ⟨_, rfl, hT, hM, ?_, fun t => ?_⟩
  · have := cnt_set l i (s, v) hl
    rw [hi, if_neg h0] at this
    simp at this
    omega
  · by_cases c : t = s
    · rw [if_pos c, c]
      have ht : isT (l.set i (s, v)) i = true := isT_iff.2 (by rw [nn]; exact isT_iff.1 hi)
      have := vw_some hT.ok ht
      rw [nn, hn] at this
      rw [this]
      unfold vlu
      simp [hl]
    · rw [if_neg c]
      refine vw_same ok hT.ok (fun j hj h0 => ⟨nn j, ?_⟩)
      have hne : j ≠ i := by
        intro d
        subst d
        rw [nn] at hj
        rcases hj with hj | hj <;> exact c (hj.symm.trans hn)
      unfold vlu
      rw [List.getElem?_set_ne (fun d => hne d.symm)]
theorem find_vw (p m : Nat) (l : List Rw) (F : List Nat) (s : ByteArray) (w : World) (h : Tb w p m l F) (hs : s.size ≤ maxLen) : Calls Tryd.prog 9 #[.pointer (some ⟨p, 0, none⟩), .string s] w fun e w' =>
    ∃ (i : Nat) (v : Int) (b : Bool), e = .returned (.tuple #[.int .i64 (i : Int), .int .i64 v, .bool b]) ∧ (∃ n, w' = w.drewN n) ∧ ((b = true ∧ vw l s = some v ∧ isT l i = true ∧ nm l i = s ∧ vlu l i = v) ∨ (b = false ∧ vw l s = none)) := by
  rcases vw_or h.ok s with ⟨hn, e⟩ | ⟨i, hi, hn, e⟩
  · refine (find_no p m l F s w h hs hn).mono ?_
    rintro e2 w' ⟨rfl, rfl⟩
    exact ⟨0, 0, false, rfl, ⟨0, rfl⟩, Or.inr ⟨rfl, e⟩⟩
  · refine (find_yes p m i l F s w h hi hn).mono ?_
    rintro e2 w' ⟨rfl, hw⟩
    exact ⟨i, vlu l i, true, rfl, hw, Or.inl ⟨rfl, e, hi, hn, rfl⟩⟩
/-! ### names -/
/-- The names of a table, by slot. -/
def nmL (l : List Rw) : List ByteArray := (tk (bs l)).map (·.2)
theorem nmS_bs (l : List Rw) (j : Nat) : nmS (bs l) j = nm l j := by
  unfold nmS bs nm
  rw [List.getD_eq_getElem?_getD, List.getElem?_map]
theorem tkK_mem (ss : List ByteArray) (x : Sn) : ∀ k, x ∈ tkK ss k ↔ x.1 < k ∧ x.2 = nmS ss x.1 ∧ (nmS ss x.1).size ≠ 0
  | 0 => by simp [tkK]
  | k + 1 => by
    rw [tkK, List.mem_append, tkK_mem ss x k]
    obtain ⟨j, s⟩ := x
    constructor
    · rintro (⟨h1, h2, h3⟩ | h)
      · exact ⟨by omega, h2, h3⟩
      · split at h
        · cases h
        · rename_i h0
          simp at h
          obtain ⟨rfl, rfl⟩ := h
          exact ⟨Nat.lt_succ_self _, rfl, h0⟩
    · rintro ⟨h1, h2, h3⟩
      by_cases e : j < k
      · exact Or.inl ⟨e, h2, h3⟩
      · right
        obtain rfl : j = k := by simp at h1; omega
        rw [if_neg h3]
        simp at h2
        simp [h2]
theorem nmL_mem {m : Nat} {l : List Rw} (ok : OkS m l) (s : ByteArray) : s ∈ nmL l ↔ vw l s ≠ none := by
  unfold nmL
  rw [List.mem_map]
  constructor
  · rintro ⟨x, hx, rfl⟩
    obtain ⟨h1, h2, h3⟩ := (tkK_mem (bs l) x _).1 hx
    rw [nmS_bs] at h2 h3
    have := vw_some ok (isT_iff.2 h3)
    rw [← h2] at this
    rw [this]; simp
  · intro h
    rcases vw_or ok s with ⟨_, e⟩ | ⟨i, hi, e, _⟩
    · exact absurd e h
    · refine ⟨(i, s), (tkK_mem (bs l) (i, s) _).2 ⟨?_, ?_, ?_⟩, rfl⟩
      · have := isT_lt hi
        unfold bs; simpa using this
      · rw [nmS_bs]; exact e.symm
      · rw [nmS_bs]; exact isT_iff.1 hi
theorem nmK_nodup {m : Nat} {l : List Rw} (ok : OkS m l) : ∀ k, ((tkK (bs l) k).map (·.2)).Nodup
  | 0 => by simp [tkK]
  | k + 1 => by
    rw [tkK, List.map_append]
    split
    · simpa using nmK_nodup ok k
    · rename_i h0
      rw [List.nodup_append]
      refine ⟨nmK_nodup ok k, by simp, fun a ha b hb c => ?_⟩
      simp at hb
      subst hb
      subst c
      obtain ⟨x, hx, e⟩ := List.mem_map.1 ha
      obtain ⟨h1, h2, h3⟩ := (tkK_mem (bs l) x k).1 hx
      rw [nmS_bs] at h0 e h2 h3
      have := ok.ap x.1 k (isT_iff.2 h3) (by rw [← h2, e])
      omega
theorem nmL_nodup {m : Nat} {l : List Rw} (ok : OkS m l) : (nmL l).Nodup := nmK_nodup ok _
theorem cnt_take : ∀ (l : List Rw) (k : Nat), k ≤ l.length → cnt (l.take k) = (tkK (bs l) k).length
  | l, 0, _ => by simp [cnt, tkK]
  | l, k + 1, h => by
    have hk : k < l.length := by omega
    rw [List.take_succ_eq_append_getElem hk, cnt_app, cnt_take l k (by omega), tkK, List.length_append, nmS_bs, nm_at hk]
    split <;> simp_all [cnt]
theorem nmL_len (l : List Rw) : (nmL l).length = cnt l := by
  unfold nmL tk
  rw [List.length_map, ← cnt_take l (bs l).length (by unfold bs; simp)]
  unfold bs
  simp
/-- Tables with the same names. -/
theorem nmL_same {m m' : Nat} {l l' : List Rw} (ok : OkS m l) (ok' : OkS m' l') (h : ∀ s, vw l s ≠ none ↔ vw l' s ≠ none) : (nmL l).Perm (nmL l') := by
  letI i1 : BEq ByteArray := instBEqOfDecidableEq
  refine (@List.perm_iff_count ByteArray i1 _ _ _).2 fun a => ?_
  have e1 := @List.Nodup.count ByteArray i1 _ a (nmL l) (nmL_nodup ok)
  have e2 := @List.Nodup.count ByteArray i1 _ a (nmL l') (nmL_nodup ok')
  rw [e1, e2]
  have : a ∈ nmL l ↔ a ∈ nmL l' := by rw [nmL_mem ok, nmL_mem ok']; exact h a
  by_cases c : a ∈ nmL l
  · rw [if_pos c, if_pos (this.1 c)]
  · rw [if_neg c, if_neg (fun d => c (this.2 d))]
theorem srt_perm {a b : List ByteArray} (h : a.Perm b) : srt a = srt b := by
  unfold srt
  congr 1
  unfold srtL lsB
  have hp : (a.map fun s => s.data.toList).Perm (b.map fun s => s.data.toList) := h.map _
  refine List.Perm.eq_of_pairwise (le := fun x y => decide (x ≤ y) = true) (fun x y _ _ h1 h2 => List.le_antisymm (by simpa using h1) (by simpa using h2)) ?_ ?_ (((List.mergeSort_perm _ _).trans hp).trans (List.mergeSort_perm _ _).symm)
  · exact List.pairwise_mergeSort (fun a b c h1 h2 => by simp at *; exact List.le_trans h1 h2) (fun a b => by simpa using List.le_total a b) _
  · exact List.pairwise_mergeSort (fun a b c h1 h2 => by simp at *; exact List.le_trans h1 h2) (fun a b => by simpa using List.le_total a b) _
theorem srt_mem (a : List ByteArray) (s : ByteArray) : s ∈ srt a ↔ s ∈ a := by
  unfold srt bsL srtL lsB
  rw [List.mem_map]
  constructor
  · rintro ⟨b, hb, rfl⟩
    have := (List.mergeSort_perm _ _).mem_iff.1 hb
    obtain ⟨t, ht, rfl⟩ := List.mem_map.1 this
    simpa using ht
  · intro h
    exact ⟨s.data.toList, (List.mergeSort_perm _ _).mem_iff.2 (List.mem_map.2 ⟨s, h, rfl⟩), by simp⟩
theorem names_any (p m : Nat) (l : List Rw) (F : List Nat) (w : World) (h : Tb w p m l F) : Calls Tryd.prog 12 #[.pointer (some ⟨p, 0, none⟩)] w fun e w' => ∃ v, e = .returned v ∧ OwnS w' w.heap.size v (srt (nmL l)) ∧ Below w.heap.size w w' :=
  names_core _ (bs l) (cnt l) w (Nat.le_trans h.ok.ct h.ok.mm) (by have := Nat.le_trans h.ok.le h.ok.mm; unfold bs; simpa using this) (hid (len_any p m l F w h)) (hid (fun W hb => all_any p m l F W (h.low hb)))
theorem names_nil (w : World) : Calls Tryd.prog 12 #[.pointer none] w fun e w' => ∃ v, e = .returned v ∧ OwnS w' w.heap.size v [] ∧ Below w.heap.size w w' := by
  have e : srt ((tk []).map (·.2)) = [] := by simp [srt, srtL, lsB, bsL, tk, tkK]
  have h := names_core (.pointer none) [] 0 w (Nat.zero_le _) (Nat.zero_le _) (hid (len_nil w)) (hid (fun W hb => all_nil W))
  rw [e] at h
  exact h
end Go.Proofs.YtdhjoimiejdgbabDoor.L
namespace Go.Proofs.YtdhjoimiejdgbabDoor.L
open Go.RowKit Go.Shelf
set_option linter.unusedVariables false
attribute [local go_sem] Oper.semAt_some
theorem infoP : (Tryd.prog.info? 95).map (fun i => (i.zero, i.size, i.bytes)) = some (some (.agg #[.int .i64 0, .string ByteArray.empty]), 2, 24) := by kernel_rfl
def cellsP (l : List Sn) : List Value := l.flatMap fun x => [.int .i64 (x.1 : Int), .string x.2]
theorem cellsP_snoc (l : List Sn) (x : Sn) : cellsP (l ++ [x]) = cellsP l ++ [.int .i64 (x.1 : Int), .string x.2] := by simp [cellsP]
theorem run_eql_walk (w : World) (f : Fn) (a b : Array Value) : (binOp .eql 68 (.func f a b) .nilFunc).run Tryd.prog w = .ok (.bool false) w := by
  have h : ∀ d, (Op.equalIn (d + 1) 68 (.func f a b) .nilFunc).run Tryd.prog w = .ok false w := fun d => by
    simp [Op.equalIn, run_underlying Tryd.underlying68]
  simp only [binOp]
  simp [Op.equal, Op.maxDepth, h 9999]
theorem cell_two_new2 (w : World) (x y : Value) (t : TypeId) : ∀ j u, [x, y][j]? = some u → (w.alloc (.cells #[x, y] t)).cell? ((⟨w.heap.size, 0, none⟩ : Addr).add j) = some u := by
  intro j u h
  rw [Go.WideShapes.add_plain]
  rw [cell_of_row (w.alloc (.cells #[x, y] t)) w.heap.size (0 + j) _ _ _ (heap_alloc_new w _)]
  simpa using h
abbrev OwnP (w : World) (base : Nat) (v : Value) (ps : List Sn) : Prop := w.ownsRow base 95 2 v ps.length (cellsP ps)
set_option maxHeartbeats 4000000 in
set_option maxRecDepth 100000 in
theorem taken_zero (pv : Value) (n : Int) (w : World) (hn : n ≤ 0) : Calls Tryd.prog 33 #[pv, .int .i64 n] w fun e w' => ∃ v, e = .returned v ∧ OwnP w' w.heap.size v [] ∧ Below w.heap.size w w' := by
  have HB := hid ((((Below.refl _ w).alloc (Nat.le_refl _) (.cells #[.int .i64 n] 3)).alloc (by simp) (.cells #[] 95)).alloc (B := w.heap.size) (by simp; omega) (.cells #[.slice (some ⟨w.heap.size + 1, 0, none⟩) 0 0] 80))
  have hO : ((w.alloc (.cells #[.int .i64 n] 3)).alloc (.cells #[] 95)).ownsRow w.heap.size 95 2 (.slice (some ⟨w.heap.size + 1, 0, none⟩) 0 0) 0 [] := by
    have := World.ownsRow_made (w.alloc (.cells #[.int .i64 n] 3)) (e := 95) (size := 2) #[] 0 (base := w.heap.size) (by simp) (Nat.zero_le _) rfl
    simpa using this
  have HO := hid (hO.alloc (.cells #[.slice (some ⟨w.heap.size + 1, 0, none⟩) 0 0] 80))
  clear hO
  go_enter Tryd.func33, Tryd.ntmps33
  go_wp2
  go_ret
  exact ⟨_, rfl, HO.out, HB.out⟩
set_option maxHeartbeats 4000000 in
set_option maxRecDepth 100000 in
theorem taken_core (pv : Value) (ss : List ByteArray) (n : Nat) (w : World) (hn0 : 0 < n) (hnm : n ≤ 66000) (hl : ss.length ≤ 65536)
    (AL : Hid (∀ W, Below w.heap.size w W → Calls Tryd.prog 24 #[pv] W fun e w' => ∃ X v, e = .returned (allF X) ∧ W.heap.size ≤ X ∧ w'.heap[X]? = some (.cells #[v] 22 (0, 0)) ∧ OwnS w' W.heap.size v ss ∧ Below W.heap.size W w')) :
    Calls Tryd.prog 33 #[pv, .int .i64 (n : Int)] w fun e w' => ∃ v, e = .returned v ∧ OwnP w' w.heap.size v ((tk ss).take n) ∧ Below w.heap.size w w' := by
  obtain ⟨i0, hi, hz0, hz1, hz2⟩ := info_parts infoP
  have hq := run_eql_walk
  have hnp : ¬ ((n : Int) ≤ 0) := by omega
  have hnp2 : decide ((n : Int) ≤ 0) = false := decide_eq_false hnp
  refine (callsIn_wide (n := 3)).1 ?_
  refine callsIn_of_wp_marks Tryd.func33 rfl trivial ?_ rfl
  simp only [Tryd.ntmps33, List.size_toArray, List.length_cons, List.length_nil, Nat.reduceAdd, Nat.reduceSub, Array.replicate_succ, Array.replicate_zero, List.push_toArray, List.append_toArray, List.nil_append, List.cons_append]
  have BW2 : Below w.heap.size w (((w.alloc (.cells #[.int .i64 (n : Int)] 3)).alloc (.cells #[] 95)).alloc (.cells #[.slice (some ⟨w.heap.size + 1, 0, none⟩) 0 0] 80)) := (((Below.refl _ w).alloc (Nat.le_refl _) _).alloc (by simp) _).alloc (by simp; omega) _
  gi_wp2_with (first
    | (refine ⟨trivial, ?_⟩; gi_at_call 24; refine (callsIn_wide.2 (AL.out _ BW2)).mono ?_
       rintro e w3 ⟨X, v3, he, hX, hbox, O3, B3⟩; unfold allF at he; subst he))
  obtain ⟨w2', hw2'⟩ : ∃ W, W = ((w.alloc (.cells #[.int .i64 (n : Int)] 3)).alloc (.cells #[] 95)).alloc (.cells #[.slice (some ⟨w.heap.size + 1, 0, none⟩) 0 0] 80) := ⟨_, rfl⟩
  rw [← hw2'] at hX O3 B3 BW2
  have hs2' : w2'.heap.size = w.heap.size + 3 := by rw [hw2']; simp
  have bx2 : Boxed w2' (w.heap.size + 1 + 1) 80 (.slice (some ⟨w.heap.size + 1, 0, none⟩) 0 0) := by
    have := heap_alloc_new ((w.alloc (.cells #[.int .i64 (n : Int)] 3)).alloc (.cells #[] 95)) (.cells #[.slice (some ⟨w.heap.size + 1, 0, none⟩) 0 0] 80)
    rw [← hw2'] at this
    unfold Boxed
    simpa using this
  have nb2 : Boxed w2' w.heap.size 3 (.int .i64 (n : Int)) := by
    rw [hw2']
    exact ((Boxed.new w _ _).alloc _).alloc _
  have ow2 : w2'.ownsRow w.heap.size 95 2 (.slice (some ⟨w.heap.size + 1, 0, none⟩) 0 0) 0 [] := by
    rw [hw2']
    have := World.ownsRow_made (w.alloc (.cells #[.int .i64 (n : Int)] 3)) (e := 95) (size := 2) #[] 0 (base := w.heap.size) (by simp) (Nat.zero_le _) rfl
    exact (by simpa using this : ((w.alloc (.cells #[.int .i64 (n : Int)] 3)).alloc (.cells #[] 95)).ownsRow w.heap.size 95 2 (.slice (some ⟨w.heap.size + 1, 0, none⟩) 0 0) 0 []).alloc _
  have hn0' : w2'.heap.size ≤ w3.heap.size := B3.size
  have BW3 : Below w.heap.size w w3 := BW2.trans (B3.mono BW2.size)
  have bx3 : Boxed w3 (w.heap.size + 1 + 1) 80 (.slice (some ⟨w.heap.size + 1, 0, none⟩) 0 0) := (B3.block _ (by omega)).trans bx2
  have nb3 : Boxed w3 w.heap.size 3 (.int .i64 (n : Int)) := (B3.block _ (by omega)).trans nb2
  have ow3 : w3.ownsRow w.heap.size 95 2 (.slice (some ⟨w.heap.size + 1, 0, none⟩) 0 0) 0 [] := own_stays ow2 (fun g hg => B3.block g (by simp [Value.ownBlock] at hg; omega))
  have hXlt : X < w3.heap.size := lt_of_block hbox
  have hXc : w3.cell? ⟨X, 0, none⟩ = some v3 := by rw [cell_of_row w3 X 0 _ _ _ hbox]; rfl
  have hSl : SlS w2'.heap.size w3.heap.size w3 v3 ss := own_slS O3 (Nat.le_refl _)
  clear hw2' bx2 nb2 ow2 O3 hbox
  have hm0 : w.heap.size < w2'.heap.size := by omega
  have hII : ∀ Pp : Nat → Prop, OwnFrom w3.heap.size (fun (pre : List Sn) W => ((∃ v, Boxed W (w.heap.size + 1 + 1) 80 v ∧ W.ownsRow w.heap.size 95 2 v pre.length (cellsP pre) ∧ (∃ k, v.ownBlock = some k ∧ (k < w2'.heap.size ∨ w3.heap.size ≤ k))) ∧ Boxed W w.heap.size 3 (.int .i64 (n : Int))) ∧ (Below w.heap.size w W ∧ w3.heap.size ≤ W.heap.size) ∧ Pp pre.length) := fun Pp =>
    OwnFrom.and (OwnFrom.and (Own.from (holdsRow_own w.heap.size (w.heap.size + 1 + 1) 80 95 2 (fun pre => pre.length) cellsP (fun _ v => ∃ k, v.ownBlock = some k ∧ (k < w2'.heap.size ∨ w3.heap.size ≤ k))) _) (Own.from (boxed_own w.heap.size 3 (fun _ => .int .i64 (n : Int))) _))
      (OwnFrom.and (OwnFrom.and (ownFrom_below (Nat.le_refl _) (by omega)) (Own.from (fun s A B row hs hg hr => Nat.le_trans hs hg.size) _)) (Own.from (fun s A B row hs hg hr => hs) _))
  have htl : (tk ss).length ≤ 65536 := Nat.le_trans (tkK_len ss _) hl
  have HS2 := hid hs2'
  clear hs2'
  refine wpIn_rangeFunc_ownH rfl (by decide) (gf := 39) (lb := #[.pointer (some ⟨X, 0, none⟩)]) rfl trivial (enters_of Tryd.func39 (by kernel_rfl) rfl)
    (seq_stops (3 - 1) (by decide) w2'.heap.size X v3 ss hl w3 hXc hXlt hSl)
    Mid.trans (fun W l o o' hl h _ _ => Mid.of (N := w3.heap.size) ((Below.refl _ W).grown (grownBy_putObj' W l o') (by have := (Array.getElem?_eq_some_iff.1 h).1; omega) (fun k e => by cases e; exact hl)) (Nat.le_refl _)) (Below.refl _ _) (fun _ => rfl)
    (fun (pre : List Sn) W => ((∃ v, Boxed W (w.heap.size + 1 + 1) 80 v ∧ W.ownsRow w.heap.size 95 2 v pre.length (cellsP pre) ∧ (∃ k, v.ownBlock = some k ∧ (k < w2'.heap.size ∨ w3.heap.size ≤ k))) ∧ Boxed W w.heap.size 3 (.int .i64 (n : Int))) ∧ (Below w.heap.size w W ∧ w3.heap.size ≤ W.heap.size) ∧ pre.length < n)
    (fun c (pre : List Sn) W => ((∃ v, Boxed W (w.heap.size + 1 + 1) 80 v ∧ W.ownsRow w.heap.size 95 2 v pre.length (cellsP pre) ∧ (∃ k, v.ownBlock = some k ∧ (k < w2'.heap.size ∨ w3.heap.size ≤ k))) ∧ Boxed W w.heap.size 3 (.int .i64 (n : Int))) ∧ (Below w.heap.size w W ∧ w3.heap.size ≤ W.heap.size) ∧ (pre.length = n ∧ c = Code.exit 0))
    (hII (fun k => k < n)) (fun c => hII (fun k => k = n ∧ c = Code.exit 0)) ⟨⟨⟨_, bx3, ow3, ⟨w.heap.size + 1, rfl, Or.inl (by have := HS2.out; omega)⟩⟩, nb3⟩, ⟨BW3, Nat.le_refl _⟩, hn0⟩
    (fun x a' W => a' = { tmps := #[pv, .int .i64 (n : Int), undef, .pointer (some ⟨w.heap.size, 0, none⟩), .slice none 0 0, .pointer (some ⟨w.heap.size + 1 + 1, 0, none⟩), allF X, .int .i64 (x.1 : Int), .string x.2, .slice (some ⟨w.heap.size + 1, 0, none⟩) 0 0, .int .i64 (n : Int), .bool false, undef, pv, allF X, allF X, .bool false, undef, undef, allF X, .int .i64 (x.1 : Int), .string x.2, undef, undef, undef, undef, undef, undef, undef, undef, undef, undef, undef], defers := [] })
    (fun x a' => fun _ A B row hs hg hr => hs) ?assign ?body ?done ?stop
  case assign =>
    rintro l pre x W K hi hK
    have HK := hid hK
    have HI := hid hi
    clear hK hi
    simp only [dv]
    gi_wp2
    exact HK.out _ _ ((KeepsOthers.refl _).from _) (Mid.refl _ _ _) HI.out rfl
  case body =>
    rintro l pre x a' W hl hr ⟨⟨⟨v, hv, hrow, hloc⟩, hnb⟩, ⟨hB, hN⟩, hlen⟩ rfl hlt
    have hc := hv.cell
    have hf := hv.frozen
    have nc := hnb.cell
    have HR := hid hrow
    have HV := hid hv
    have HB := hid hB
    have HLC := hid hloc
    have HNB := hid hnb
    have hsz : w.heap.size + 1 + 1 < W.heap.size := by have := HS2.out; omega
    clear hrow hv hB hr hloc hnb
    obtain ⟨xk, xs⟩ := x
    by_cases hbrk : pre.length + 1 = n
    · have hge : ((n : Int) ≤ (pre.length : Int) + 1) := by omega
      have HBK := hid hbrk
      clear hbrk
      gi_wp2_with (first
        | (gi_at_builtin; refine wpListIn_append_own_at _ rfl _ _ 80 rfl w.heap.size 95 i0 (.agg #[.int .i64 0, .string ByteArray.empty]) 2 24 Tryd.underlying80 hi hz0 hz1 hz2 rfl (by decide) _ _ _ rfl (HR.out.alloc _) ⟨W.heap.size, 0, none⟩ 1 1 [.int .i64 (xk : Int), .string xs] rfl rfl (cell_two_new2 _ _ _ _) (fun x hx => by simp at hx; rcases hx with rfl | rfl <;> rfl) (by unfold maxLen; omega) (by omega) (by simp; omega) ?_
           intro v' w4 hown' hgrow hnil hat
           obtain ⟨g', cap', rfl⟩ := ownsRow_succ hown'
           obtain ⟨hv1, hv2, hr2, hk2, hb2⟩ := HV.out.appended (by decide) HR.out HB.out.size (by omega) hown' hgrow
           have hnb2 := HNB.out.alloc (.cells #[.int .i64 (xk : Int), .string xs] 95)
           have hnb4 := hnb2.kept hgrow (HNB.out.not_row (by decide) HR.out)
           have HN5 := hid (hnb4.other (B' := w.heap.size + 1 + 1) (by omega) (.slice (some ⟨g', 0, none⟩) (pre.length + 1) cap'))
           have nc5 := HN5.out.cell
           have hc1 := hv1.cell
           have hf1 := hv1.frozen
           have hc2 := hv2.cell
           clear nc))
      obtain ⟨k0, hk0, hk1⟩ := HLC.out
      have LC : ∃ k, (Value.slice (some ⟨g', 0, none⟩) (pre.length + 1) cap').ownBlock = some k ∧ (k < w2'.heap.size ∨ w3.heap.size ≤ k) := by
        refine ⟨g', rfl, ?_⟩
        rcases hat with e | e
        · have e2 : some g' = v.ownBlock := e
          rw [hk0] at e2
          injection e2 with e2
          subst e2
          exact hk1
        · right
          simp [Value.ownBlock] at e
          omega
      have RW : (w4.setCell ⟨w.heap.size + 1 + 1, 0, none⟩ (.slice (some ⟨g', 0, none⟩) (pre.length + 1) cap')).ownsRow w.heap.size 95 2 (.slice (some ⟨g', 0, none⟩) (pre.length + 1) cap') (pre ++ [(xk, xs)]).length (cellsP (pre ++ [(xk, xs)])) := by
        rw [cellsP_snoc, List.length_append]
        exact hr2
      refine ⟨hk2.from _, ⟨⟨⟨_, hv2, RW, LC⟩, HN5.out⟩, ⟨HB.out.trans hb2, Nat.le_trans hN hb2.size⟩, by rw [List.length_append]; exact HBK.out, rfl⟩⟩
    · have hge : ¬ ((n : Int) ≤ (pre.length : Int) + 1) := by omega
      gi_wp2_with (first
        | (gi_at_builtin; refine wpListIn_append_own_at _ rfl _ _ 80 rfl w.heap.size 95 i0 (.agg #[.int .i64 0, .string ByteArray.empty]) 2 24 Tryd.underlying80 hi hz0 hz1 hz2 rfl (by decide) _ _ _ rfl (HR.out.alloc _) ⟨W.heap.size, 0, none⟩ 1 1 [.int .i64 (xk : Int), .string xs] rfl rfl (cell_two_new2 _ _ _ _) (fun x hx => by simp at hx; rcases hx with rfl | rfl <;> rfl) (by unfold maxLen; omega) (by omega) (by simp; omega) ?_
           intro v' w4 hown' hgrow hnil hat
           obtain ⟨g', cap', rfl⟩ := ownsRow_succ hown'
           obtain ⟨hv1, hv2, hr2, hk2, hb2⟩ := HV.out.appended (by decide) HR.out HB.out.size (by omega) hown' hgrow
           have hnb2 := HNB.out.alloc (.cells #[.int .i64 (xk : Int), .string xs] 95)
           have hnb4 := hnb2.kept hgrow (HNB.out.not_row (by decide) HR.out)
           have HN5 := hid (hnb4.other (B' := w.heap.size + 1 + 1) (by omega) (.slice (some ⟨g', 0, none⟩) (pre.length + 1) cap'))
           have nc5 := HN5.out.cell
           have hc1 := hv1.cell
           have hf1 := hv1.frozen
           have hc2 := hv2.cell
           clear nc))
      obtain ⟨k0, hk0, hk1⟩ := HLC.out
      have LC : ∃ k, (Value.slice (some ⟨g', 0, none⟩) (pre.length + 1) cap').ownBlock = some k ∧ (k < w2'.heap.size ∨ w3.heap.size ≤ k) := by
        refine ⟨g', rfl, ?_⟩
        rcases hat with e | e
        · have e2 : some g' = v.ownBlock := e
          rw [hk0] at e2
          injection e2 with e2
          subst e2
          exact hk1
        · right
          simp [Value.ownBlock] at e
          omega
      have RW : (w4.setCell ⟨w.heap.size + 1 + 1, 0, none⟩ (.slice (some ⟨g', 0, none⟩) (pre.length + 1) cap')).ownsRow w.heap.size 95 2 (.slice (some ⟨g', 0, none⟩) (pre.length + 1) cap') (pre ++ [(xk, xs)]).length (cellsP (pre ++ [(xk, xs)])) := by
        rw [cellsP_snoc, List.length_append]
        exact hr2
      refine ⟨hk2.from _, mid_app hgrow (fun k hk => by rw [show v.ownBlock = some k from hk] at hk0; injection hk0 with hk0; subst hk0; exact hk1) hN (by have := HS2.out; omega), ⟨⟨⟨_, hv2, RW, LC⟩, HN5.out⟩, ⟨HB.out.trans hb2, Nat.le_trans hN hb2.size⟩, ?_⟩⟩
      rw [List.length_append]
      simp
      omega
  case done =>
    rintro D ys W hD rfl ⟨⟨⟨v, hv, hrow, k0, hk0, hk1⟩, hnb⟩, ⟨hB, hN⟩, hlen⟩ hK
    have hc := hv.cell
    rcases own_form hrow with ⟨e, _⟩ | ⟨g, cap, e, _⟩
    · rw [e] at hk0; simp [Value.ownBlock] at hk0
    subst e
    have HV := hid hv
    have HR := hid hrow
    have HB := hid hB
    have HKD := hid hK
    clear hrow hB hv hk0 hk1 hK hnb
    have TE := hid (List.take_of_length_le (l := tk ss) (i := n) (Nat.le_of_lt hlen))
    gi_wp2_with fail
    refine ⟨by simp, .inl ⟨_, _, rfl, run_takeDeferred HKD.out, ?_⟩⟩
    refine ⟨_, results_tmp rfl _ _ _, _, rfl, ?_, HB.out.trans (belowK_b (w := w) (Nat.le_refl _) W D _ _ (by have := BW3.size; omega) HKD.out rfl rfl)⟩
    rw [TE.out]
    exact ownsRow_putObj HR.out _ HKD.out rfl
  case stop =>
    rintro D c pre W hD hSp ⟨⟨⟨v, hv, hrow, k0, hk0, hk1⟩, hnb⟩, ⟨hB, hN⟩, hlen, rfl⟩ hK
    have TE : Hid ((tk ss).take n = pre) := hid (by
      obtain ⟨r, hr⟩ := hSp
      rw [← hr, ← hlen, List.take_left])
    clear hSp hlen
    have hc := hv.cell
    rcases own_form hrow with ⟨e, _⟩ | ⟨g, cap, e, _⟩
    · rw [e] at hk0; simp [Value.ownBlock] at hk0
    subst e
    have HV := hid hv
    have HR := hid hrow
    have HB := hid hB
    have HKD := hid hK
    clear hrow hB hv hk0 hk1 hK hnb
    gi_wp2_with fail
    refine ⟨by simp, .inl ⟨_, _, rfl, run_takeDeferred HKD.out, ?_⟩⟩
    refine ⟨_, results_tmp rfl _ _ _, _, rfl, ?_, HB.out.trans (belowK_b (w := w) (Nat.le_refl _) W D _ _ (by have := BW3.size; omega) HKD.out rfl rfl)⟩
    rw [TE.out]
    exact ownsRow_putObj HR.out _ HKD.out rfl
end Go.Proofs.YtdhjoimiejdgbabDoor.L
