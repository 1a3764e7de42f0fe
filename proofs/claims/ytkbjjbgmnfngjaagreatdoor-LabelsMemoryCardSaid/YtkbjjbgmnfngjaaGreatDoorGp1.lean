import Derived.Test.YtkbjjbgmnfngjaaGreatDoorPtd
import Derived.Test.YtkbjjbgmnfngjaaGreatDoorMgAE
import Derived.Test.YtkbjjbgmnfngjaaGreatDoorCkk
import Derived.Test.YtkbjjbgmnfngjaaGreatDoorPut
namespace Go.Proofs.YtkbjjbgmnfngjaaGreatDoor.L
open Go.RowKit
set_option linter.unusedVariables false
/-- Does a difference say something? -/
def somB (d : Df) : Bool := match d.had, d.has with
  | false, false => false
  | false, true => eqS d.o ByteArray.empty
  | true, false => eqS d.n ByteArray.empty
  | true, true => !eqS d.o d.n
theorem val_nul : valB ByteArray.empty = true := by decide +kernel
theorem som_fine {d : Df} (h : somB d = true) : Fine d := by
  obtain ⟨k, o, n, had, has⟩ := d
  unfold somB at h
  cases had <;> cases has <;> simp only at h
  · cases h
  · exact ⟨fun _ => eqS_iff.1 h, fun e => (by cases e), fun e => (by cases e)⟩
  · exact ⟨fun e => (by cases e), fun _ => eqS_iff.1 h, fun e => (by cases e)⟩
  · refine ⟨fun e => (by cases e), fun e => (by cases e), fun _ e => ?_⟩
    simp only at e
    rw [eqS_iff.2 e] at h
    cases h
theorem ne_empty {s : ByteArray} (h : s ≠ ByteArray.empty) : s.toList.isEmpty = false := by
  cases e : s.toList with
  | nil => exact absurd (bytes_ext (by rw [e, show ByteArray.empty.toList = [] by decide +kernel])) h
  | cons x r => rfl
set_option maxHeartbeats 4000000 in
set_option maxRecDepth 100000 in
theorem something_all (d : Df) (w : World) : Calls Tryz.prog 60 #[dv d] w fun e w' => e = .returned (.bool (somB d)) ∧ Below w.heap.size w w' := by
  cases hs : somB d
  · obtain ⟨k, o, n, had, has⟩ := d
    unfold somB at hs
    unfold dv
    simp only
    cases had with
    | false =>
      by_cases ho : o = ByteArray.empty
      · subst ho
        cases has with
        | false =>
          by_cases hn : n = ByteArray.empty
          · subst hn
            clear hs
            go_enter Tryz.func60, Tryz.ntmps60
            go_wp2
            go_ret
            exact ⟨rfl, belowA _ _⟩
          · have h2 := ne_empty hn
            clear hs hn
            go_enter Tryz.func60, Tryz.ntmps60
            go_wp2
            go_ret
            exact ⟨rfl, belowA _ _⟩
        | true =>
          simp only at hs
          rw [eqS_iff.2 rfl] at hs
          cases hs
      · have h2 := ne_empty ho
        clear hs ho
        go_enter Tryz.func60, Tryz.ntmps60
        go_wp2
        go_ret
        exact ⟨rfl, belowA _ _⟩
    | true =>
      cases has with
      | false =>
        simp only at hs
        have h2 := ne_empty (eqS_ne.1 hs)
        clear hs
        go_enter Tryz.func60, Tryz.ntmps60
        go_wp2
        go_ret
        exact ⟨rfl, belowA _ _⟩
      | true =>
        simp only at hs
        obtain rfl : o = n := eqS_iff.1 (by simpa using hs)
        clear hs
        go_enter Tryz.func60, Tryz.ntmps60
        go_wp2
        go_ret
        exact ⟨rfl, belowA _ _⟩
  · exact something_any d w (som_fine hs)
/-- Does the list stand as a difference says? -/
def fitB (l : List Lb) (d : Df) : Bool := eqS (getN l d.k).1 d.o && ((getN l d.k).2 == d.had)
theorem fit_yes {l : List Lb} {d : Df} (h : fitB l d = true) : getN l d.k = (d.o, d.had) := by
  unfold fitB at h
  rw [Bool.and_eq_true] at h
  exact Prod.ext (eqS_iff.1 h.1) (by simpa using h.2)
theorem fit_no {l : List Lb} {d : Df} (h : fitB l d = false) : getN l d.k ≠ (d.o, d.had) := by
  intro e
  unfold fitB at h
  rw [e] at h
  simp [eqS_iff.2] at h
/-- The fault of a difference by itself, behind the key t. -/
def wE (t : ByteArray) (d : Df) : Int := if keyB d.k = false then 31 else if riseE t d.k = 0 then (if somB d = false then 37 else if valB d.o = false then 32 else if valB d.n = false then 32 else 0) else riseE t d.k
/-- The fault of a difference, before this list. -/
def cE (l : List Lb) (t : ByteArray) (d : Df) : Int := if wE t d = 0 then (if fitB l d = false then 38 else 0) else wE t d
theorem wE_ok {t : ByteArray} {d : Df} (h : wE t d = 0) : keyB d.k = true ∧ riseE t d.k = 0 ∧ somB d = true ∧ valB d.o = true ∧ valB d.n = true := by
  unfold wE at h
  cases e1 : keyB d.k
  · rw [if_pos e1] at h; simp at h
  · rw [if_neg (by rw [e1]; decide)] at h
    by_cases e2 : riseE t d.k = 0
    · rw [if_pos e2] at h
      cases e3 : somB d
      · rw [if_pos e3] at h; simp at h
      · rw [if_neg (by rw [e3]; decide)] at h
        cases e4 : valB d.o
        · rw [if_pos e4] at h; simp at h
        · rw [if_neg (by rw [e4]; decide)] at h
          cases e5 : valB d.n
          · rw [if_pos e5] at h; simp at h
          · exact ⟨rfl, e2, rfl, rfl, rfl⟩
    · rw [if_neg e2] at h
      exact absurd h e2
theorem wE_cases (t : ByteArray) (d : Df) : (keyB d.k = false ∧ wE t d = 31) ∨ (keyB d.k = true ∧ riseE t d.k ≠ 0 ∧ wE t d = riseE t d.k) ∨ (keyB d.k = true ∧ riseE t d.k = 0 ∧ somB d = false ∧ wE t d = 37) ∨ (keyB d.k = true ∧ riseE t d.k = 0 ∧ somB d = true ∧ valB d.o = false ∧ wE t d = 32) ∨ (keyB d.k = true ∧ riseE t d.k = 0 ∧ somB d = true ∧ valB d.o = true ∧ valB d.n = false ∧ wE t d = 32) ∨ (keyB d.k = true ∧ riseE t d.k = 0 ∧ somB d = true ∧ valB d.o = true ∧ valB d.n = true ∧ wE t d = 0) := by
  unfold wE
  cases e1 : keyB d.k
  · exact Or.inl ⟨rfl, if_pos rfl⟩
  · rw [if_neg (by decide)]
    by_cases e2 : riseE t d.k = 0
    · rw [if_pos e2]
      cases e3 : somB d
      · exact Or.inr (Or.inr (Or.inl ⟨rfl, e2, rfl, if_pos rfl⟩))
      · rw [if_neg (by decide)]
        cases e4 : valB d.o
        · exact Or.inr (Or.inr (Or.inr (Or.inl ⟨rfl, e2, rfl, rfl, if_pos rfl⟩)))
        · rw [if_neg (by decide)]
          cases e5 : valB d.n
          · exact Or.inr (Or.inr (Or.inr (Or.inr (Or.inl ⟨rfl, e2, rfl, rfl, rfl, if_pos rfl⟩))))
          · exact Or.inr (Or.inr (Or.inr (Or.inr (Or.inr ⟨rfl, e2, rfl, rfl, rfl, if_neg (by decide)⟩))))
    · rw [if_neg e2]
      exact Or.inr (Or.inl ⟨rfl, e2, rfl⟩)
/-- The first fault of the differences. -/
def pdE (l : List Lb) : ByteArray → List Df → Int
  | _, [] => 0
  | t, d :: ds => if cE l t d = 0 then pdE l d.k ds else cE l t d
/-- What Patch answers. -/
def patA (l : List Lb) (L : List Df) : Int := if (checkN l).2 = 0 then (if pdE l ByteArray.empty L = 0 then (if 32 < (kept L l ++ newly L).length then 34 else 0) else pdE l ByteArray.empty L) else (checkN l).2
theorem cE_ok {l : List Lb} {t : ByteArray} {d : Df} (h : cE l t d = 0) : wE t d = 0 ∧ fitB l d = true := by
  unfold cE at h
  by_cases e : wE t d = 0
  · rw [if_pos e] at h
    cases f : fitB l d
    · rw [if_pos f] at h; simp at h
    · exact ⟨e, rfl⟩
  · rw [if_neg e] at h
    exact absurd h e
/-- Differences without a fault: keys rise, each fits. -/
theorem pd_ok {l : List Lb} : ∀ {t : ByteArray} {L : List Df}, pdE l t L = 0 → (∀ d ∈ L, Op.bytesLess t.toList d.k.toList = true ∧ fitB l d = true) ∧ L.Pairwise fun d e => Op.bytesLess d.k.toList e.k.toList = true
  | t, [], _ => ⟨fun d hd => by simp at hd, List.Pairwise.nil⟩
  | t, d :: ds, h => by
    unfold pdE at h
    by_cases e : cE l t d = 0
    · rw [if_pos e] at h
      obtain ⟨h1, h2⟩ := pd_ok h
      obtain ⟨c1, c2⟩ := cE_ok e
      have hr := rise_zero (wE_ok c1).2.1
      refine ⟨fun x hx => ?_, List.pairwise_cons.2 ⟨fun x hx => (h1 x hx).1, h2⟩⟩
      rcases List.mem_cons.1 hx with rfl | hx
      · exact ⟨hr, c2⟩
      · exact ⟨less_trans _ _ _ hr (h1 x hx).1, (h1 x hx).2⟩
    · rw [if_neg e] at h
      exact absurd h e
/-- One difference carried out. -/
def outS (o : List Lb) (d : Df) : List Lb := (if d.had = true then delL o d.k else o) ++ (if d.has = true then [(d.k, d.n)] else [])
def outL (l : List Lb) (L : List Df) : List Lb := L.foldl outS l
theorem hit_snoc (M : List Df) (d : Df) (s : ByteArray) : hit (M ++ [d]) s = (hit M s || (d.k.toList == s.toList)) := by
  unfold hit
  simp
theorem out_all {l : List Lb} (M R : List Df) (hr : (M ++ R).Pairwise fun d e => Op.bytesLess d.k.toList e.k.toList = true) (hf : ∀ d ∈ M ++ R, fitB l d = true) : outL (kept M l ++ newly M) R = kept (M ++ R) l ++ newly (M ++ R) := by
  induction R generalizing M with
  | nil => simp [outL]
  | cons d R ih =>
    have hfd := fit_yes (hf d (by simp))
    have hM : ∀ e ∈ M, Op.bytesLess e.k.toList d.k.toList = true := fun e he => (List.pairwise_append.1 hr).2.2 e he d (by simp)
    have e1 : outS (kept M l ++ newly M) d = kept (M ++ [d]) l ++ newly (M ++ [d]) := by
      unfold outS
      have en : newly (M ++ [d]) = newly M ++ (if d.has = true then [(d.k, d.n)] else []) := by
        unfold newly
        rw [List.filter_append, List.map_append]
        congr 1
        cases x : d.has <;> simp [x]
      rw [en, ← List.append_assoc]
      congr 1
      cases x : d.had
      · rw [if_neg (by decide)]
        congr 1
        unfold kept
        apply List.filter_congr
        intro y hy
        rw [hit_snoc]
        have hne : y.1 ≠ d.k := (get_no (l := l) (s := d.k) (by rw [hfd, x])).2 y hy
        have : (d.k.toList == y.1.toList) = false := by
          simp
          exact fun f => hne (bytes_ext f).symm
        rw [this, Bool.or_false]
      · rw [if_pos rfl]
        unfold delL
        rw [List.filter_append]
        congr 1
        · unfold kept
          rw [List.filter_filter]
          apply List.filter_congr
          intro y hy
          rw [hit_snoc]
          unfold eqS
          have : (y.1.toList == d.k.toList) = (d.k.toList == y.1.toList) := by
            rw [Bool.eq_iff_iff]
            simp
            exact eq_comm
          rw [this]
          cases hit M y.1 <;> cases (d.k.toList == y.1.toList) <;> rfl
        · apply List.filter_eq_self.2
          intro y hy
          unfold newly at hy
          obtain ⟨e, he, rfl⟩ := List.mem_map.1 hy
          have hl := hM e (List.mem_filter.1 he).1
          have := (less_asymm _ _ hl).2.1
          unfold eqS
          simp only
          rw [this]
          rfl
    have := ih (M ++ [d]) (by simpa using hr) (by simpa using hf)
    unfold outL at this ⊢
    rw [List.foldl_cons, e1, this]
    simp
theorem out_eq {l : List Lb} {t : ByteArray} {L : List Df} (h : pdE l t L = 0) : outL l L = kept L l ++ newly L := by
  obtain ⟨h1, h2⟩ := pd_ok h
  have := out_all (l := l) [] L h2 (fun d hd => (h1 d hd).2)
  have e : kept [] l ++ newly [] = l := by
    unfold kept newly hit
    simp
  rw [e] at this
  exact this
theorem out_take (l : List Lb) (L : List Df) (k : Nat) (h : k < L.length) : outL l (L.take (k + 1)) = outS (outL l (L.take k)) L[k] := by
  unfold outL
  rw [List.take_succ_eq_append_getElem h, List.foldl_append]
  rfl
theorem out_len (l : List Lb) (L : List Df) : (outL l L).length ≤ l.length + L.length := by
  unfold outL
  induction L generalizing l with
  | nil => simp
  | cons d L ih =>
    rw [List.foldl_cons]
    have := ih (outS l d)
    have h2 : (outS l d).length ≤ l.length + 1 := by
      unfold outS
      rw [List.length_append]
      have h3 := del_len l d.k
      split <;> split <;> simp <;> omega
    simp only [List.length_cons]
    omega
theorem out_mem (l : List Lb) (L : List Df) : ∀ x ∈ outL l L, x ∈ l ∨ ∃ d ∈ L, x = (d.k, d.n) := by
  unfold outL
  induction L generalizing l with
  | nil => intro x hx; exact Or.inl hx
  | cons d L ih =>
    intro x hx
    rw [List.foldl_cons] at hx
    rcases ih (outS l d) x hx with h | ⟨e, he, h⟩
    · unfold outS at h
      rcases List.mem_append.1 h with h | h
      · left
        split at h
        · exact (List.mem_filter.1 h).1
        · exact h
      · right
        split at h
        · exact ⟨d, by simp, List.mem_singleton.1 h⟩
        · simp at h
    · exact Or.inr ⟨e, by simp [he], h⟩
theorem pat_dist {l : List Lb} {L : List Df} (ho : OkL l) (h : pdE l ByteArray.empty L = 0) : Dist (kept L l ++ newly L) := by
  obtain ⟨h1, h2⟩ := pd_ok h
  have hd : Dist l := ho.up.imp fun {x y} h e => by
    unfold Lt at h
    rw [e, less_irrefl] at h
    cases h
  refine List.pairwise_append.2 ⟨List.Pairwise.sublist List.filter_sublist hd, ?_, fun a ha b hb => ?_⟩
  · unfold newly
    rw [List.pairwise_map]
    refine List.Pairwise.sublist List.filter_sublist (h2.imp fun {x y} h e => ?_)
    simp only at e
    rw [e, less_irrefl] at h
    cases h
  · unfold newly at hb
    obtain ⟨d, hd2, rfl⟩ := List.mem_map.1 hb
    have hk := (List.mem_filter.1 ha).2
    simp at hk
    exact fun e => hit_none hk d (List.mem_filter.1 hd2).1 e.symm
end Go.Proofs.YtkbjjbgmnfngjaaGreatDoor.L
