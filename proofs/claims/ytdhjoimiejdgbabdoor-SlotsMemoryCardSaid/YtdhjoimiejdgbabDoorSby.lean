import Derived.Test.YtdhjoimiejdgbabDoorSat
namespace Go.Proofs.YtdhjoimiejdgbabDoor.L
open Go.RowKit Bs Go.Maps
set_option linter.unusedVariables false
theorem infoS : (Tryd.prog.info? 9).map (fun i => (i.zero, i.size, i.bytes)) = some (some (.string ByteArray.empty), 1, 16) := by kernel_rfl
/-- A row of texts of one's own. -/
abbrev OwnS (w : World) (base : Nat) (v : Value) (ss : List ByteArray) : Prop := w.ownsRow base 9 1 v ss.length (ss.map Value.string)
/-- The names by slot. -/
def bs (l : List Rw) : List ByteArray := l.map (·.1)
/-- As far as k. -/
def bsK (l : List Rw) (k : Nat) : List ByteArray := (List.range l.length).map fun j => if j < k then nm l j else ByteArray.empty
theorem bsK_len (l : List Rw) (k : Nat) : (bsK l k).length = l.length := by unfold bsK; simp
theorem bsK_all (l : List Rw) : bsK l l.length = bs l := by
  unfold bsK bs
  apply List.ext_getElem
  · simp
  · intro j h1 h2
    simp at h1
    simp [h1, nm_at h1]
theorem bsK_zero (l : List Rw) : bsK l 0 = List.replicate l.length ByteArray.empty := by
  unfold bsK
  apply List.ext_getElem
  · simp
  · intro j h1 h2; simp
theorem bsK_set (l : List Rw) (k : Nat) (h : k < l.length) : (bsK l k).set k (nm l k) = bsK l (k + 1) := by
  apply List.ext_getElem
  · simp [bsK_len]
  · intro j h1 h2
    rw [List.getElem_set]
    simp only [bsK, List.getElem_map, List.getElem_range]
    by_cases e : k = j
    · subst e; simp
    · by_cases h3 : j < k
      · simp [e, h3, show j < k + 1 by omega]
      · simp [e, h3, show ¬ j < k + 1 by omega]
theorem made_empty (n : Nat) : (madeCells (Value.string ByteArray.empty).cells (n * 1)).toList = (List.replicate n ByteArray.empty).map Value.string := by
  rw [Nat.mul_one]
  unfold madeCells
  apply List.ext_getElem
  · simp
  · intro j h1 h2
    simp [Value.cells, Nat.mod_one]
theorem grown_low {w w' : World} (h : w.grownBy w' none) : Below w.heap.size w w' := (Below.refl _ _).grown h (Nat.le_refl _) (fun k hk => by cases hk)
theorem ownS_cell {w : World} {base g cap n : Nat} {xs : List Value} (h : w.ownsRow base 9 1 (.slice (some ⟨g, 0, none⟩) n cap) n xs) {j : Nat} {u : Value} (hu : xs[j]? = some u) : w.cell? ⟨g, j, none⟩ = some u := by
  have := h.cells (g := g) rfl j u hu
  rw [Go.WideShapes.add_plain] at this
  simpa using this
set_option maxHeartbeats 4000000 in
set_option maxRecDepth 100000 in
theorem byslot_any (p m : Nat) (l : List Rw) (F : List Nat) (w : World) (h : Tb w p m l F) : Calls Tryd.prog 38 #[.pointer (some ⟨p, 0, none⟩)] w fun e w' => ∃ v, e = .returned v ∧ OwnS w' w.heap.size v (bs l) ∧ Below w.heap.size w w' := by
  obtain ⟨i0, hi0, hz0, hz1, hz2⟩ := info_parts infoS
  have SP := hid (span_any p m l F w h)
  have hle := Nat.le_trans h.ok.le h.ok.mm
  have HH := hid h
  have pl : p < w.heap.size := h.lt p h.mem
  obtain ⟨N, hN⟩ : ∃ N, N = l.length := ⟨_, rfl⟩
  rw [← hN] at SP hle
  have HN := hid hN
  clear h hN
  generalize hQ : (fun (e : Ending) (w' : World) => ∃ v, e = .returned v ∧ OwnS w' w.heap.size v (bs l) ∧ Below w.heap.size w w') = Q
  have HQ := hid hQ
  clear hQ
  go_enter Tryd.func38, Tryd.ntmps38
  go_wp2_with (first
    | (go_at_call 26; refine SP.out.mono ?_; rintro e w2 ⟨rfl, hww⟩; replace hww := hww.symm; subst hww)
    | (at_make; refine wpList_make_full _ rfl _ _ 22 rfl w.heap.size 9 i0 (.string ByteArray.empty) 1 Tryd.underlying22 hi0 hz0 hz1 .i64 .i64 (N : Int) (N : Int) N rfl rfl rfl rfl (by rw [hz2]; omega) (by unfold maxLen; omega) (Nat.le_refl _) ?_
       intro w3 hown3 hgrow3
       have O3 := hid (show OwnS w3 w.heap.size (.slice (some ⟨w.heap.size, 0, none⟩) N N) (bsK l 0) by
         show World.ownsRow _ _ _ _ _ _ _
         rw [bsK_len, bsK_zero, ← HN.out, ← made_empty]; exact hown3)
       have B3 := hid (grown_low hgrow3)
       clear hown3 hgrow3))
  go_loopw [10] (fun i wr => ∃ k : Nat, k ≤ N ∧ i = .int .i64 k ∧ Hid (OwnS wr w.heap.size (.slice (some ⟨w.heap.size, 0, none⟩) N N) (bsK l k)) ∧ Hid (Below w.heap.size w wr)) (fun i _ => N - (intOf i).toNat)
  case atStart => exact ⟨0, Nat.zero_le _, rfl, O3, B3⟩
  case round =>
    clear O3 B3
    obtain ⟨k, hk, rfl, OW, BW⟩ := hrel
    by_cases hlt : k < N
    · have hkl : k < l.length := by rw [← HN.out]; exact hlt
      have T := HH.out.low BW.out
      obtain ⟨mb, rs, ks, D, ws, h1, h2, _⟩ := T
      obtain ⟨g, cap, rfl, hg, r0, r1⟩ := h1.rows hkl
      have c2 := h1.c2
      have hcell : wr.cell? ⟨w.heap.size, k, none⟩ = some (.string ByteArray.empty) := by
        have o := OW.out
        unfold OwnS at o
        rw [bsK_len, ← HN.out] at o
        refine ownS_cell o ?_
        rw [List.getElem?_map]
        unfold bsK
        simp [hkl]
      have hfz : wr.frozen? ⟨w.heap.size, k, none⟩ = false := by
        have o := OW.out
        unfold OwnS at o
        rw [bsK_len, ← HN.out] at o
        exact own_fz o k
      have O4 := hid (show OwnS (wr.setCell ⟨w.heap.size, k, none⟩ (.string (nm l k))) w.heap.size (.slice (some ⟨w.heap.size, 0, none⟩) N N) (bsK l (k + 1)) by
        have o := OW.out
        unfold OwnS at o ⊢
        rw [bsK_len, ← HN.out] at o ⊢
        have := own_set o k (.string (nm l k))
        rw [← List.map_set, bsK_set l k hkl] at this
        exact this)
      have B4 := hid (BW.out.setCell (p := ⟨w.heap.size, k, none⟩) (Nat.le_refl _) (.string (nm l k)))
      rw [← HN.out] at c2
      generalize nm l k = s at *
      clear h1 h2 r1 OW BW HH
      go_wp2_with fail
      exact ⟨⟨k + 1, by omega, by go_num, O4, B4⟩, by simp [intOf]; omega⟩
    · obtain rfl : k = N := by omega
      go_wp2_with fail
      rw [← HQ.out]
      refine ⟨_, rfl, ?_, BW.out⟩
      have o := OW.out
      rw [HN.out, bsK_all] at o
      rw [HN.out]
      exact o
set_option maxRecDepth 100000 in
set_option maxHeartbeats 4000000 in
theorem byslot_nil (w : World) : Calls Tryd.prog 38 #[.pointer none] w fun e w' => ∃ v, e = .returned v ∧ OwnS w' w.heap.size v [] ∧ Below w.heap.size w w' := by
  obtain ⟨i0, hi0, hz0, hz1, hz2⟩ := info_parts infoS
  have SP := hid (span_nil w)
  generalize hQ : (fun (e : Ending) (w' : World) => ∃ v, e = .returned v ∧ OwnS w' w.heap.size v [] ∧ Below w.heap.size w w') = Q
  have HQ := hid hQ
  clear hQ
  go_enter Tryd.func38, Tryd.ntmps38
  go_wp2_with (first
    | (go_at_call 26; refine SP.out.mono ?_; rintro e w2 ⟨rfl, hww⟩; replace hww := hww.symm; subst hww)
    | (at_make; refine wpList_make_full _ rfl _ _ 22 rfl w.heap.size 9 i0 (.string ByteArray.empty) 1 Tryd.underlying22 hi0 hz0 hz1 .i64 .i64 0 0 0 rfl rfl rfl rfl (Nat.zero_le _) (Nat.zero_le _) (Nat.le_refl _) ?_
       intro w3 hown3 hgrow3
       have O3 := hid (show OwnS w3 w.heap.size (.slice (some ⟨w.heap.size, 0, none⟩) 0 0) [] by rw [made_empty] at hown3; exact hown3)
       have B3 := hid (grown_low hgrow3)
       clear hown3 hgrow3))
  go_loopw [10] (fun i wr => i = .int .i64 0 ∧ Hid (wr = w3)) (fun _ _ => 0)
  case atStart => exact ⟨rfl, hid rfl⟩
  case round =>
    obtain ⟨rfl, HB⟩ := hrel
    have hwr := HB.out.symm
    subst hwr
    go_wp2_with fail
    rw [← HQ.out]
    exact ⟨_, rfl, O3.out, B3.out⟩
/-- What All answers. -/
def allF (X : Nat) : Value := .func (.func 39) #[] #[.pointer (some ⟨X, 0, none⟩)]
set_option maxHeartbeats 4000000 in
theorem all_any (p m : Nat) (l : List Rw) (F : List Nat) (w : World) (h : Tb w p m l F) : Calls Tryd.prog 24 #[.pointer (some ⟨p, 0, none⟩)] w fun e w' => ∃ X v, e = .returned (allF X) ∧ w.heap.size ≤ X ∧ w'.heap[X]? = some (.cells #[v] 22 (0, 0)) ∧ OwnS w' w.heap.size v (bs l) ∧ Below w.heap.size w w' := by
  have BY := hid (byslot_any p m l F w h)
  clear h
  generalize hQ : (fun (e : Ending) (w' : World) => ∃ X v, e = .returned (allF X) ∧ w.heap.size ≤ X ∧ w'.heap[X]? = some (.cells #[v] 22 (0, 0)) ∧ OwnS w' w.heap.size v (bs l) ∧ Below w.heap.size w w') = Q
  have HQ := hid hQ
  clear hQ
  go_enter Tryd.func24, Tryd.ntmps24
  go_wp2_with (go_at_call 38; refine BY.out.mono ?_
               rintro e w2 ⟨v, rfl, O2, B2⟩
               obtain ⟨a2, c2, e2⟩ := own_len O2
               subst e2
               replace O2 := hid O2
               replace B2 := hid B2)
  rw [← HQ.out]
  refine ⟨w2.heap.size, .slice a2 (bs l).length c2, rfl, B2.out.size, ?_, ?_, ?_⟩
  · exact (MapKept.heap_alloc _ _).1
  · exact O2.out.alloc _
  · exact B2.out.alloc B2.out.size _
set_option maxHeartbeats 4000000 in
theorem all_nil (w : World) : Calls Tryd.prog 24 #[.pointer none] w fun e w' => ∃ X v, e = .returned (allF X) ∧ w.heap.size ≤ X ∧ w'.heap[X]? = some (.cells #[v] 22 (0, 0)) ∧ OwnS w' w.heap.size v [] ∧ Below w.heap.size w w' := by
  have BY := hid (byslot_nil w)
  generalize hQ : (fun (e : Ending) (w' : World) => ∃ X v, e = .returned (allF X) ∧ w.heap.size ≤ X ∧ w'.heap[X]? = some (.cells #[v] 22 (0, 0)) ∧ OwnS w' w.heap.size v [] ∧ Below w.heap.size w w') = Q
  have HQ := hid hQ
  clear hQ
  go_enter Tryd.func24, Tryd.ntmps24
  go_wp2_with (go_at_call 38; refine BY.out.mono ?_
               rintro e w2 ⟨v, rfl, O2, B2⟩
               obtain ⟨a2, c2, e2⟩ := own_len O2
               subst e2
               replace O2 := hid O2
               replace B2 := hid B2)
  rw [← HQ.out]
  refine ⟨w2.heap.size, .slice a2 0 c2, rfl, B2.out.size, ?_, ?_, ?_⟩
  · exact (MapKept.heap_alloc _ _).1
  · exact O2.out.alloc _
  · exact B2.out.alloc B2.out.size _
end Go.Proofs.YtdhjoimiejdgbabDoor.L
