import Derived.Test.YtdhjoimiejdgbabDoorMgJ
import Derived.Laws.ResultCell
namespace Go.Proofs.YtdhjoimiejdgbabDoor.L
open Go.RowKit Bs Go.Maps
set_option linter.unusedVariables false
/-! ### The document's side: rows of slot, name and value. -/
abbrev Dr := Nat × ByteArray × Int
def cellsD (d : List Dr) : List Value := d.flatMap fun x => [.int .i64 (x.1 : Int), .string x.2.1, .int .i64 x.2.2]
theorem cellsD_cons (x : Dr) (d : List Dr) : cellsD (x :: d) = .int .i64 (x.1 : Int) :: .string x.2.1 :: .int .i64 x.2.2 :: cellsD d := rfl
theorem cellsD_len : ∀ d : List Dr, (cellsD d).length = d.length * 3
  | [] => rfl
  | x :: d => by rw [cellsD_cons]; simp [cellsD_len d]; omega
theorem cellsD_app (d c : List Dr) : cellsD (d ++ c) = cellsD d ++ cellsD c := by simp [cellsD]
/-- The slot, the name and the value of a row. -/
def ds (d : List Dr) (i : Nat) : Nat := (d[i]?.map (·.1)).getD 0
def dn (d : List Dr) (i : Nat) : ByteArray := (d[i]?.map (·.2.1)).getD ByteArray.empty
def dl (d : List Dr) (i : Nat) : Int := (d[i]?.map (·.2.2)).getD 0
theorem ds_at {d : List Dr} {i : Nat} (h : i < d.length) : ds d i = (d[i]).1 := by unfold ds; rw [List.getElem?_eq_getElem h]; rfl
theorem dn_at {d : List Dr} {i : Nat} (h : i < d.length) : dn d i = (d[i]).2.1 := by unfold dn; rw [List.getElem?_eq_getElem h]; rfl
theorem dl_at {d : List Dr} {i : Nat} (h : i < d.length) : dl d i = (d[i]).2.2 := by unfold dl; rw [List.getElem?_eq_getElem h]; rfl
theorem cellsD_at : ∀ (d : List Dr) (j : Nat) (h : j < d.length), (cellsD d)[j * 3]? = some (.int .i64 (ds d j : Int)) ∧ (cellsD d)[j * 3 + 1]? = some (.string (dn d j)) ∧ (cellsD d)[j * 3 + 2]? = some (.int .i64 (dl d j))
  | x :: d, 0, h => ⟨rfl, rfl, rfl⟩
  | x :: d, j + 1, h => by
    have := cellsD_at d j (by simpa using h)
    rw [cellsD_cons, show (j + 1) * 3 = j * 3 + 1 + 1 + 1 by omega]
    simpa [ds, dn, dl] using this
abbrev OwnD (w : World) (v : Value) (d : List Dr) : Prop := w.ownsRow 0 77 3 v d.length (cellsD d)
/-- Rows, to be read. -/
def ItemsD (w : World) (v : Value) (d : List Dr) : Prop := ∃ a cap, v = .slice a d.length cap ∧ (d.length = 0 ∨ ∃ b, a = some ⟨b, 0, none⟩ ∧ b < w.heap.size ∧ ∀ j, j < d.length → w.cell? ⟨b, j * 3, none⟩ = some (.int .i64 (ds d j : Int)) ∧ w.cell? ⟨b, j * 3 + 1, none⟩ = some (.string (dn d j)) ∧ w.cell? ⟨b, j * 3 + 2, none⟩ = some (.int .i64 (dl d j)))
theorem own_itemsD {w : World} {v : Value} {d : List Dr} (h : OwnD w v d) : ItemsD w v d := by
  rcases own_form h with ⟨rfl, h0⟩ | ⟨g, cap, rfl, _, _, hlt⟩
  · exact ⟨none, 0, by rw [h0], Or.inl h0⟩
  · refine ⟨_, cap, rfl, Or.inr ⟨g, rfl, hlt, fun j hj => ?_⟩⟩
    obtain ⟨a, b, c⟩ := cellsD_at d j hj
    have A := h.cells (g := g) rfl _ _ a
    have B := h.cells (g := g) rfl _ _ b
    have C := h.cells (g := g) rfl _ _ c
    rw [Go.WideShapes.add_plain] at A B C
    simp at A B C
    exact ⟨A, B, C⟩
theorem items_alloc {w : World} {a : Option Addr} {d : List Dr} (h : d.length = 0 ∨ ∃ b, a = some ⟨b, 0, none⟩ ∧ b < w.heap.size ∧ ∀ j, j < d.length → w.cell? ⟨b, j * 3, none⟩ = some (.int .i64 (ds d j : Int)) ∧ w.cell? ⟨b, j * 3 + 1, none⟩ = some (.string (dn d j)) ∧ w.cell? ⟨b, j * 3 + 2, none⟩ = some (.int .i64 (dl d j))) (o : Obj) :
    d.length = 0 ∨ ∃ b, a = some ⟨b, 0, none⟩ ∧ b < w.heap.size ∧ ∀ j, j < d.length → (w.alloc o).cell? ⟨b, j * 3, none⟩ = some (.int .i64 (ds d j : Int)) ∧ (w.alloc o).cell? ⟨b, j * 3 + 1, none⟩ = some (.string (dn d j)) ∧ (w.alloc o).cell? ⟨b, j * 3 + 2, none⟩ = some (.int .i64 (dl d j)) := by
  rcases h with h | ⟨b, rfl, hb, hc⟩
  · exact Or.inl h
  · have e : (w.alloc o).heap[b]? = w.heap[b]? := ((Below.refl w.heap.size w).alloc (Nat.le_refl _) o).block b hb
    refine Or.inr ⟨b, rfl, hb, fun j hj => ?_⟩
    rw [World.cell?_of_block (w := w) (a := ⟨b, j * 3, none⟩) e, World.cell?_of_block (w := w) (a := ⟨b, j * 3 + 1, none⟩) e, World.cell?_of_block (w := w) (a := ⟨b, j * 3 + 2, none⟩) e]
    exact hc j hj
/-- The first row for which p holds, or -1. -/
def fst1 (p : Nat → Bool) : Nat → Nat → Int
  | 0, _ => -1
  | n + 1, k => if p k = true then (k : Int) else fst1 p n (k + 1)
theorem fst1_step (p : Nat → Bool) (len k : Nat) (h : k < len) : fst1 p (len - k) k = if p k = true then (k : Int) else fst1 p (len - (k + 1)) (k + 1) := by
  obtain ⟨n, hn⟩ : ∃ n, len - k = n + 1 := ⟨len - k - 1, by omega⟩
  rw [hn, show len - (k + 1) = n by omega]
  rfl
theorem fst1_cases (p : Nat → Bool) (n k : Nat) : (fst1 p n k = -1 ∧ ∀ i, k ≤ i → i < k + n → p i = false) ∨ ∃ j : Nat, fst1 p n k = j ∧ k ≤ j ∧ j < k + n ∧ p j = true := by
  induction n generalizing k with
  | zero => exact Or.inl ⟨rfl, fun i h1 h2 => by omega⟩
  | succ n ih =>
    unfold fst1
    cases e : p k
    · simp only [Bool.false_eq_true, if_false]
      rcases ih (k + 1) with ⟨h1, h3⟩ | ⟨j, h1, h2, h3, h4⟩
      · refine Or.inl ⟨h1, fun i hi hj => ?_⟩
        by_cases ei : i = k
        · rw [ei]; exact e
        · exact h3 i (by omega) (by omega)
      · exact Or.inr ⟨j, h1, by omega, by omega, h4⟩
    · simp only [if_true]
      exact Or.inr ⟨k, rfl, Nat.le_refl _, by omega, e⟩
/-- The row of a slot; the row of a name. -/
def atD (d : List Dr) (i : Int) : Int := fst1 (fun k => (ds d k : Int) == i) d.length 0
def findD (d : List Dr) (s : ByteArray) : Int := fst1 (fun k => (dn d k).toList == s.toList) d.length 0
theorem atD_cases (d : List Dr) (i : Int) : (atD d i = -1 ∧ ∀ k, k < d.length → (ds d k : Int) ≠ i) ∨ ∃ j : Nat, atD d i = j ∧ j < d.length ∧ (ds d j : Int) = i := by
  rcases fst1_cases (fun k => (ds d k : Int) == i) d.length 0 with ⟨a, b⟩ | ⟨j, a, _, b, c⟩
  · exact Or.inl ⟨a, fun k hk => by simpa using b k (Nat.zero_le _) (by omega)⟩
  · exact Or.inr ⟨j, a, by omega, by simpa using c⟩
theorem toList_eq {s t : ByteArray} : s.toList = t.toList ↔ s = t :=
  ⟨fun h => bytes_ext (by rw [bytes_toList, bytes_toList] at h; exact h), fun h => by rw [h]⟩
theorem findD_cases (d : List Dr) (s : ByteArray) : (findD d s = -1 ∧ ∀ k, k < d.length → dn d k ≠ s) ∨ ∃ j : Nat, findD d s = j ∧ j < d.length ∧ dn d j = s := by
  rcases fst1_cases (fun k => (dn d k).toList == s.toList) d.length 0 with ⟨a, b⟩ | ⟨j, a, _, b, c⟩
  · exact Or.inl ⟨a, fun k hk e => by have := b k (Nat.zero_le _) (by omega); rw [e] at this; simp at this⟩
  · exact Or.inr ⟨j, a, by omega, toList_eq.1 (by simpa using c)⟩
set_option maxHeartbeats 4000000 in
theorem rat_any (m : Int) (v : Value) (d : List Dr) (i : Int) (w : World) (hi : ItemsD w v d) (hl : d.length ≤ 65536) : Calls Tryd.prog 30 #[.agg #[.int .i64 m, v], .int .i64 i] w fun e w' => e = .returned (.int .i64 (atD d i)) ∧ Below w.heap.size w w' := by
  obtain ⟨a, cap, rfl, hi⟩ := hi
  have HB := hid (Below.refl w.heap.size w)
  have hi := items_alloc hi (Obj.cells #[.int .i64 m, .slice a d.length cap] 49 (0, 0))
  have HR := hid (show atD d i = fst1 (fun k => (ds d k : Int) == i) (d.length - 0) 0 from rfl)
  obtain ⟨len, hlen⟩ : ∃ n, n = d.length := ⟨_, rfl⟩
  rw [← hlen] at hl hi HR ⊢
  clear hlen
  go_enter Tryd.func30, Tryd.ntmps30
  go_wp2
  go_loop [5] (fun x => ∃ k : Nat, k ≤ len ∧ x = .int .i64 k ∧ Hid (atD d i = fst1 (fun k => (ds d k : Int) == i) (len - k) k)) (fun x => len - (intOf x).toNat)
  case atStart => exact ⟨0, Nat.zero_le _, rfl, HR⟩
  case round =>
    obtain ⟨k, hk, rfl, HK⟩ := hrel
    by_cases hlt : k < len
    · rcases hi with h0 | ⟨b, rfl, hbl, hc⟩
      · omega
      obtain ⟨c0, c1, c2⟩ := hc k hlt
      have st := HK.out.trans (fst1_step _ len k hlt)
      clear HK
      generalize (ds d k : Int) = x at *
      generalize dn d k = s' at *
      generalize dl d k = n at *
      clear hc
      cases e1 : (x == i)
      · rw [e1] at st
        simp only [Bool.false_eq_true, if_false] at st
        have HF := hid st
        clear st
        go_wp2
        exact ⟨⟨k + 1, by omega, by go_num, HF⟩, by simp [intOf]; omega⟩
      · rw [e1] at st
        simp only [if_true] at st
        have HF := hid st
        clear st
        go_wp2
        go_ret
        exact ⟨by rw [HF.out]; rfl, HB.out.alloc (Nat.le_refl _) _⟩
    · obtain rfl : k = len := by omega
      have HF := hid (show atD d i = -1 by rw [HK.out, Nat.sub_self]; rfl)
      go_wp2
      go_ret
      exact ⟨by rw [HF.out]; rfl, HB.out.alloc (Nat.le_refl _) _⟩
set_option maxHeartbeats 4000000 in
theorem rfindD_any (m : Int) (v : Value) (d : List Dr) (s : ByteArray) (w : World) (hi : ItemsD w v d) (hl : d.length ≤ 65536) : Calls Tryd.prog 29 #[.agg #[.int .i64 m, v], .string s] w fun e w' => e = .returned (.int .i64 (findD d s)) ∧ Below w.heap.size w w' := by
  obtain ⟨a, cap, rfl, hi⟩ := hi
  have HB := hid (Below.refl w.heap.size w)
  have hi := items_alloc hi (Obj.cells #[.int .i64 m, .slice a d.length cap] 49 (0, 0))
  have HR := hid (show findD d s = fst1 (fun k => (dn d k).toList == s.toList) (d.length - 0) 0 from rfl)
  obtain ⟨len, hlen⟩ : ∃ n, n = d.length := ⟨_, rfl⟩
  rw [← hlen] at hl hi HR ⊢
  clear hlen
  go_enter Tryd.func29, Tryd.ntmps29
  go_wp2
  go_loop [5] (fun x => ∃ k : Nat, k ≤ len ∧ x = .int .i64 k ∧ Hid (findD d s = fst1 (fun k => (dn d k).toList == s.toList) (len - k) k)) (fun x => len - (intOf x).toNat)
  case atStart => exact ⟨0, Nat.zero_le _, rfl, HR⟩
  case round =>
    obtain ⟨k, hk, rfl, HK⟩ := hrel
    by_cases hlt : k < len
    · rcases hi with h0 | ⟨b, rfl, hbl, hc⟩
      · omega
      obtain ⟨c0, c1, c2⟩ := hc k hlt
      have st := HK.out.trans (fst1_step _ len k hlt)
      clear HK
      generalize (ds d k : Int) = x at *
      generalize dn d k = s' at *
      generalize dl d k = n at *
      clear hc
      cases e1 : (s'.toList == s.toList)
      · rw [e1] at st
        simp only [Bool.false_eq_true, if_false] at st
        have HF := hid st
        clear st
        go_wp2
        exact ⟨⟨k + 1, by omega, by go_num, HF⟩, by simp [intOf]; omega⟩
      · rw [e1] at st
        simp only [if_true] at st
        have HF := hid st
        clear st
        go_wp2
        go_ret
        exact ⟨by rw [HF.out]; rfl, HB.out.alloc (Nat.le_refl _) _⟩
    · obtain rfl : k = len := by omega
      have HF := hid (show findD d s = -1 by rw [HK.out, Nat.sub_self]; rfl)
      go_wp2
      go_ret
      exact ⟨by rw [HF.out]; rfl, HB.out.alloc (Nat.le_refl _) _⟩
end Go.Proofs.YtdhjoimiejdgbabDoor.L
namespace Go.Proofs.YtdhjoimiejdgbabDoor.L
open Go.RowKit Bs Go.Maps
set_option linter.unusedVariables false
theorem badB_num (s : ByteArray) : (decide ((s.size : Int) < 1) || decide ((63 : Int) < (s.size : Int))) = badB s := by
  unfold badB
  congr 1 <;> apply decide_eq_decide.2 <;> omega
set_option maxHeartbeats 1000000 in
theorem rbad_any (s : ByteArray) (w : World) (hs : s.size ≤ maxLen) : Calls Tryd.prog 59 #[.string s] w fun e w' => e = .returned (.bool (badB s)) ∧ w' = w := by
  unfold maxLen at hs
  have HE := hid (badB_num s)
  by_cases h1 : (s.size : Int) < 1
  · rw [decide_eq_true h1, Bool.true_or] at HE
    go_enter Tryd.func59, Tryd.ntmps59
    go_wp2
    go_ret
    exact ⟨by rw [← HE.out]; rfl, rfl⟩
  · rw [decide_eq_false h1, Bool.false_or] at HE
    have h1' : (1 : Int) ≤ s.size := by omega
    go_enter Tryd.func59, Tryd.ntmps59
    go_wp2
    go_ret
    exact ⟨by rw [← HE.out]; rfl, rfl⟩
/-- The document's New: refused, or a table with no rows. -/
def newD (m : Int) : Value := if m < 0 ∨ 65536 < m then .tuple #[.agg #[.int .i64 0, .slice none 0 0], .int .i64 50] else .tuple #[.agg #[.int .i64 m, .slice none 0 0], .int .i64 0]
set_option maxHeartbeats 1000000 in
theorem rnew_any (m : Int) (w : World) : Calls Tryd.prog 27 #[.int .i64 m] w fun e w' => e = .returned (newD m) ∧ Below w.heap.size w w' := by
  by_cases h1 : m < 0
  · have e : newD m = .tuple #[.agg #[.int .i64 0, .slice none 0 0], .int .i64 50] := if_pos (Or.inl h1)
    rw [e]
    clear e
    go_enter Tryd.func27, Tryd.ntmps27
    go_wp2
    (try simp only [Exit.inBlock, Exit.then])
    refine bodyPost_ret (v := .tuple #[.agg #[.int .i64 0, .slice none 0 0], .int .i64 50]) ?_ rfl ⟨rfl, (Below.refl _ w).alloc (Nat.le_refl _) _⟩
    rw [results_cell_tmp rfl]
    go_simp
  · by_cases h2 : 65536 < m
    · have e : newD m = .tuple #[.agg #[.int .i64 0, .slice none 0 0], .int .i64 50] := if_pos (Or.inr h2)
      rw [e]
      clear e
      go_enter Tryd.func27, Tryd.ntmps27
      go_wp2
      (try simp only [Exit.inBlock, Exit.then])
      refine bodyPost_ret (v := .tuple #[.agg #[.int .i64 0, .slice none 0 0], .int .i64 50]) ?_ rfl ⟨rfl, (Below.refl _ w).alloc (Nat.le_refl _) _⟩
      rw [results_cell_tmp rfl]
      go_simp
    · have e : newD m = .tuple #[.agg #[.int .i64 m, .slice none 0 0], .int .i64 0] := if_neg (by omega)
      rw [e]
      clear e
      have h1' : 0 ≤ m := by omega
      have h2' : m ≤ 65536 := by omega
      go_enter Tryd.func27, Tryd.ntmps27
      go_wp2
      (try simp only [Exit.inBlock, Exit.then])
      refine bodyPost_ret (v := .tuple #[.agg #[.int .i64 m, .slice none 0 0], .int .i64 0]) ?_ rfl ⟨rfl, (Below.refl _ w).alloc (Nat.le_refl _) _⟩
      rw [results_cell_tmp rfl]
      go_simp
/-- One more than the highest slot of the first k rows. -/
def spn (d : List Dr) : Nat → Nat
  | 0 => 0
  | k + 1 => max (spn d k) (ds d k + 1)
def spanD (d : List Dr) : Nat := spn d d.length
theorem spn_le {d : List Dr} {b : Nat} (h : ∀ k, ds d k < b) : ∀ k, spn d k ≤ b
  | 0 => Nat.zero_le _
  | k + 1 => Nat.max_le.2 ⟨spn_le h k, h k⟩
set_option maxHeartbeats 4000000 in
theorem rspan_any (m : Int) (v : Value) (d : List Dr) (w : World) (hi : ItemsD w v d) (hl : d.length ≤ 65536) (hs : ∀ k, ds d k < 65536) : Calls Tryd.prog 31 #[.agg #[.int .i64 m, v]] w fun e w' => e = .returned (.int .i64 (spanD d : Int)) ∧ Below w.heap.size w w' := by
  obtain ⟨a, cap, rfl, hi⟩ := hi
  have HB := hid (Below.refl w.heap.size w)
  have hi := items_alloc hi (Obj.cells #[.int .i64 m, .slice a d.length cap] 49 (0, 0))
  have HR := hid (show spanD d = spn d d.length from rfl)
  have HS := hid hs
  clear hs
  obtain ⟨len, hlen⟩ : ∃ n, n = d.length := ⟨_, rfl⟩
  rw [← hlen] at hl hi HR ⊢
  clear hlen
  go_enter Tryd.func31, Tryd.ntmps31
  go_wp2
  go_loop [3, 4] (fun n x => ∃ k : Nat, k ≤ len ∧ n = .int .i64 (spn d k : Nat) ∧ x = .int .i64 k) (fun n x => len - (intOf x).toNat)
  case atStart => exact ⟨0, Nat.zero_le _, rfl, rfl⟩
  case round =>
    obtain ⟨k, hk, rfl, rfl⟩ := hrel
    by_cases hlt : k < len
    · rcases hi with h0 | ⟨b, rfl, hbl, hc⟩
      · omega
      obtain ⟨c0, c1, c2⟩ := hc k hlt
      have st : spn d (k + 1) = max (spn d k) (ds d k + 1) := rfl
      have b1 := HS.out k
      have b2 := spn_le HS.out k
      have HY := hid (rfl : spn d (k + 1) = spn d (k + 1))
      generalize hy : spn d (k + 1) = y at st
      replace HY := hid hy
      clear hy
      generalize spn d k = z at *
      generalize ds d k = x at *
      generalize dn d k = s' at *
      generalize dl d k = n at *
      clear hc
      go_wp2
      refine ⟨⟨k + 1, by omega, ?_, by go_num⟩, by simp [intOf]; omega⟩
      rw [HY.out, st]
      congr 1
      split <;> omega
    · obtain rfl : k = len := by omega
      go_wp2
      go_ret
      exact ⟨by rw [HR.out]; rfl, HB.out.alloc (Nat.le_refl _) _⟩
end Go.Proofs.YtdhjoimiejdgbabDoor.L
namespace Go.Proofs.YtdhjoimiejdgbabDoor.L
open Go.RowKit Bs Go.Maps
set_option linter.unusedVariables false
theorem ItemsD.low {w w' : World} {v : Value} {d : List Dr} {B : Nat} (h : ItemsD w v d) (hb : Below B w w') (hB : w.heap.size ≤ B) : ItemsD w' v d := by
  obtain ⟨a, cap, rfl, h⟩ := h
  refine ⟨a, cap, rfl, ?_⟩
  rcases h with h | ⟨b, rfl, hl, hc⟩
  · exact Or.inl h
  · refine Or.inr ⟨b, rfl, Nat.lt_of_lt_of_le hl hb.size, fun j hj => ?_⟩
    have e : w'.heap[b]? = w.heap[b]? := hb.block b (by omega)
    rw [World.cell?_of_block (w := w) (a := ⟨b, j * 3, none⟩) e, World.cell?_of_block (w := w) (a := ⟨b, j * 3 + 1, none⟩) e, World.cell?_of_block (w := w) (a := ⟨b, j * 3 + 2, none⟩) e]
    exact hc j hj
theorem results_cell_tmp3 {fn : Func} {p u t : Tmp} {ty : TypeId} (h : fn.results = #[.cell p ty, .tmp u, .tmp t]) (tmps : Array Value) (P : Program) (w : World) :
    (results fn tmps).run P w =
      ((asAddr (tmps.getD p undef)).run P w).andThen fun a w₁ => ((loadVar ty a).run P w₁).andThen fun v w₂ => .ok (.tuple #[v, tmps.getD u undef, tmps.getD t undef]) w₂ := by
  simp only [results, h]
  simp [Sem.run_bind, Result.andThen]
/-- Two boxes: the table that was handed in, and the answer's. -/
structure Bp (w W : World) (m : Int) (v : Value) : Prop where
  c1 : W.cell? ⟨w.heap.size, 0, none⟩ = some (.int .i64 m)
  c2 : W.cell? ⟨w.heap.size, 1, none⟩ = some v
  c3 : W.cell? ⟨w.heap.size + 1, 0, none⟩ = some (.int .i64 0)
  c4 : W.cell? ⟨w.heap.size + 1, 1, none⟩ = some (.slice none 0 0)
  f3 : W.frozen? ⟨w.heap.size + 1, 0, none⟩ = false
  f4 : W.frozen? ⟨w.heap.size + 1, 1, none⟩ = false
  sz : w.heap.size + 1 < W.heap.size
  lo : Below w.heap.size w W
theorem Bp.mk2 (w : World) (m : Int) (v : Value) (t : TypeId) : Bp w ((w.alloc (.cells #[.int .i64 m, v] t)).alloc (.cells #[.int .i64 0, .slice none 0 0] t)) m v := by
  have h1 : ((w.alloc (.cells #[.int .i64 m, v] t)).alloc (.cells #[.int .i64 0, .slice none 0 0] t)).heap[w.heap.size + 1]? = some (.cells #[.int .i64 0, .slice none 0 0] t) := heap_alloc2_new w _ _
  have h2 : ((w.alloc (.cells #[.int .i64 m, v] t)).alloc (.cells #[.int .i64 0, .slice none 0 0] t)).heap[w.heap.size]? = some (.cells #[.int .i64 m, v] t) := by
    rw [heap_alloc_old _ _ (by simp)]
    exact heap_alloc_new w _
  refine ⟨?_, ?_, ?_, ?_, ?_, ?_, by simp, ((Below.refl _ w).alloc (Nat.le_refl _) _).alloc (by simp) _⟩
  · unfold World.cell?; rw [h2]; rfl
  · unfold World.cell?; rw [h2]; rfl
  · unfold World.cell?; rw [h1]; rfl
  · unfold World.cell?; rw [h1]; rfl
  · unfold World.frozen?; rw [h1]; rfl
  · unfold World.frozen?; rw [h1]; rfl
theorem Bp.low {w W W' : World} {m : Int} {v : Value} (h : Bp w W m v) (hb : Below W.heap.size W W') : Bp w W' m v := by
  obtain ⟨a1, a2, a3, a4, a5, a6, a7, a8⟩ := h
  refine ⟨?_, ?_, ?_, ?_, ?_, ?_, Nat.lt_of_lt_of_le a7 hb.size, a8.trans (hb.mono (Nat.le_trans (by omega) a7))⟩
  · exact (hb.cell (p := ⟨w.heap.size, 0, none⟩) (Nat.lt_of_succ_lt a7)).trans a1
  · exact (hb.cell (p := ⟨w.heap.size, 1, none⟩) (Nat.lt_of_succ_lt a7)).trans a2
  · exact (hb.cell (p := ⟨w.heap.size + 1, 0, none⟩) a7).trans a3
  · exact (hb.cell (p := ⟨w.heap.size + 1, 1, none⟩) a7).trans a4
  · unfold World.frozen? at *; rw [hb.block _ a7]; exact a5
  · unfold World.frozen? at *; rw [hb.block _ a7]; exact a6
theorem below_set {B : Nat} {a w : World} (h : Below B a w) (b o : Nat) (v : Value) (hb : B ≤ b) : Below B a (w.setCell ⟨b, o, none⟩ v) :=
  ⟨h.os, h.tape, h.output, by simpa using h.size, fun k hk => (heap_setCell_other w ⟨b, o, none⟩ k v (by show k ≠ b; omega)).trans (h.block k hk)⟩
set_option maxHeartbeats 4000000 in
theorem rput_bad (m : Int) (a : Option Addr) (L cap : Nat) (s : ByteArray) (x : Int) (w : World) (hs : s.size ≤ maxLen) (hb : badB s = true) : Calls Tryd.prog 42 #[.agg #[.int .i64 m, .slice a L cap], .string s, .int .i64 x] w fun e w' => e = .returned (.tuple #[.agg #[.int .i64 m, .slice a L cap], .int .i64 0, .int .i64 51]) ∧ Below w.heap.size w w' := by
  have C := hid (fun W => rbad_any s W hs)
  rw [hb] at C
  have BO := Bp.mk2 w m (.slice a L cap) 49
  go_enter Tryd.func42, Tryd.ntmps42
  go_wp2_with fail
  generalize (w.alloc _).alloc _ = W at *
  refine (C.out _).mono ?_
  rintro e w2 ⟨rfl, hww⟩; subst hww
  have t1 := BO.c1
  have t2 := BO.c2
  have t3 := BO.c3
  have t4 := BO.c4
  have t5 := BO.f3
  have t6 := BO.f4
  have HB := hid BO.lo
  clear BO
  go_wp2_with fail
  (try simp only [Exit.inBlock, Exit.then])
  refine bodyPost_ret (v := .tuple #[.agg #[.int .i64 m, .slice a L cap], .int .i64 0, .int .i64 51]) ?_ rfl ⟨rfl, below_set (below_set HB.out _ _ _ (Nat.le_succ _)) _ _ _ (Nat.le_succ _)⟩
  rw [results_cell_tmp3 rfl]
  go_simp
/-- The rows, as an argument. -/
abbrev ItD (w : World) (a : Option Addr) (cap : Nat) (d : List Dr) : Prop := ItemsD w (.slice a d.length cap) d
theorem findW {w W : World} {a : Option Addr} {cap : Nat} {d : List Dr} (m : Int) (s : ByteArray) (hi : ItD w a cap d) (hl : d.length ≤ 65536) (h : Below w.heap.size w W) :
    Calls Tryd.prog 29 #[.agg #[.int .i64 m, .slice a d.length cap], .string s] W fun e w' => e = .returned (.int .i64 (findD d s)) ∧ Below W.heap.size W w' :=
  rfindD_any m _ d s W (hi.low h (Nat.le_refl _)) hl
theorem atW {w W : World} {a : Option Addr} {cap : Nat} {d : List Dr} (m i : Int) (hi : ItD w a cap d) (hl : d.length ≤ 65536) (h : Below w.heap.size w W) :
    Calls Tryd.prog 30 #[.agg #[.int .i64 m, .slice a d.length cap], .int .i64 i] W fun e w' => e = .returned (.int .i64 (atD d i)) ∧ Below W.heap.size W w' :=
  rat_any m _ d i W (hi.low h (Nat.le_refl _)) hl
set_option maxHeartbeats 4000000 in
theorem rput_there (m : Int) (a : Option Addr) (cap : Nat) (d : List Dr) (s : ByteArray) (x : Int) (w : World) (hi : ItD w a cap d) (hl : d.length ≤ 65536) (hb : badB s = false) (j : Nat) (hj : findD d s = j) : Calls Tryd.prog 42 #[.agg #[.int .i64 m, .slice a d.length cap], .string s, .int .i64 x] w fun e w' => e = .returned (.tuple #[.agg #[.int .i64 m, .slice a d.length cap], .int .i64 0, .int .i64 52]) ∧ Below w.heap.size w w' := by
  have C := hid (fun W => rbad_any s W (maxLen_of hb))
  rw [hb] at C
  have F := hid (fun W h => findW (w := w) (W := W) m s hi hl h)
  rw [hj] at F
  have BO := Bp.mk2 w m (.slice a d.length cap) 49
  clear hi hb hj
  generalize d.length = L at *
  go_enter Tryd.func42, Tryd.ntmps42
  go_wp2_with fail
  generalize (w.alloc _).alloc _ = W at *
  refine (C.out _).mono ?_
  rintro e w2 ⟨rfl, hww⟩; subst hww
  have t1 := BO.c1
  have t2 := BO.c2
  have BH := hid BO
  clear BO
  go_wp2_with (go_at_call 29; refine (F.out _ BH.out.lo).mono ?_; rintro e w3 ⟨rfl, hb3⟩; have B3 := BH.out.low hb3; clear t1 t2 hb3; have u1 := B3.c1; have u2 := B3.c2; have u3 := B3.c3; have u4 := B3.c4; have u5 := B3.f3; have u6 := B3.f4; have HB := hid B3.lo; clear B3 BH)
  (try simp only [Exit.inBlock, Exit.then])
  refine bodyPost_ret (v := .tuple #[.agg #[.int .i64 m, .slice a L cap], .int .i64 0, .int .i64 52]) ?_ rfl ⟨rfl, below_set (below_set HB.out _ _ _ (Nat.le_succ _)) _ _ _ (Nat.le_succ _)⟩
  rw [results_cell_tmp3 rfl]
  go_simp
set_option maxHeartbeats 4000000 in
theorem rput_full (m : Nat) (a : Option Addr) (cap : Nat) (d : List Dr) (s : ByteArray) (x : Int) (w : World) (hi : ItD w a cap d) (hl : d.length ≤ 65536) (hb : badB s = false) (hj : findD d s = -1) (hm : m ≤ d.length) : Calls Tryd.prog 42 #[.agg #[.int .i64 (m : Int), .slice a d.length cap], .string s, .int .i64 x] w fun e w' => e = .returned (.tuple #[.agg #[.int .i64 (m : Int), .slice a d.length cap], .int .i64 0, .int .i64 53]) ∧ Below w.heap.size w w' := by
  have C := hid (fun W => rbad_any s W (maxLen_of hb))
  rw [hb] at C
  have F := hid (fun W h => findW (w := w) (W := W) m s hi hl h)
  rw [hj] at F
  have BO := Bp.mk2 w m (.slice a d.length cap) 49
  clear hi hb hj
  generalize d.length = L at *
  go_enter Tryd.func42, Tryd.ntmps42
  go_wp2_with fail
  generalize (w.alloc _).alloc _ = W at *
  refine (C.out _).mono ?_
  rintro e w2 ⟨rfl, hww⟩; subst hww
  have t1 := BO.c1
  have t2 := BO.c2
  have BH := hid BO
  clear BO
  go_wp2_with (go_at_call 29; refine (F.out _ BH.out.lo).mono ?_; rintro e w3 ⟨rfl, hb3⟩; have B3 := BH.out.low hb3; clear t1 t2 hb3; have u1 := B3.c1; have u2 := B3.c2; have u3 := B3.c3; have u4 := B3.c4; have u5 := B3.f3; have u6 := B3.f4; have HB := hid B3.lo; clear B3 BH)
  (try simp only [Exit.inBlock, Exit.then])
  refine bodyPost_ret (v := .tuple #[.agg #[.int .i64 m, .slice a L cap], .int .i64 0, .int .i64 53]) ?_ rfl ⟨rfl, below_set (below_set HB.out _ _ _ (Nat.le_succ _)) _ _ _ (Nat.le_succ _)⟩
  rw [results_cell_tmp3 rfl]
  go_simp
end Go.Proofs.YtdhjoimiejdgbabDoor.L
