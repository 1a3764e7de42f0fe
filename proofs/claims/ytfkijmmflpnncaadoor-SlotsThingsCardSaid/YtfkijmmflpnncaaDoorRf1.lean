import Derived.Test.YtfkijmmflpnncaaDoorMgAD
namespace Go.Proofs.YtfkijmmflpnncaaDoor.L
open Go.RowKit Bs Go.Maps
set_option linter.unusedVariables false
/-! ### The document's side: rows of slot, name and value. -/
abbrev Dr := Nat × ByteArray × Int
def cellsD (d : List Dr) : List Value := d.flatMap fun x => [.int .i64 (x.1 : Int), .string x.2.1, .int .i64 x.2.2]
theorem cellsD_cons (x : Dr) (d : List Dr) : cellsD (x :: d) = .int .i64 (x.1 : Int) :: .string x.2.1 :: .int .i64 x.2.2 :: cellsD d := rfl
theorem cellsD_len : ∀ d : List Dr, (cellsD d).length = d.length * 3
  | [] => rfl
  | x :: d => by rw [cellsD_cons]; simp [cellsD_len d]; omega
theorem cellsD_app (d c : List Dr) : cellsD (d ++ c) = cellsD d ++ cellsD c := by simp [cellsD]
/-- The slot, the name and the value of a row. -/
def ds (d : List Dr) (i : Nat) : Nat := (d[i]?.map (·.1)).getD 0
def dn (d : List Dr) (i : Nat) : ByteArray := (d[i]?.map (·.2.1)).getD ByteArray.empty
def dl (d : List Dr) (i : Nat) : Int := (d[i]?.map (·.2.2)).getD 0
theorem ds_at {d : List Dr} {i : Nat} (h : i < d.length) : ds d i = (d[i]).1 := by unfold ds; rw [List.getElem?_eq_getElem h]; rfl
theorem dn_at {d : List Dr} {i : Nat} (h : i < d.length) : dn d i = (d[i]).2.1 := by unfold dn; rw [List.getElem?_eq_getElem h]; rfl
theorem dl_at {d : List Dr} {i : Nat} (h : i < d.length) : dl d i = (d[i]).2.2 := by unfold dl; rw [List.getElem?_eq_getElem h]; rfl
theorem cellsD_at : ∀ (d : List Dr) (j : Nat) (h : j < d.length), (cellsD d)[j * 3]? = some (.int .i64 (ds d j : Int)) ∧ (cellsD d)[j * 3 + 1]? = some (.string (dn d j)) ∧ (cellsD d)[j * 3 + 2]? = some (.int .i64 (dl d j))
  | x :: d, 0, h => ⟨rfl, rfl, rfl⟩
  | x :: d, j + 1, h => by
    have := cellsD_at d j (by simpa using h)
    rw [cellsD_cons, show (j + 1) * 3 = j * 3 + 1 + 1 + 1 by omega]
    simpa [ds, dn, dl] using this
abbrev OwnD (w : World) (v : Value) (d : List Dr) : Prop := w.ownsRow 0 52 3 v d.length (cellsD d)
/-- Rows, to be read. -/
def ItemsD (w : World) (v : Value) (d : List Dr) : Prop := ∃ a cap, v = .slice a d.length cap ∧ (d.length = 0 ∨ ∃ b, a = some ⟨b, 0, none⟩ ∧ b < w.heap.size ∧ ∀ j, j < d.length → w.cell? ⟨b, j * 3, none⟩ = some (.int .i64 (ds d j : Int)) ∧ w.cell? ⟨b, j * 3 + 1, none⟩ = some (.string (dn d j)) ∧ w.cell? ⟨b, j * 3 + 2, none⟩ = some (.int .i64 (dl d j)))
theorem own_itemsD {w : World} {v : Value} {d : List Dr} (h : OwnD w v d) : ItemsD w v d := by
  rcases own_form h with ⟨rfl, h0⟩ | ⟨g, cap, rfl, _, _, hlt⟩
  · exact ⟨none, 0, by rw [h0], Or.inl h0⟩
  · refine ⟨_, cap, rfl, Or.inr ⟨g, rfl, hlt, fun j hj => ?_⟩⟩
    obtain ⟨a, b, c⟩ := cellsD_at d j hj
    have A := h.cells (g := g) rfl _ _ a
    have B := h.cells (g := g) rfl _ _ b
    have C := h.cells (g := g) rfl _ _ c
    rw [Go.WideShapes.add_plain] at A B C
    simp at A B C
    exact ⟨A, B, C⟩
theorem items_alloc {w : World} {a : Option Addr} {d : List Dr} (h : d.length = 0 ∨ ∃ b, a = some ⟨b, 0, none⟩ ∧ b < w.heap.size ∧ ∀ j, j < d.length → w.cell? ⟨b, j * 3, none⟩ = some (.int .i64 (ds d j : Int)) ∧ w.cell? ⟨b, j * 3 + 1, none⟩ = some (.string (dn d j)) ∧ w.cell? ⟨b, j * 3 + 2, none⟩ = some (.int .i64 (dl d j))) (o : Obj) :
    d.length = 0 ∨ ∃ b, a = some ⟨b, 0, none⟩ ∧ b < w.heap.size ∧ ∀ j, j < d.length → (w.alloc o).cell? ⟨b, j * 3, none⟩ = some (.int .i64 (ds d j : Int)) ∧ (w.alloc o).cell? ⟨b, j * 3 + 1, none⟩ = some (.string (dn d j)) ∧ (w.alloc o).cell? ⟨b, j * 3 + 2, none⟩ = some (.int .i64 (dl d j)) := by
  rcases h with h | ⟨b, rfl, hb, hc⟩
  · exact Or.inl h
  · have e : (w.alloc o).heap[b]? = w.heap[b]? := ((Below.refl w.heap.size w).alloc (Nat.le_refl _) o).block b hb
    refine Or.inr ⟨b, rfl, hb, fun j hj => ?_⟩
    rw [World.cell?_of_block (w := w) (a := ⟨b, j * 3, none⟩) e, World.cell?_of_block (w := w) (a := ⟨b, j * 3 + 1, none⟩) e, World.cell?_of_block (w := w) (a := ⟨b, j * 3 + 2, none⟩) e]
    exact hc j hj
/-- The first row for which p holds, or -1. -/
def fst1 (p : Nat → Bool) : Nat → Nat → Int
  | 0, _ => -1
  | n + 1, k => if p k = true then (k : Int) else fst1 p n (k + 1)
theorem fst1_step (p : Nat → Bool) (len k : Nat) (h : k < len) : fst1 p (len - k) k = if p k = true then (k : Int) else fst1 p (len - (k + 1)) (k + 1) := by
  obtain ⟨n, hn⟩ : ∃ n, len - k = n + 1 := ⟨len - k - 1, by omega⟩
  rw [hn, show len - (k + 1) = n by omega]
  rfl
theorem fst1_cases (p : Nat → Bool) (n k : Nat) : (fst1 p n k = -1 ∧ ∀ i, k ≤ i → i < k + n → p i = false) ∨ ∃ j : Nat, fst1 p n k = j ∧ k ≤ j ∧ j < k + n ∧ p j = true := by
  induction n generalizing k with
  | zero => exact Or.inl ⟨rfl, fun i h1 h2 => by omega⟩
  | succ n ih =>
    unfold fst1
    cases e : p k
    · simp only [Bool.false_eq_true, if_false]
      rcases ih (k + 1) with ⟨h1, h3⟩ | ⟨j, h1, h2, h3, h4⟩
      · refine Or.inl ⟨h1, fun i hi hj => ?_⟩
        by_cases ei : i = k
        · rw [ei]; exact e
        · exact h3 i (by omega) (by omega)
      · exact Or.inr ⟨j, h1, by omega, by omega, h4⟩
    · simp only [if_true]
      exact Or.inr ⟨k, rfl, Nat.le_refl _, by omega, e⟩
/-- The row of a slot; the row of a name. -/
def atD (d : List Dr) (i : Int) : Int := fst1 (fun k => (ds d k : Int) == i) d.length 0
def findD (d : List Dr) (s : ByteArray) : Int := fst1 (fun k => (dn d k).toList == s.toList) d.length 0
theorem atD_cases (d : List Dr) (i : Int) : (atD d i = -1 ∧ ∀ k, k < d.length → (ds d k : Int) ≠ i) ∨ ∃ j : Nat, atD d i = j ∧ j < d.length ∧ (ds d j : Int) = i := by
  rcases fst1_cases (fun k => (ds d k : Int) == i) d.length 0 with ⟨a, b⟩ | ⟨j, a, _, b, c⟩
  · exact Or.inl ⟨a, fun k hk => by simpa using b k (Nat.zero_le _) (by omega)⟩
  · exact Or.inr ⟨j, a, by omega, by simpa using c⟩
theorem toList_eq {s t : ByteArray} : s.toList = t.toList ↔ s = t :=
  ⟨fun h => bytes_ext (by rw [bytes_toList, bytes_toList] at h; exact h), fun h => by rw [h]⟩
theorem findD_cases (d : List Dr) (s : ByteArray) : (findD d s = -1 ∧ ∀ k, k < d.length → dn d k ≠ s) ∨ ∃ j : Nat, findD d s = j ∧ j < d.length ∧ dn d j = s := by
  rcases fst1_cases (fun k => (dn d k).toList == s.toList) d.length 0 with ⟨a, b⟩ | ⟨j, a, _, b, c⟩
  · exact Or.inl ⟨a, fun k hk e => by have := b k (Nat.zero_le _) (by omega); rw [e] at this; simp at this⟩
  · exact Or.inr ⟨j, a, by omega, toList_eq.1 (by simpa using c)⟩
set_option maxHeartbeats 4000000 in
theorem rat_any (m : Int) (v : Value) (d : List Dr) (i : Int) (w : World) (hi : ItemsD w v d) (hl : d.length ≤ 65536) : Calls Tryd.prog 21 #[.agg #[.int .i64 m, v], .int .i64 i] w fun e w' => e = .returned (.int .i64 (atD d i)) ∧ Below w.heap.size w w' := by
  obtain ⟨a, cap, rfl, hi⟩ := hi
  have HB := hid (Below.refl w.heap.size w)
  have hi := items_alloc hi (Obj.cells #[.int .i64 m, .slice a d.length cap] 35 (0, 0))
  have HR := hid (show atD d i = fst1 (fun k => (ds d k : Int) == i) (d.length - 0) 0 from rfl)
  obtain ⟨len, hlen⟩ : ∃ n, n = d.length := ⟨_, rfl⟩
  rw [← hlen] at hl hi HR ⊢
  clear hlen
  go_enter Tryd.func21, Tryd.ntmps21
  go_wp2
  go_loop [5] (fun x => ∃ k : Nat, k ≤ len ∧ x = .int .i64 k ∧ Hid (atD d i = fst1 (fun k => (ds d k : Int) == i) (len - k) k)) (fun x => len - (intOf x).toNat)
  case atStart => exact ⟨0, Nat.zero_le _, rfl, HR⟩
  case round =>
    obtain ⟨k, hk, rfl, HK⟩ := hrel
    by_cases hlt : k < len
    · rcases hi with h0 | ⟨b, rfl, hbl, hc⟩
      · omega
      obtain ⟨c0, c1, c2⟩ := hc k hlt
      have st := HK.out.trans (fst1_step _ len k hlt)
      clear HK
      generalize (ds d k : Int) = x at *
      generalize dn d k = s' at *
      generalize dl d k = n at *
      clear hc
      cases e1 : (x == i)
      · rw [e1] at st
        simp only [Bool.false_eq_true, if_false] at st
        have HF := hid st
        clear st
        go_wp2
        exact ⟨⟨k + 1, by omega, by go_num, HF⟩, by simp [intOf]; omega⟩
      · rw [e1] at st
        simp only [if_true] at st
        have HF := hid st
        clear st
        go_wp2
        go_ret
        exact ⟨by rw [HF.out]; rfl, HB.out.alloc (Nat.le_refl _) _⟩
    · obtain rfl : k = len := by omega
      have HF := hid (show atD d i = -1 by rw [HK.out, Nat.sub_self]; rfl)
      go_wp2
      go_ret
      exact ⟨by rw [HF.out]; rfl, HB.out.alloc (Nat.le_refl _) _⟩
set_option maxHeartbeats 4000000 in
theorem rfindD_any (m : Int) (v : Value) (d : List Dr) (s : ByteArray) (w : World) (hi : ItemsD w v d) (hl : d.length ≤ 65536) : Calls Tryd.prog 35 #[.agg #[.int .i64 m, v], .string s] w fun e w' => e = .returned (.int .i64 (findD d s)) ∧ Below w.heap.size w w' := by
  obtain ⟨a, cap, rfl, hi⟩ := hi
  have HB := hid (Below.refl w.heap.size w)
  have hi := items_alloc hi (Obj.cells #[.int .i64 m, .slice a d.length cap] 35 (0, 0))
  have HR := hid (show findD d s = fst1 (fun k => (dn d k).toList == s.toList) (d.length - 0) 0 from rfl)
  obtain ⟨len, hlen⟩ : ∃ n, n = d.length := ⟨_, rfl⟩
  rw [← hlen] at hl hi HR ⊢
  clear hlen
  go_enter Tryd.func35, Tryd.ntmps35
  go_wp2
  go_loop [5] (fun x => ∃ k : Nat, k ≤ len ∧ x = .int .i64 k ∧ Hid (findD d s = fst1 (fun k => (dn d k).toList == s.toList) (len - k) k)) (fun x => len - (intOf x).toNat)
  case atStart => exact ⟨0, Nat.zero_le _, rfl, HR⟩
  case round =>
    obtain ⟨k, hk, rfl, HK⟩ := hrel
    by_cases hlt : k < len
    · rcases hi with h0 | ⟨b, rfl, hbl, hc⟩
      · omega
      obtain ⟨c0, c1, c2⟩ := hc k hlt
      have st := HK.out.trans (fst1_step _ len k hlt)
      clear HK
      generalize (ds d k : Int) = x at *
      generalize dn d k = s' at *
      generalize dl d k = n at *
      clear hc
      cases e1 : (s'.toList == s.toList)
      · rw [e1] at st
        simp only [Bool.false_eq_true, if_false] at st
        have HF := hid st
        clear st
        go_wp2
        exact ⟨⟨k + 1, by omega, by go_num, HF⟩, by simp [intOf]; omega⟩
      · rw [e1] at st
        simp only [if_true] at st
        have HF := hid st
        clear st
        go_wp2
        go_ret
        exact ⟨by rw [HF.out]; rfl, HB.out.alloc (Nat.le_refl _) _⟩
    · obtain rfl : k = len := by omega
      have HF := hid (show findD d s = -1 by rw [HK.out, Nat.sub_self]; rfl)
      go_wp2
      go_ret
      exact ⟨by rw [HF.out]; rfl, HB.out.alloc (Nat.le_refl _) _⟩
end Go.Proofs.YtfkijmmflpnncaaDoor.L
