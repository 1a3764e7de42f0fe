import Derived.Test.YtkagdmhijjfnnabDoorNl7
import Derived.Laws.AppendOwnNone
import Derived.Laws.MakeOwn
namespace Go.Proofs.YtkagdmhijjfnnabDoor
open Go.RowKit Bs
set_option linter.unusedVariables false
theorem card_gap (S : Nat → Bool) {a b : Nat} (h : a ≤ b) (hn : ∀ t, a ≤ t → t < b → S t = false) : card b S = card a S := by
  obtain ⟨k, rfl⟩ : ∃ k, b = a + k := ⟨b - a, by omega⟩
  rw [card_shift, (card_zero_iff _ k).2 (fun i hi => hn (a + i) (by omega) (by omega)), Nat.add_zero]
theorem card_next (S : Nat → Bool) (a : Nat) (h : S a = true) : card (a + 1) S = card a S + 1 := by
  rw [card_shift]
  have : card 1 (fun b => S (a + b)) = 1 := by simp [card, h]
  omega
/-- A list that rises. -/
def Up (zs : List Int) : Prop := zs.Pairwise (· < ·)
theorem Up.lt {zs : List Int} (h : Up zs) {j k : Nat} (hjk : j < k) (hk : k < zs.length) : zs.getD j 0 < zs.getD k 0 := by
  have := List.pairwise_iff_getElem.1 h j k (by omega) hk hjk
  rw [List.getD_eq_getElem?_getD, List.getD_eq_getElem?_getD, List.getElem?_eq_getElem hk, List.getElem?_eq_getElem (show j < zs.length by omega)]
  exact this
theorem getD_at {zs : List Int} {k : Nat} (h : k < zs.length) : zs.getD k 0 = zs[k] := by rw [List.getD_eq_getElem?_getD, List.getElem?_eq_getElem h]; rfl
theorem mem_getD {zs : List Int} {z : Int} : z ∈ zs ↔ ∃ k, k < zs.length ∧ zs.getD k 0 = z := by
  rw [List.mem_iff_getElem]
  constructor
  · rintro ⟨k, hk, e⟩; exact ⟨k, hk, by rw [getD_at hk]; exact e⟩
  · rintro ⟨k, hk, e⟩; exact ⟨k, hk, by rw [← getD_at hk]; exact e⟩
/-- The members below n, as a list. -/
def msR (n : Nat) (S : Nat → Bool) : List Int := ((List.range n).filter S).map fun i : Nat => (i : Int)
theorem msR_succ (n : Nat) (S : Nat → Bool) : msR (n + 1) S = msR n S ++ (if S n then [(n : Int)] else []) := by
  unfold msR
  rw [List.range_succ, List.filter_append, List.map_append]
  cases e : S n <;> simp [e]
theorem msR_mem {n : Nat} {S : Nat → Bool} {z : Int} : z ∈ msR n S ↔ ∃ a : Nat, z = a ∧ a < n ∧ S a = true := by
  unfold msR
  rw [List.mem_map]
  constructor
  · rintro ⟨a, h, rfl⟩
    rw [List.mem_filter, List.mem_range] at h
    exact ⟨a, rfl, h.1, h.2⟩
  · rintro ⟨a, rfl, h1, h2⟩
    exact ⟨a, by rw [List.mem_filter, List.mem_range]; exact ⟨h1, h2⟩, rfl⟩
theorem msR_up (S : Nat → Bool) : ∀ n, Up (msR n S)
  | 0 => List.Pairwise.nil
  | n + 1 => by
    rw [msR_succ]
    refine List.pairwise_append.2 ⟨msR_up S n, by split <;> simp, fun a ha b hb => ?_⟩
    obtain ⟨x, rfl, h1, h2⟩ := msR_mem.1 ha
    split at hb
    · simp at hb; omega
    · cases hb
theorem msR_len (S : Nat → Bool) : ∀ n, (msR n S).length = card n S
  | 0 => rfl
  | n + 1 => by
    rw [msR_succ, List.length_append, msR_len S n]
    by_cases e : S n = true
    · rw [if_pos e, card_next S n e]; rfl
    · rw [if_neg e, card_gap S (Nat.le_succ n) (fun t h1 h2 => by obtain rfl : t = n := by omega
                                                                  simpa using e)]; rfl
theorem msR_is (n : Nat) (S : Nat → Bool) : MsOf n S (msR n S) := by
  refine ⟨msR_len S n, fun t ht => ?_⟩
  obtain ⟨a, e, h1, h2⟩ := msR_mem.1 (mem_getD.2 ⟨t, ht, rfl⟩)
  refine ⟨a, e, h1, h2, ?_⟩
  have pre : ∀ m, m ≤ n → (msR n S).take (card m S) = msR m S := by
    intro m hm
    induction n with
    | zero => obtain rfl : m = 0 := by omega
              rfl
    | succ n ih =>
      by_cases c : m = n + 1
      · subst c
        rw [← msR_len S (n + 1)]
        exact List.take_length
      · have hl : card m S ≤ (msR n S).length := by rw [msR_len]; exact card_mono S (by omega)
        rw [msR_succ, List.take_append_of_le_length hl]
        have key : ∀ k, m ≤ k → (msR k S).take (card m S) = msR m S := by
          intro k hk
          induction k with
          | zero => obtain rfl : m = 0 := by omega
                    rfl
          | succ k ihk =>
            by_cases c : m = k + 1
            · subst c
              rw [← msR_len S (k + 1)]
              exact List.take_length
            · have hl : card m S ≤ (msR k S).length := by rw [msR_len]; exact card_mono S (by omega)
              rw [msR_succ, List.take_append_of_le_length hl]
              exact ihk (by omega)
        exact key n (by omega)
  have e2 : msR (a + 1) S = msR a S ++ [(a : Int)] := by rw [msR_succ, if_pos h2]
  have hlt : card a S < (msR n S).length := by
    rw [msR_len]
    have := card_next S a h2
    have := card_mono S (show a + 1 ≤ n by omega)
    omega
  have g : (msR n S).getD (card a S) 0 = a := by
    have p := pre (a + 1) (by omega)
    rw [e2] at p
    have q : ((msR n S).take (card (a + 1) S)).getD (card a S) 0 = a := by
      rw [p, List.getD_eq_getElem?_getD, ← msR_len S a]
      simp
    rw [List.getD_eq_getElem?_getD, List.getElem?_take, if_pos (by have := card_next S a h2; omega)] at q
    rw [List.getD_eq_getElem?_getD]
    exact q
  rcases Nat.lt_trichotomy (card a S) t with c | c | c
  · have := (msR_up S n).lt c ht; omega
  · exact c
  · have := (msR_up S n).lt c hlt; omega
/-- A list of numbers, to be read. -/
def Rd (w : World) (a : Option Addr) (zs : List Int) : Prop := zs.length = 0 ∨ ∃ b off, a = some ⟨b, off, none⟩ ∧ b < w.heap.size ∧ ∀ j, j < zs.length → w.cell? ⟨b, off + j, none⟩ = some (.int .i64 (zs.getD j 0))
theorem Rd.low {w w' : World} {a : Option Addr} {zs : List Int} (h : Rd w a zs) {B : Nat} (k : Below B w w') (hB : w.heap.size ≤ B) : Rd w' a zs := by
  rcases h with h | ⟨b, off, rfl, h2, h3⟩
  · exact Or.inl h
  · exact Or.inr ⟨b, off, rfl, Nat.lt_of_lt_of_le h2 k.size, fun j hj => (k.cell (p := ⟨b, off + j, none⟩) (Nat.lt_of_lt_of_le h2 hB)).trans (h3 j hj)⟩
theorem Rd.drew {w : World} {a : Option Addr} {zs : List Int} (h : Rd w a zs) (n : Nat) : Rd (w.drewN n) a zs := h
theorem Rd.alloc {w : World} {a : Option Addr} {zs : List Int} (h : Rd w a zs) (o : Obj) : Rd (w.alloc o) a zs := h.low (lowAlloc w o) (Nat.le_refl _)
theorem Hl.rd {w : World} {lo : Nat} {v : Value} {zs : List Int} (h : Hl w lo v zs) : ∃ a cap, v = .slice a zs.length cap ∧ Rd w a zs := by
  obtain ⟨a, cap, rfl, h⟩ := h
  refine ⟨a, cap, rfl, ?_⟩
  rcases h with h | ⟨b, off, rfl, h1, h2, h3⟩
  · exact Or.inl (by rw [h]; rfl)
  · exact Or.inr ⟨b, off, rfl, h2, h3⟩
abbrev OwnI (w : World) (base : Nat) (v : Value) (zs : List Int) : Prop := w.ownsRow base 3 1 v zs.length (zs.map (Value.int .i64))
theorem set_oth (W : World) (v : Value) {g o b : Nat} (h : b ≠ g) : (W.setCell ⟨g, o, none⟩ v).heap[b]? = W.heap[b]? := Below.heap_setCell _ _ _ _ h
theorem below_st {B : Nat} {a w : World} (h : Below B a w) (b o : Nat) (v : Value) (hb : B ≤ b) : Below B a (w.setCell ⟨b, o, none⟩ v) :=
  ⟨h.os, h.tape, h.output, by simpa using h.size, fun k hk => (set_oth w v (show k ≠ b by omega)).trans (h.block k hk)⟩
theorem own_set {w : World} {base n : Nat} {e : TypeId} {sz : Nat} {v : Value} {xs : List Value} (o : w.ownsRow base e sz v n xs) {g k : Nat} (u : Value) (h : v.ownBlock ≠ some g) : (w.setCell ⟨g, k, none⟩ u).ownsRow base e sz v n xs :=
  o.kept (row := some g) ⟨rfl, rfl, rfl, by simp, fun k _ hk => set_oth w u (fun e => hk (by rw [e]))⟩ (Or.inr h)
theorem own_form {w : World} {base : Nat} {v : Value} {zs : List Int} (h : OwnI w base v zs) : ∃ a cap, v = .slice a zs.length cap := by
  rcases h.2 with ⟨e, h0⟩ | ⟨g, cap, cur, e, _⟩
  · exact ⟨none, 0, by rw [e, h0]⟩
  · exact ⟨_, cap, e⟩
theorem own_mono {w : World} {base base' : Nat} {v : Value} {zs : List Int} (h : OwnI w base v zs) (hb : base' ≤ base) : OwnI w base' v zs := by
  refine ⟨h.1, ?_⟩
  rcases h.2 with e | ⟨g, cap, cur, e, h1, h2⟩
  · exact Or.inl e
  · exact Or.inr ⟨g, cap, cur, e, Nat.le_trans hb h1, h2⟩
theorem Holds.rd {w : World} {v : Value} {zs : List Int} (h : Holds w v zs) : ∃ a cap, v = .slice a zs.length cap ∧ Rd w a zs := by
  rcases h.ex with ⟨rfl, rfl⟩ | ⟨b, off, cap, rfl, hc⟩
  · exact ⟨none, 0, rfl, Or.inl rfl⟩
  · refine ⟨_, cap, rfl, ?_⟩
    by_cases e : zs.length = 0
    · exact Or.inl e
    · exact Or.inr ⟨b, off, rfl, block_lt_of_cell (hc 0 (by omega)), hc⟩
theorem Holds.low {w w' : World} {v : Value} {zs : List Int} (h : Holds w v zs) (k : Below w.heap.size w w') : Holds w' v zs := by
  constructor
  rcases h.ex with h | ⟨b, off, cap, rfl, hc⟩
  · exact Or.inl h
  · exact Or.inr ⟨b, off, cap, rfl, fun j hj => (k.cell (p := ⟨b, off + j, none⟩) (block_lt_of_cell (hc j hj))).trans (hc j hj)⟩
theorem holds_take {w : World} {b off : Nat} {zs : List Int} (hc : ∀ j, j < zs.length → w.cell? ⟨b, off + j, none⟩ = some (.int .i64 (zs.getD j 0))) {k c : Nat} (hk : k ≤ zs.length) : Holds w (.slice (some ⟨b, off, none⟩) k c) (zs.take k) := by
  have e : (zs.take k).length = k := by rw [List.length_take]; omega
  refine ⟨Or.inr ⟨b, off, c, by rw [e], fun j hj => ?_⟩⟩
  rw [e] at hj
  rw [hc j (by omega), List.getD_eq_getElem?_getD, List.getD_eq_getElem?_getD, List.getElem?_take, if_pos hj]
theorem holds_src {w : World} {b off : Nat} {ys : List Int} (hc : ∀ j, j < ys.length → w.cell? ⟨b, off + j, none⟩ = some (.int .i64 (ys.getD j 0))) : ∀ j u, (ys.map (Value.int .i64))[j]? = some u → w.cell? ((⟨b, off, none⟩ : Addr).add j) = some u := by
  intro j u hj
  rw [List.getElem?_map] at hj
  rcases e : ys[j]? with _ | z
  · rw [e] at hj; cases hj
  · rw [e] at hj
    simp at hj
    subst hj
    have hl : j < ys.length := by
      apply Classical.byContradiction; intro c
      rw [List.getElem?_eq_none (by omega)] at e; cases e
    rw [Go.WideShapes.add_plain]
    have := hc j hl
    rw [List.getD_eq_getElem?_getD, e] at this
    exact this
/-- An append of a list of numbers to a row of one's own. -/
theorem wpList_append_src {w : World} {ops : Array Oper} {rest : List Oper} {o : Oper} {a : Act} {Q : Exit → Act → World → Prop} (hgd : o.guard = none) (s x : Operand)
    (ho : o.op = .call { callee := .builtin .append, args := #[s, x], argTypes := #[22, 22] })
    (base : Nat) (v : Value) (zs : List Int) (hs : a.eval s = v) (hown : OwnI w base v zs) (v' : Value) (ys : List Int) (hx : a.eval x = v') (hsrc : Holds w v' ys) (hbound : zs.length + ys.length ≤ 17592186044000) (hbase : base ≤ w.heap.size)
    (h : ∀ v'' w', OwnI w' base v'' (zs ++ ys) → w.grownBy w' v.ownBlock → wpList Tryd.prog ops Q rest (a.put o.dst v'') w') : wpList Tryd.prog ops Q (o :: rest) a w := by
  obtain ⟨i0, hi, hz0, hz1, hz2⟩ := info3
  rcases hsrc.ex with ⟨rfl, rfl⟩ | ⟨b, off, cap, rfl, hc⟩
  · refine wpList_append_own_none hgd s x 22 ho base 3 i0 1 Tryd.underlying22 hi v _ _ hs hown hx ?_
    exact h v w (by rw [List.append_nil]; exact hown) ⟨rfl, rfl, rfl, Nat.le_refl _, fun _ _ _ => rfl⟩
  · refine wpList_append_own w hgd s x 22 ho base 3 i0 (.int .i64 0) 1 8 Tryd.underlying22 hi hz0 hz1 hz2 rfl (by decide) v _ _ hs hown ⟨b, off, none⟩ ys.length cap (ys.map (Value.int .i64)) hx (by simp) (holds_src hc) (by intro u hu; simp at hu; obtain ⟨z, _, rfl⟩ := hu; rfl) (by unfold maxLen; omega) (by omega) hbase ?_
    intro v'' w' ho' hg _
    refine h v'' w' ?_ hg
    unfold OwnI
    rw [List.length_append, List.map_append]
    exact ho'
theorem own_zero (w : World) (n : Nat) (hn : w.heap.size = n) : OwnI (w.alloc (.cells #[] 3)) n (.slice (some ⟨n, 0, none⟩) 0 0) [] := by
  subst hn
  exact World.ownsRow_made w #[] 0 (Nat.le_refl _) (Nat.zero_le _) rfl
set_option maxRecDepth 100000 in
set_option maxHeartbeats 2000000 in
theorem dmembers (n : Int) (v : Value) (zs : List Int) (w : World) (h : Holds w v zs) (hL : zs.length ≤ 65536) :
    Calls Tryd.prog 39 #[.agg #[.int .i64 n, v]] w fun e w' => ∃ v', e = .returned v' ∧ OwnI w' w.heap.size v' zs ∧ Below w.heap.size w w' := by
  have HB := hid ((lowAlloc w (.cells #[.int .i64 n, v] 50)).alloc (by simp) (.cells #[] 3))
  have H := hid (h.low HB.out)
  have O := hid (own_zero (w.alloc (.cells #[.int .i64 n, v] 50)) (w.heap.size + 1) (by simp))
  clear h
  go_enter Tryd.func39, Tryd.ntmps39
  go_wp2_with (at_builtin; refine wpList_append_src rfl _ _ rfl (w.heap.size + 1) _ [] rfl O.out _ zs rfl H.out ?c1 ?c2 ?_; rotate_left 2; intro v1 w1 o1 g1)
  case c1 => simp; omega
  case c2 => simp
  have B1 := hid (HB.out.grown g1 (by simp; omega) (fun k hk => by have := owns_block O.out k hk; omega))
  have O1 := hid (own_mono o1 (Nat.le_succ _))
  clear o1 g1 HB H O
  go_wp2_with fail
  go_ret
  exact ⟨_, rfl, O1.out, B1.out⟩
theorem own_low {w w' : World} {base : Nat} {v : Value} {zs : List Int} (h : OwnI w base v zs) (k : Below w.heap.size w w') : OwnI w' base v zs := by
  refine ⟨h.1, ?_⟩
  rcases h.2 with e | ⟨g, cap, cur, e, h1, h2, h3⟩
  · exact Or.inl e
  · exact Or.inr ⟨g, cap, cur, e, h1, (k.block g (lt_of_block h2)).trans h2, h3⟩
theorem own_lt {w : World} {base : Nat} {v : Value} {zs : List Int} (h : OwnI w base v zs) {g : Nat} (e : v.ownBlock = some g) : base ≤ g ∧ g < w.heap.size := by
  refine ⟨owns_block h g e, ?_⟩
  rcases h.2 with ⟨e', _⟩ | ⟨g', cap, cur, e', h1, h2, h3⟩
  · rw [e'] at e; cases e
  · rw [e'] at e; simp [Value.ownBlock] at e; subst e; exact lt_of_block h2
theorem own_form9 {w : World} {base : Nat} {v : Value} {zs : List Int} (h : OwnI w base v zs) : ∃ a l cap, v = .slice a l cap := by
  obtain ⟨a, c, e⟩ := own_form h
  exact ⟨a, _, c, e⟩
theorem holds_one (w : World) (t : TypeId) (z : Int) : Holds (w.alloc (.cells #[.int .i64 z] t)) (.slice (some ⟨w.heap.size, 0, none⟩) 1 1) [z] := by
  refine ⟨Or.inr ⟨w.heap.size, 0, 1, rfl, fun j hj => ?_⟩⟩
  obtain rfl : j = 0 := by simp at hj; exact hj
  rw [cell_of_row _ _ _ _ _ _ (heap_alloc_new w _)]
  rfl
set_option maxRecDepth 100000 in
set_option maxHeartbeats 4000000 in
theorem dnew (n : Nat) (w : World) (hn : n ≤ 65536) :
    Calls Tryd.prog 66 #[.int .i64 (n : Int)] w fun e w' => e = .returned (.tuple #[.agg #[.int .i64 (n : Int), .slice none 0 0], .int .i64 0]) ∧ Below w.heap.size w w' := by
  have h1 : ¬ (n : Int) < 0 := by omega
  have h2 : ¬ (65536 : Int) < (n : Int) := by omega
  have h3 : ¬ 65536 < n := by omega
  go_enter Tryd.func66, Tryd.ntmps66
  go_wp2_with fail
  refine bodyPost_ret (v := .tuple #[.agg #[.int .i64 (n : Int), .slice none 0 0], .int .i64 0]) ?_ rfl ⟨rfl, lowAlloc w _⟩
  rw [results_cell_tmp rfl]
  go_simp
/-- A row of bools. -/
def brow (bs : List Bool) : Array Value := (bs.map Value.bool).toArray
theorem brow_get (bs : List Bool) (i : Nat) (h : i < bs.length) : (brow bs)[i]? = some (.bool (bs.getD i false)) := by
  simp [brow, List.getD_eq_getElem?_getD, List.getElem?_eq_getElem h]
theorem brow_size (bs : List Bool) : (brow bs).size = bs.length := by simp [brow]
theorem brow_set (bs : List Bool) (i : Nat) (x : Bool) : (brow bs).setIfInBounds i (.bool x) = brow (bs.set i x) := by
  simp only [brow, List.setIfInBounds_toArray]
  congr 1
  rw [List.map_set]
theorem infoB : ∃ i : TypeInfo, Tryd.prog.info? 4 = some i ∧ i.zero = some (.bool false) ∧ i.size = 1 ∧ i.bytes = 1 := by
  refine ⟨(Tryd.prog.info? 4).getD default, ?_, ?_, ?_, ?_⟩ <;> kernel_rfl
theorem made_bools (k : Nat) : madeCells (Value.bool false).cells k = brow (List.replicate k false) := by
  apply Array.ext
  · simp [madeCells, brow]
  · intro i h1 h2
    simp [madeCells, Value.cells, Nat.mod_one, brow]
theorem make_bools (n : Nat) (hn : n ≤ 65536) (w : World) : Sem.run Tryd.prog (Instr.makeSlice 82 (.int .i64 (n : Int)) (.int .i64 (n : Int))) w =
    .ok (.slice (some ⟨w.heap.size, 0, none⟩) n n) (w.alloc (.cells (brow (List.replicate n false)) 4)) := by
  obtain ⟨i, hi, hz, hs, hb⟩ := infoB
  have h := run_makeSlice (P := Tryd.prog) w 82 4 i (.bool false) Tryd.underlying82 hi hz .i64 .i64 n n (by omega) (by omega) (by rw [hs]; omega) (by rw [hb]; omega) (by omega)
  rw [hs, Nat.mul_one, Int.toNat_natCast, made_bools] at h
  exact h
/-- The answer's box and the set's own. -/
structure Fx (w W : World) (S : Nat) (n : Int) (v : Value) : Prop where
  r : W.heap[w.heap.size]? = some (.cells #[.int .i64 0, .slice none 0 0] 50 (0, 0))
  s : W.heap[S]? = some (.cells #[.int .i64 n, v] 50 (0, 0))
  lt : w.heap.size < S
  low : Below w.heap.size w W
theorem Fx.on {w W W' : World} {S : Nat} {n : Int} {v : Value} (h : Fx w W S n v) (k : Below W.heap.size W W') : Fx w W' S n v :=
  ⟨(k.block _ (lt_of_block h.r)).trans h.r, (k.block _ (lt_of_block h.s)).trans h.s, h.lt, belowT h.low k⟩
theorem Fx.s0 {w W : World} {S : Nat} {n : Int} {v : Value} (h : Fx w W S n v) : W.cell? ⟨S, 0, none⟩ = some (.int .i64 n) := by rw [cell_of_row _ _ 0 _ _ _ h.s]; rfl
theorem Fx.s1 {w W : World} {S : Nat} {n : Int} {v : Value} (h : Fx w W S n v) : W.cell? ⟨S, 1, none⟩ = some v := by rw [cell_of_row _ _ 1 _ _ _ h.s]; rfl
theorem Fx.sf {w W : World} {S : Nat} {n : Int} {v : Value} (h : Fx w W S n v) (k : Nat) : W.frozen? ⟨S, k, none⟩ = false := frozen_of_row _ _ k _ _ h.s
theorem Fx.r0 {w W : World} {S : Nat} {n : Int} {v : Value} (h : Fx w W S n v) : W.cell? ⟨w.heap.size, 0, none⟩ = some (.int .i64 0) := by rw [cell_of_row _ _ 0 _ _ _ h.r]; rfl
theorem Fx.r1 {w W : World} {S : Nat} {n : Int} {v : Value} (h : Fx w W S n v) : W.cell? ⟨w.heap.size, 1, none⟩ = some (.slice none 0 0) := by rw [cell_of_row _ _ 1 _ _ _ h.r]; rfl
theorem Fx.rf {w W : World} {S : Nat} {n : Int} {v : Value} (h : Fx w W S n v) (k : Nat) : W.frozen? ⟨w.heap.size, k, none⟩ = false := frozen_of_row _ _ k _ _ h.r
theorem Fx.new {w W : World} (hW : Below (w.alloc (.cells #[.int .i64 0, .slice none 0 0] 50)).heap.size (w.alloc (.cells #[.int .i64 0, .slice none 0 0] 50)) W) (n : Int) (v : Value) : Fx w (W.alloc (.cells #[.int .i64 n, v] 50)) W.heap.size n v := by
  have hs := hW.size
  simp at hs
  refine ⟨?_, heap_alloc_new W _, by omega, ?_⟩
  · rw [heap_alloc_old _ _ (by omega), hW.block _ (by simp)]
    exact heap_alloc_new w _
  · exact belowT (belowT (lowAlloc w _) hW) (lowAlloc W _)
theorem Fx.other {w W : World} {S : Nat} {n : Int} {v : Value} (h : Fx w W S n v) {g : Nat} (k : Nat) (u : Value) (h1 : g ≠ w.heap.size) (h2 : g ≠ S) (h3 : w.heap.size ≤ g) : Fx w (W.setCell ⟨g, k, none⟩ u) S n v :=
  ⟨(set_oth W u h1.symm).trans h.r, (set_oth W u h2.symm).trans h.s, h.lt, below_st h.low _ _ _ h3⟩
theorem Fx.grown {w W W' : World} {S : Nat} {n : Int} {v : Value} (h : Fx w W S n v) {g : Option Nat} (k : W.grownBy W' g) (hg : ∀ b, g = some b → S < b) : Fx w W' S n v := by
  have l := lt_of_block h.s
  have hl := h.lt
  exact ⟨(k.block _ (by omega) (fun e => by have := hg _ e.symm; omega)).trans h.r, (k.block _ l (fun e => by have := hg _ e.symm; omega)).trans h.s, h.lt, h.low.grown k (by omega) (fun b e => by have := hg b e; omega)⟩
theorem Fx.put {w W : World} {S : Nat} {n : Int} {v : Value} (h : Fx w W S n v) (u : Value) : Fx w (W.setCell ⟨S, 1, none⟩ u) S n u := by
  have hl := h.lt
  refine ⟨(set_oth W u (by omega)).trans h.r, ?_, h.lt, below_st h.low _ _ _ (by omega)⟩
  rw [heap_setCell_same W S 1 _ _ u h.s]
  rfl
/-- The document's From in its third part: which places are in stands in the row I. -/
structure Fy (w W : World) (S I : Nat) (n : Nat) (v : Value) (bs : List Bool) : Prop where
  fx : Fx w W S n v
  row : W.heap[I]? = some (.cells (brow bs) 4 (0, 0))
  lt : S < I
  len : bs.length = n
theorem Fy.put {w W : World} {S I n : Nat} {v : Value} {bs : List Bool} (h : Fy w W S I n v bs) (k : Nat) : Fy w (W.setCell ⟨I, k, none⟩ (.bool true)) S I n v (bs.set k true) := by
  have l1 := h.lt
  have l2 := h.fx.lt
  refine ⟨h.fx.other k _ (by omega) (by omega) (by omega), ?_, h.lt, by rw [List.length_set]; exact h.len⟩
  rw [heap_setCell_same W I k _ _ _ h.row, brow_set]
theorem Fy.get {w W : World} {S I n : Nat} {v : Value} {bs : List Bool} (h : Fy w W S I n v bs) {k : Nat} (hk : k < n) : W.cell? ⟨I, k, none⟩ = some (.bool (bs.getD k false)) := by
  rw [cell_of_row _ _ k _ _ _ h.row, brow_get bs k (by rw [h.len]; exact hk)]
theorem set_true (bs : List Bool) (n z : Nat) (hz : z < bs.length) (j : Nat) : (bs.set z true).getD j false = (bs.getD j false || decide (j = z)) := by
  rw [List.getD_eq_getElem?_getD, List.getD_eq_getElem?_getD, List.getElem?_set]
  by_cases e : z = j
  · subst e; simp [hz]
  · have e' : ¬ j = z := fun c => e c.symm
    simp [e, e']
set_option maxRecDepth 100000 in
set_option maxHeartbeats 4000000 in
theorem dfrom (n : Nat) (a : Option Addr) (cap : Nat) (zs : List Int) (w : World) (hn : n ≤ 65536) (h : Rd w a zs) (hL : zs.length ≤ 9223372036854775807) (hz : ∀ z ∈ zs, 0 ≤ z ∧ z < n) :
    Calls Tryd.prog 57 #[.int .i64 (n : Int), .slice a zs.length cap] w fun e w' => ∃ v, e = .returned (.tuple #[.agg #[.int .i64 (n : Int), v], .int .i64 0]) ∧ OwnI w' w.heap.size v (msR n (fun i => decide ((i : Int) ∈ zs))) ∧ Below w.heap.size w w' := by
  obtain ⟨i0, hi, hz0, hz1, hz2⟩ := info3
  have HN := hid (dnew n (w.alloc (.cells #[.int .i64 0, .slice none 0 0] 50)) hn)
  have H := hid h
  have HZ := hid (fun k (hk : k < zs.length) => hz (zs.getD k 0) (mem_getD.2 ⟨k, hk, rfl⟩))
  clear h hz
  obtain ⟨L, hLe⟩ : ∃ L, L = zs.length := ⟨_, rfl⟩
  have HL := hid hLe
  rw [← hLe] at hL HZ ⊢
  clear hLe
  go_enter Tryd.func57, Tryd.ntmps57
  go_wp2_with fail
  refine HN.out.mono ?_
  rintro e w1 ⟨rfl, hb1⟩
  have X := hid (Fx.new hb1 n (.slice none 0 0))
  have s0 := X.out.s0
  have s1 := X.out.s1
  have hws : Hid ((w1.alloc (.cells #[.int .i64 (n : Int), .slice none 0 0] 50)).heap.size = w1.heap.size + 1) := hid (by simp)
  clear hb1 HN
  go_wp2_with fail
  generalize w1.alloc _ = W at *
  generalize w1.heap.size = S at *
  go_loop [8] (fun x => ∃ k : Nat, k ≤ L ∧ x = .int .i64 k) (fun x => L - (intOf x).toNat)
  case atStart => exact ⟨0, Nat.zero_le _, rfl⟩
  case round =>
    obtain ⟨k, hk, rfl⟩ := hrel
    by_cases hlt : k < L
    · rcases H.out.low X.out.low (Nat.le_refl _) with h0 | ⟨b, off, rfl, hb, hc⟩
      · have := HL.out; omega
      have hx := hc k (by rw [← HL.out]; exact hlt)
      obtain ⟨z1, z2⟩ := HZ.out k hlt
      clear hc
      generalize zs.getD k 0 = z at hx z1 z2
      have z3 : ¬ z < 0 := by omega
      have z4 : ¬ (n : Int) ≤ z := by omega
      go_wp2_with fail
      exact ⟨⟨k + 1, by omega, by go_num⟩, by simp [intOf]; omega⟩
    · obtain rfl : k = L := by omega
      have hmk := make_bools n hn W
      clear hlt
      go_wp2_with fail
      clear hmk
      have Y0 := hid (show Fy w (W.alloc (.cells (brow (List.replicate n false)) 4)) S W.heap.size n (.slice none 0 0) (List.replicate n false) from ⟨X.out.on (lowAlloc W _), heap_alloc_new W _, by have := hws.out; omega, by simp⟩)
      have HI0 := hid (show S < W.heap.size by have := hws.out; omega)
      generalize W.alloc _ = V at *
      generalize W.heap.size = I at *
      clear s0 s1 X hws
      go_loopw [10] (fun x wr => ∃ (m : Nat) (bs : List Bool), m ≤ k ∧ x = .int .i64 m ∧ Hid (Fy w wr S I n (.slice none 0 0) bs) ∧ Hid (∀ j : Nat, bs.getD j false = decide ((j : Int) ∈ zs.take m))) (fun x _ => k - (intOf x).toNat)
      case atStart => exact ⟨0, _, Nat.zero_le _, rfl, Y0, hid fun j => by
        rw [List.getD_eq_getElem?_getD, List.getElem?_replicate]
        split <;> simp⟩
      case round =>
        obtain ⟨m, bs, hm, rfl, HY, HB⟩ := hrel
        by_cases hlt : m < k
        · have hm2 : m < zs.length := by rw [← HL.out]; exact hlt
          rcases H.out.low HY.out.fx.low (Nat.le_refl _) with h0 | ⟨b, off, rfl, hb, hc⟩
          · omega
          have hx := hc m hm2
          obtain ⟨z1, z2⟩ := HZ.out m hlt
          have HT := hid (fun (z : Nat) (e : zs.getD m 0 = (z : Int)) (j : Nat) => take_dec zs m j z hm2 e)
          clear hc hm2
          generalize zs.getD m 0 = z' at hx z1 z2 HT
          obtain ⟨z, rfl⟩ : ∃ z : Nat, z' = z := ⟨z'.toNat, by omega⟩
          have z3 : z < n := by omega
          have hcell := HY.out.get z3
          have hfz : wr.frozen? ⟨I, z, none⟩ = false := frozen_of_row _ _ z _ _ HY.out.row
          have Y9 := hid (HY.out.put z)
          have B9 := hid (fun j => show (bs.set z true).getD j false = decide ((j : Int) ∈ zs.take (m + 1)) by
            rw [set_true bs n z (by rw [HY.out.len]; exact z3) j, HB.out j]
            exact HT.out z rfl j)
          clear HT HB
          go_wp2_with fail
          exact ⟨⟨m + 1, _, by omega, by go_num, Y9, B9⟩, by simp [intOf]; omega⟩
        · obtain rfl : m = k := by omega
          have HS : Hid (∀ j : Nat, bs.getD j false = decide ((j : Int) ∈ zs)) := hid fun j => by
            rw [HB.out j, HL.out, List.take_length]
          clear HB hlt Y0
          generalize wr = V2 at *
          obtain ⟨T, hT⟩ : ∃ T : Nat → Bool, T = fun i : Nat => decide ((i : Int) ∈ zs) := ⟨_, rfl⟩
          have HS2 : Hid (∀ j : Nat, bs.getD j false = T j) := hid fun j => by rw [hT]; exact HS.out j
          have HTT := hid hT
          clear hT HS
          go_wp2_with fail
          go_loopw [11] (fun x wr => ∃ (c : Nat) (v : Value), c ≤ n ∧ x = .int .i64 c ∧ Hid (Fy w wr S I n v bs) ∧ Hid (OwnI wr (I + 1) v (msR c T))) (fun x _ => n - (intOf x).toNat)
          case atStart => exact ⟨0, _, Nat.zero_le _, rfl, HY, hid (World.ownsRow_nil _ _ _ _)⟩
          case round =>
            obtain ⟨c, v, hc, rfl, HY, HO⟩ := hrel
            by_cases hlt : c < n
            · have hcell := HY.out.get hlt
              rw [HS2.out c] at hcell
              have hms := msR_succ c T
              cases hT : T c
              · rw [hT] at hcell hms
                simp only [Bool.false_eq_true, if_false, List.append_nil] at hms
                have O9 := hid (show OwnI wr (I + 1) v (msR (c + 1) T) by rw [hms]; exact HO.out)
                clear hms HO
                go_wp2_with fail
                exact ⟨⟨c + 1, v, by omega, by go_num, HY, O9⟩, by simp [intOf]; omega⟩
              · rw [hT] at hcell hms
                simp only [if_true] at hms
                have s1 := HY.out.fx.s1
                have hlen : (msR c T).length ≤ c := by rw [msR_len]; exact card_le _ _
                have HMS := hid hms
                have hsz : I + 1 ≤ wr.heap.size := lt_of_block HY.out.row
                have hfz := HY.out.fx.sf 1
                clear hms
                go_wp2_with (at_builtin; refine wpList_append_src rfl _ _ rfl (I + 1) _ (msR c T) rfl (own_low HO.out (lowAlloc wr (.cells #[.int .i64 (c : Int)] 3))) _ [(c : Int)] rfl (holds_one wr 3 c) (by (try simp); omega) (by simp; omega) ?_; intro v1 w2 o1 g1; have HY2 := hid (show Fy w w2 S I n v bs from ⟨(HY.out.fx.on (lowAlloc wr _)).grown g1 (fun b e => by have := (own_lt HO.out e).1; have := HY.out.lt; omega), (g1.block I (by simp; omega) (fun e => by have := (own_lt HO.out e.symm).1; omega)).trans ((lowAlloc wr _).block I (lt_of_block HY.out.row) |>.trans HY.out.row), HY.out.lt, HY.out.len⟩); have O1 := hid o1; obtain ⟨av, lv, cv, hv⟩ := own_form9 o1; subst hv; have s1 := HY2.out.fx.s1; have hf2 := HY2.out.fx.sf 1; clear o1 g1 hfz)
                have l1 := HY.out.lt
                have O9 := hid (show OwnI (w2.setCell ⟨S, 1, none⟩ (.slice av lv cv)) (I + 1) (.slice av lv cv) (msR (c + 1) T) by rw [HMS.out]; exact own_set O1.out _ (fun e => by have := (own_lt O1.out e).1; omega))
                have Y9 := hid (show Fy w (w2.setCell ⟨S, 1, none⟩ (.slice av lv cv)) S I n (.slice av lv cv) bs from ⟨HY2.out.fx.put _, (set_oth w2 _ (by omega)).trans HY2.out.row, HY2.out.lt, HY2.out.len⟩)
                exact ⟨⟨c + 1, _, by omega, by go_num, Y9, O9⟩, by simp [intOf]; omega⟩
            · obtain rfl : c = n := by omega
              have s0 := HY.out.fx.s0
              have s1 := HY.out.fx.s1
              have r0 := HY.out.fx.r0
              have r1 := HY.out.fx.r1
              have f0 := HY.out.fx.rf 0
              have f1 := HY.out.fx.rf 1
              have XL := hid HY.out.fx.low
              obtain ⟨av, lv, cv, hv⟩ := own_form9 HO.out
              subst hv
              have F9 := hid (fun e => by have := (own_lt HO.out e).1; have := HY.out.lt; have := HY.out.fx.lt; omega : Value.ownBlock (.slice av lv cv) ≠ some w.heap.size)
              have O9 := hid (own_mono HO.out (show w.heap.size ≤ I + 1 by have := HY.out.lt; have := HY.out.fx.lt; omega))
              clear hlt HY HO
              go_wp2_with fail
              refine bodyPost_ret (v := .tuple #[.agg #[.int .i64 (c : Int), .slice av lv cv], .int .i64 0]) ?_ rfl ⟨_, rfl, by rw [← HTT.out]; exact own_set (own_set O9.out _ F9.out) _ F9.out, below_st (below_st XL.out _ _ _ (by omega)) _ _ _ (by omega)⟩
              rw [results_cell_tmp rfl]
              go_simp
/-- A list of words, to be read. -/
def Rw (w : World) (a : Option Addr) (us : List Nat) : Prop := us.length = 0 ∨ ∃ b off, a = some ⟨b, off, none⟩ ∧ b < w.heap.size ∧ ∀ j, j < us.length → w.cell? ⟨b, off + j, none⟩ = some (.int .u64 ((us.getD j 0 : Nat) : Int))
theorem Rw.low {w w' : World} {a : Option Addr} {zs : List Nat} (h : Rw w a zs) {B : Nat} (k : Below B w w') (hB : w.heap.size ≤ B) : Rw w' a zs := by
  rcases h with h | ⟨b, off, rfl, h2, h3⟩
  · exact Or.inl h
  · exact Or.inr ⟨b, off, rfl, Nat.lt_of_lt_of_le h2 k.size, fun j hj => (k.cell (p := ⟨b, off + j, none⟩) (Nat.lt_of_lt_of_le h2 hB)).trans (h3 j hj)⟩
set_option maxHeartbeats 1000000 in
/-- SameWords of one list twice. -/
theorem samew_yes (a a' : Option Addr) (cap cap' : Nat) (us : List Nat) (w : World) (hL : us.length ≤ 65536) (h : Rw w a us) (h' : Rw w a' us) :
    Calls Tryd.prog 60 #[.slice a us.length cap, .slice a' us.length cap'] w fun e w' => e = .returned (.bool true) ∧ ∃ m, w' = w.drewN m := by
  obtain ⟨L, hLe⟩ : ∃ L, L = us.length := ⟨_, rfl⟩
  have HL := hid hLe
  have H := hid h
  have H' := hid h'
  rw [← hLe] at hL ⊢
  clear hLe h h'
  go_enter Tryd.func60, Tryd.ntmps60
  go_wp2
  go_loopw [5] (fun i wr => ∃ k : Nat, k ≤ L ∧ i = .int .i64 k ∧ ∃ m, wr = w.drewN m) (fun i _ => L - (intOf i).toNat)
  case atStart => exact ⟨0, Nat.zero_le _, rfl, 0, rfl⟩
  case round =>
    obtain ⟨k, hk, rfl, m, rfl⟩ := hrel
    by_cases hlt : k < L
    · have hk2 : k < us.length := by rw [← HL.out]; exact hlt
      rcases H.out with e | ⟨b, off, rfl, _, hc⟩
      · omega
      rcases H'.out with e | ⟨b', off', rfl, _, hc'⟩
      · omega
      have hx := hc k hk2
      have hy := hc' k hk2
      generalize us.getD k 0 = z at hx hy
      clear hc hc' hk2
      go_wp2_with fail
      go_quiet (fail)
      go_wp2_with fail
      go_roundw
      case rel => exact ⟨k + 1, by omega, by go_num, _, rfl⟩
      case measure => simp [intOf]; omega
    · go_wp2_with fail
      go_ret
      exact ⟨rfl, _, rfl⟩
/-! ### The program's calls at any argument, nil sets among them. -/
set_option maxRecDepth 100000 in
set_option maxHeartbeats 2000000 in
theorem ints_own (v : Value) (zs : List Int) (w : World) (h : Holds w v zs) (hL : zs.length ≤ 17592186043950) :
    Calls Tryd.prog 36 #[v] w fun e w' => ∃ v', e = .returned v' ∧ OwnI w' w.heap.size v' zs ∧ Below w.heap.size w w' := by
  have HB := hid (lowAlloc w (.cells #[] 3))
  have H := hid (h.low HB.out)
  have O := hid (own_zero w w.heap.size rfl)
  clear h
  go_enter Tryd.func36, Tryd.ntmps36
  go_wp2_with (at_builtin; refine wpList_append_src rfl _ _ rfl w.heap.size _ [] rfl O.out _ zs rfl H.out ?c1 ?c2 ?_; rotate_left 2; intro v1 w1 o1 g1)
  case c1 => simp; omega
  case c2 => simp
  have B1 := hid (HB.out.grown g1 (by simp) (fun k hk => by have := owns_block O.out k hk; omega))
  have O1 := hid o1
  clear o1 g1 HB H O
  go_wp2_with fail
  go_ret
  exact ⟨_, rfl, O1.out, B1.out⟩
/-- A slice of words, to be read, with its room. -/
structure HoldsW (w : World) (v : Value) (us : List Nat) : Prop where
  ex : (v = .slice none 0 0 ∧ us = []) ∨ ∃ b off cap, v = .slice (some ⟨b, off, none⟩) us.length cap ∧ ∀ j, j < us.length → w.cell? ⟨b, off + j, none⟩ = some (.int .u64 ((us.getD j 0 : Nat) : Int))
theorem HoldsW.low {w w' : World} {v : Value} {us : List Nat} (h : HoldsW w v us) (k : Below w.heap.size w w') : HoldsW w' v us := by
  constructor
  rcases h.ex with h | ⟨b, off, cap, rfl, hc⟩
  · exact Or.inl h
  · exact Or.inr ⟨b, off, cap, rfl, fun j hj => (k.cell (p := ⟨b, off + j, none⟩) (block_lt_of_cell (hc j hj))).trans (hc j hj)⟩
theorem HoldsW.rd {w : World} {v : Value} {zs : List Nat} (h : HoldsW w v zs) : ∃ a cap, v = .slice a zs.length cap ∧ Rw w a zs := by
  rcases h.ex with ⟨rfl, rfl⟩ | ⟨b, off, cap, rfl, hc⟩
  · exact ⟨none, 0, rfl, Or.inl rfl⟩
  · refine ⟨_, cap, rfl, ?_⟩
    by_cases e : zs.length = 0
    · exact Or.inl e
    · exact Or.inr ⟨b, off, rfl, block_lt_of_cell (hc 0 (by omega)), hc⟩
theorem holdsw_src {w : World} {b off : Nat} {ys : List Nat} (hc : ∀ j, j < ys.length → w.cell? ⟨b, off + j, none⟩ = some (.int .u64 ((ys.getD j 0 : Nat) : Int))) : ∀ j u, (vals ys)[j]? = some u → w.cell? ((⟨b, off, none⟩ : Addr).add j) = some u := by
  intro j u hj
  unfold vals at hj
  rw [List.getElem?_map] at hj
  rcases e : ys[j]? with _ | z
  · rw [e] at hj; cases hj
  · rw [e] at hj
    simp at hj
    subst hj
    have hl : j < ys.length := by
      apply Classical.byContradiction; intro c
      rw [List.getElem?_eq_none (by omega)] at e; cases e
    rw [Go.WideShapes.add_plain]
    have := hc j hl
    rw [List.getD_eq_getElem?_getD, e] at this
    exact this
set_option maxRecDepth 100000 in
set_option maxHeartbeats 2000000 in
theorem words_own (v : Value) (us : List Nat) (w : World) (h : HoldsW w v us) (hL : us.length ≤ 17592186043904) :
    Calls Tryd.prog 58 #[v] w fun e w' => ∃ g cap, e = .returned (.slice (some ⟨g, 0, none⟩) us.length cap) ∧ WSlice w' (.slice (some ⟨g, 0, none⟩) us.length cap) g cap us ∧ w.heap.size ≤ g ∧ Below w.heap.size w w' := by
  obtain ⟨i0, hi0, hz0, hz1, hz2⟩ := info59
  have HB := hid (lowAlloc w (.cells #[] 56))
  rcases h.ex with ⟨rfl, rfl⟩ | ⟨b, off, cap, rfl, hc⟩
  · go_enter Tryd.func58, Tryd.ntmps58
    go_wp2_with (at_builtin; refine wpList_append_own_none rfl _ _ 36 rfl w.heap.size 56 i0 1 Tryd.underlying36 hi0 _ 0 [] rfl (World.ownsRow_made w #[] 0 (Nat.le_refl _) (Nat.zero_le _) rfl) rfl ?_)
    go_ret
    exact ⟨_, _, rfl, ⟨rfl, by simp, fun j hj => by cases hj⟩, Nat.le_refl _, HB.out⟩
  · have HSRC := hid (holdsw_src (fun j hj => (HB.out.cell (p := ⟨b, off + j, none⟩) (block_lt_of_cell (hc j hj))).trans (hc j hj)))
    clear h hc
    go_enter Tryd.func58, Tryd.ntmps58
    go_wp2_with (at_builtin; refine wpList_append_own _ rfl _ _ 36 rfl w.heap.size 56 i0 (.int .u64 0) 1 8 Tryd.underlying36 hi0 hz0 hz1 hz2 rfl (by decide) _ 0 [] rfl (World.ownsRow_made w #[] 0 (Nat.le_refl _) (by unfold maxLen; omega) rfl) ⟨b, off, none⟩ us.length cap (vals us) rfl (by rw [length_vals, Nat.mul_one]) HSRC.out (one_vals us) ?c3 ?c4 ?c5 ?_)
    case c3 => unfold maxLen; omega
    case c4 => omega
    case c5 => simp
    intro v' w1 hown hgrow hnil
    have hb1 : Below w.heap.size w w1 := HB.out.grown hgrow (by simp) (fun k hk => by simp [Value.ownBlock] at hk; omega)
    have hne : v' ≠ .slice none 0 0 := hnil
    obtain ⟨g, cp, ow⟩ := own_words hown hne
    have hv' := ow.sl.hv
    subst hv'
    have HO := hid ow
    have HB1 := hid hb1
    clear hown hgrow hnil hb1 hne ow
    go_wp2_with fail
    go_ret
    exact ⟨_, _, rfl, HO.out.sl, HO.out.base, HB1.out⟩
end Go.Proofs.YtkagdmhijjfnnabDoor
