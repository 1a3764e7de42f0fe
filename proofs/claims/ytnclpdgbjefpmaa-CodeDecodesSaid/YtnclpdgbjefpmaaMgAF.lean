import Derived.Deep.RegionWith
import Derived.Test.YtnclpdgbjefpmaaMgAE
namespace Go.Proofs.Ytnclpdgbjefpmaa.L
open Go.RowKit
set_option linter.unusedVariables false
set_option linter.unusedSimpArgs false
/-- The bytes that a program begins with. -/
def hqD (B : List UInt8) : List UInt8 → Nat → DR Unit
  | [], k => .ok ((), k)
  | c :: r, k => if k < B.length then (if (B.getD k 0).toNat = c.toNat then hqD B r (k + 1) else .error (200, k)) else .error (201, k)
theorem headC_P (B : List UInt8) (k : Nat) : headC.P B k = hqD B [0x42, 0x52, 0x54, 1] k := by
  have one : ∀ (c : UInt8) (k : Nat) {α : Type} (f : UInt8 → Nat → DR α), dbnd ((isC c).P B k) f = if k < B.length then (if (B.getD k 0).toNat = c.toNat then f (B.getD k 0) (k + 1) else .error (200, k)) else .error (201, k) := by
    intro c k α f
    show dbnd (if k < B.length then (if (B.getD k 0).toNat < c.toNat ∨ c.toNat < (B.getD k 0).toNat then .error (200, k) else .ok (B.getD k 0, k + 1)) else .error (201, k)) f = _
    split
    · split
      · rw [if_neg (by omega)]; rfl
      · rw [if_pos (by omega)]; rfl
    · rfl
  show dbnd (dbnd ((isC 0x42).P B k) fun a k1 => dbnd (dbnd ((isC 0x52).P B k1) fun a k1 => dbnd (dbnd ((isC 0x54).P B k1) fun a k1 => dbnd ((isC 1).P B k1) fun b k2 => .ok ((a, b), k2)) fun b k2 => .ok ((a, b), k2)) fun b k2 => .ok ((a, b), k2)) (fun _ k => .ok ((), k)) = _
  simp only [one, hqD]
  repeat' split
  all_goals rfl
set_option maxHeartbeats 2000000 in
set_option maxRecDepth 100000 in
theorem rhead_any {g : Nat} {a : Option Addr} {cap : Nat} {B : List UInt8} {W : World} {k room : Nat} (h : Rm g a cap B W k room) :
    Calls Try.prog 72 #[.pointer (some ⟨g, 0, none⟩)] W (Ro (α := Unit) g a cap B (fun _ => room) (fun (_ : Unit) v _ => v = .tuple #[]) (headC.P B k) W) := by
  rw [headC_P]
  have HR := hid h
  obtain ⟨res, hres⟩ : ∃ r, r = hqD B [0x42, 0x52, 0x54, 1] k := ⟨_, rfl⟩
  rw [← hres]
  have HRES := hid hres
  clear h hres
  have HG := hid (fun k w => giveup_any 200 k w)
  go_enter Try.func72, Try.ntmps72
  go_wp2_with fail
  go_loopw [4] (fun i wr => ∃ (j : Nat), j ≤ 4 ∧ i = .int .i64 (j : Int) ∧ Hid (Rm g a cap B wr (k + j) room) ∧ Hid (Gb g W wr) ∧ Hid (hqD B ([0x42, 0x52, 0x54, 1].drop j) (k + j) = res)) (fun i _ => 4 - (intOf i).toNat)
  case atStart => exact ⟨0, by omega, rfl, HR, hid (Gb.refl _ _), hid HRES.out.symm⟩
  case round =>
    obtain ⟨j, hj, rfl, HRJ, HGB, HE⟩ := hrel
    by_cases hlt : j < 4
    · have g1 : (j : Int) < 4 := by omega
      obtain ⟨h0, hh⟩ : ∃ h0 : UInt8, ([0x42, 0x52, 0x54, 1] : List UInt8).drop j = h0 :: ([0x42, 0x52, 0x54, 1] : List UInt8).drop (j + 1) := by
        rcases (by omega : j = 0 ∨ j = 1 ∨ j = 2 ∨ j = 3) with rfl | rfl | rfl | rfl <;> exact ⟨_, rfl⟩
      have he := HE.out
      rw [hh, hqD] at he
      have hix : ∀ q : World, (Instr.index 9 (.string ⟨#[66, 82, 84, 1]⟩) (.int .i64 (j : Int))).run Try.prog q = .ok (.int .u8 (h0.toNat : Int)) q := by
        intro q
        rcases (by omega : j = 0 ∨ j = 1 ∨ j = 2 ∨ j = 3) with rfl | rfl | rfl | rfl <;> (injection hh with h1 _; subst h1; kernel_rfl)
      have HDW := hid (show Below wr.heap.size wr wr.drew from ⟨rfl, rfl, rfl, Nat.le_refl _, fun _ _ => rfl⟩)
      have HT := hid (take_any (HRJ.out.low' HDW.out))
      unfold tkP at HT
      have c1 : wr.cell? ⟨g, 1, none⟩ = some (.int .i64 (((k + j : Nat) : Int))) := cell_of_row _ _ 1 _ _ _ HRJ.out.box
      by_cases hkl : k + j < B.length
      · rw [if_pos hkl] at HT he
        obtain ⟨c, hc⟩ : ∃ c, c = B.getD (k + j) 0 := ⟨_, rfl⟩
        rw [← hc] at HT he
        obtain ⟨m, hm⟩ : ∃ m, m = c.toNat := ⟨_, rfl⟩
        have HIV := hid (show iv c = (m : Int) from by unfold iv; rw [hm])
        rw [← hm] at he
        obtain ⟨m0, hm0⟩ : ∃ m0, m0 = h0.toNat := ⟨_, rfl⟩
        rw [← hm0] at he hix
        by_cases heq : m = m0
        · rw [if_pos heq] at he
          have HE2 := hid he
          have e1 : ((m : Int) == (m0 : Int)) = true := by simp; omega
          subst heq
          clear he hc hm hm0 hh hkl e1
          go_upto_region 4 with fail
          go_region_with (go_at_call 89; refine HT.out.mono ?_; rintro e w1 ⟨v, rfl, rfl, h1, h2⟩; rw [HIV.out])
          all_goals
            have HR1 := hid h1
            have HG1 := hid (HGB.out.trans ((Gb.of HDW.out).trans h2))
            clear h1 h2
            go_wp2_with fail
            exact ⟨⟨j + 1, by omega, by go_num, HR1, HG1, HE2⟩, by simp [intOf]; omega⟩
        · rw [if_neg heq] at he
          have HE3 := hid he.symm
          have e1 : ((m : Int) == (m0 : Int)) = false := by simp; omega
          have e2 : (m : Int) ≠ (m0 : Int) := by omega
          have HGV := hid (fun w => (show Calls Try.prog 84 #[.int .i64 200, .int .i64 ((k : Int) + (j : Int))] w _ from by have := giveup_any 200 (k + j) w; rw [Int.natCast_add] at this; exact this))
          clear he hc hm hm0 hh hkl heq
          go_upto_region 4 with fail
          go_region_with (go_at_call 89; refine HT.out.mono ?_; rintro e w1 ⟨v, rfl, rfl, h1, h2⟩; rw [HIV.out])
          all_goals
            have HG1 := hid (HGB.out.trans ((Gb.of HDW.out).trans h2))
            clear h1 h2
            go_wp2_with fail
            refine (HGV.out w1).mono ?_
            rintro e w2 ⟨NN, rfl, h3, h4⟩
            have HF := hid h3
            have HGG := hid (HG1.out.trans (Gb.of h4))
            clear h3 h4
            go_wp2_with fail
            refine ⟨rfl, ?_⟩
            rw [HE3.out]
            exact ⟨NN, rfl, HF.out, HGG.out⟩
      · rw [if_neg hkl] at HT he
        have HE3 := hid he.symm
        clear he hh hkl
        go_upto_region 4 with fail
        refine wp_region_held_drew (S := (fun _ => True)) (by kernel_rfl) trivial (fun hHeld => ?_)
        refine wpAnyH_take (i := 0) (v := ?_) rfl (by kernel_rfl) (by kernel_rfl) (by kernel_rfl) (fun _ _ _ h => h) (Or.inl ⟨by rfl, ?_⟩) (by assumption) ?_
        rotate_left
        · (intro w hSw; (try dsimp only at hSw); go_simp; try with_reducible rfl)
        try simp only [Act.put, List.setIfInBounds_toArray, List.set_cons_zero, List.set_cons_succ]
        refine wpAnyH_take (i := 2) (v := ?_) rfl (by kernel_rfl) (by kernel_rfl) (by kernel_rfl) (fun _ _ _ h => h) (Or.inl ⟨by rfl, ?_⟩) (by assumption) ?_
        rotate_left
        · (intro w hSw; (try dsimp only at hSw); go_simp; try with_reducible rfl)
        try simp only [Act.put, List.setIfInBounds_toArray, List.set_cons_zero, List.set_cons_succ]
        refine wpAnyH_take (i := 3) (v := ?_) rfl (by kernel_rfl) (by kernel_rfl) (by kernel_rfl) (fun _ _ _ h => h) (Or.inl ⟨by rfl, ?_⟩) (by assumption) ?_
        rotate_left
        · (intro w hSw; (try dsimp only at hSw); go_simp; try with_reducible rfl)
        try simp only [Act.put, List.setIfInBounds_toArray, List.set_cons_zero, List.set_cons_succ]
        refine wpAnyH_ready (rs := [1]) (by kernel_rfl) (by simp) ?_
        refine AllReadyH.cons rfl (fun K hK => ?_) AllReadyH.nil
        go_simp
        refine HT.out.mono ?_
        rintro e w1 ⟨NN, rfl, h3, h4⟩
        refine ⟨rfl, ?_⟩
        rw [HE3.out]
        exact ⟨NN, rfl, h3, HGB.out.trans ((Gb.of HDW.out).trans h4)⟩
    · obtain rfl : j = 4 := by omega
      have HE3 := hid (show res = .ok ((), k + 4) from HE.out.symm)
      go_wp2_with fail
      go_end0
      rw [HE3.out]
      exact ⟨_, rfl, rfl, HRJ.out, HGB.out⟩
end Go.Proofs.Ytnclpdgbjefpmaa.L
namespace Go.Proofs.Ytnclpdgbjefpmaa.L
open Go.RowKit
set_option linter.unusedVariables false
set_option linter.unusedSimpArgs false
theorem risP_succ {α : Type} [Inhabited α] (C : Cod α) (lt : α → α → Bool) (n : Nat) (p : Option α) (B : List UInt8) (k : Nat) :
    (C.ris lt (n + 1) p).P B k = dbnd (C.P B k) fun x k1 => if okB lt p x = true then dbnd ((C.ris lt n (some x)).P B k1) (fun r k2 => .ok (x :: r, k2)) else .error (204, k) := by
  show dbnd (dbnd (dbnd (C.P B k) fun x k1 => if okB lt p x = true then .ok (x, k1) else .error (204, k)) fun x k1 => dbnd ((C.ris lt n (some x)).P B k1) fun r k2 => .ok ((x, r), k2)) (fun x k2 => .ok (x.1 :: x.2, k2)) = _
  cases C.P B k with
  | error e => rfl
  | ok y =>
    obtain ⟨x, k1⟩ := y
    show dbnd (dbnd (if okB lt p x = true then (.ok (x, k1) : DR α) else .error (204, k)) fun x k1 => dbnd ((C.ris lt n (some x)).P B k1) fun r k2 => .ok ((x, r), k2)) (fun x k2 => .ok (x.1 :: x.2, k2)) = if okB lt p x = true then dbnd ((C.ris lt n (some x)).P B k1) (fun r k2 => .ok (x :: r, k2)) else .error (204, k)
    split
    · show dbnd (dbnd ((C.ris lt n (some x)).P B k1) fun r k2 => .ok ((x, r), k2)) (fun x k2 => .ok (x.1 :: x.2, k2)) = _
      cases (C.ris lt n (some x)).P B k1 with
      | error e => rfl
      | ok y => rfl
    · rfl
theorem row_gb {g base n size : Nat} {e : TypeId} {v : Value} {xs : List Value} {W W' : World} (h : W.ownsRow base e size v n xs) (k : Gb g W W') (hb : g < base) : W'.ownsRow base e size v n xs :=
  World.ownsRow.kept h k (Or.inr (fun he => by have := (h.lt g he).1; omega))
theorem gb_row {g n size : Nat} {e : TypeId} {v : Value} {xs : List Value} {W W1 W2 : World} (h : W1.ownsRow W.heap.size e size v n xs) (k : Gb g W W1) (hg : W1.grownBy W2 v.ownBlock) : Gb g W W2 :=
  ⟨hg.os.trans k.os, hg.tape.trans k.tape, hg.output.trans k.output, Nat.le_trans k.size hg.size, fun j hj hn => (hg.block j (Nat.lt_of_lt_of_le hj k.size) (fun he => by have := (h.lt j he.symm).1; omega)).trans (k.block j hj hn)⟩
theorem rm_row {g : Nat} {a : Option Addr} {cap : Nat} {B : List UInt8} {W W1 W2 : World} {k room n size : Nat} {e : TypeId} {v : Value} {xs : List Value} (h : Rm g a cap B W1 k room) (hr : W1.ownsRow W.heap.size e size v n xs) (hlt : g < W.heap.size) (hg : W1.grownBy W2 v.ownBlock) : Rm g a cap B W2 k room := by
  have hk : ∀ j, j ≤ g → W2.heap[j]? = W1.heap[j]? := fun j hj => hg.block j (by have := lt_blk h.box; omega) (fun he => by have := (hr.lt j he.symm).1; omega)
  refine ⟨(hk g (Nat.le_refl _)).trans h.box, ?_, h.low, h.le, h.len, h.rm, h.cpl, h.cpm⟩
  rcases h.row with h0 | ⟨b, off, rfl, h1⟩
  · exact Or.inl h0
  · refine Or.inr ⟨b, off, rfl, fun j hj => ?_⟩
    have h3 := h.low b off none rfl
    exact (World.cell?_of_block (a := ⟨b, off + j, none⟩) (hk b (by omega))).trans (h1 j hj)
theorem info_s : (Try.prog.info? 9).map (fun i => (i.zero, i.size, i.bytes)) = some (some (.string ⟨#[]⟩), 1, 16) := by kernel_rfl
theorem wpl_s {w : World} {ops : Array Oper} {rest : List Oper} {o : Oper} {a : Act} {Q : Exit → Act → World → Prop} (hgd : o.guard = none) (s x : Operand)
    (ho : o.op = .call { callee := .builtin .append, args := #[s, x], argTypes := #[24, 24] })
    (base : Nat) (v : Value) (n : Nat) (xs : List Value) (d : Value) (hs : a.eval s = v) (hown : w.ownsRow base 9 1 v n xs) (hx : a.eval x = .slice (some ⟨w.heap.size, 0, none⟩) 1 1) (hm : n ≤ 1000000) (hbase : base ≤ w.heap.size) (hd : d.oneCell' = true)
    (h : ∀ v' w', w'.ownsRow base 9 1 v' (n + 1) (xs ++ [d]) → w.grownBy w' v.ownBlock → wpList Try.prog ops Q rest (a.put o.dst v') w') :
    wpList Try.prog ops Q (o :: rest) a (w.alloc (.cells #[d] 9)) := by
  obtain ⟨i0, hi, hz0, hz1, hz2⟩ := info_parts info_s
  have hown' := World.ownsRow.alloc hown (.cells #[d] 9)
  refine wpList_append_own _ hgd s x 24 ho base 9 i0 (.string ⟨#[]⟩) 1 16 Try.underlying24 hi hz0 hz1 hz2 rfl (by decide) v n _ hs hown' ⟨w.heap.size, 0, none⟩ 1 1 [d] hx rfl (cell_one_new w _ _) (fun u hu => by simp at hu; subst hu; exact hd) (by unfold maxLen; omega) (by omega) (by simp; omega) ?_
  intro v' w' ho' hg _
  exact h v' w' ho' (grow_alloc hg)
theorem info_i : (Try.prog.info? 3).map (fun i => (i.zero, i.size, i.bytes)) = some (some (.int .i64 0), 1, 8) := by kernel_rfl
theorem wpl_i {w : World} {ops : Array Oper} {rest : List Oper} {o : Oper} {a : Act} {Q : Exit → Act → World → Prop} (hgd : o.guard = none) (s x : Operand)
    (ho : o.op = .call { callee := .builtin .append, args := #[s, x], argTypes := #[25, 25] })
    (base : Nat) (v : Value) (n : Nat) (xs : List Value) (d : Value) (hs : a.eval s = v) (hown : w.ownsRow base 3 1 v n xs) (hx : a.eval x = .slice (some ⟨w.heap.size, 0, none⟩) 1 1) (hm : n ≤ 1000000) (hbase : base ≤ w.heap.size) (hd : d.oneCell' = true)
    (h : ∀ v' w', w'.ownsRow base 3 1 v' (n + 1) (xs ++ [d]) → w.grownBy w' v.ownBlock → wpList Try.prog ops Q rest (a.put o.dst v') w') :
    wpList Try.prog ops Q (o :: rest) a (w.alloc (.cells #[d] 3)) := by
  obtain ⟨i0, hi, hz0, hz1, hz2⟩ := info_parts info_i
  have hown' := World.ownsRow.alloc hown (.cells #[d] 3)
  refine wpList_append_own _ hgd s x 25 ho base 3 i0 (.int .i64 0) 1 8 Try.underlying25 hi hz0 hz1 hz2 rfl (by decide) v n _ hs hown' ⟨w.heap.size, 0, none⟩ 1 1 [d] hx rfl (cell_one_new w _ _) (fun u hu => by simp at hu; subst hu; exact hd) (by unfold maxLen; omega) (by omega) (by simp; omega) ?_
  intro v' w' ho' hg _
  exact h v' w' ho' (grow_alloc hg)
theorem info_ss : (Try.prog.info? 24).map (fun i => (i.zero, i.size, i.bytes)) = some (some (.slice none 0 0), 1, 24) := by kernel_rfl
theorem wpl_ss {w : World} {ops : Array Oper} {rest : List Oper} {o : Oper} {a : Act} {Q : Exit → Act → World → Prop} (hgd : o.guard = none) (s x : Operand)
    (ho : o.op = .call { callee := .builtin .append, args := #[s, x], argTypes := #[26, 26] })
    (base : Nat) (v : Value) (n : Nat) (xs : List Value) (d : Value) (hs : a.eval s = v) (hown : w.ownsRow base 24 1 v n xs) (hx : a.eval x = .slice (some ⟨w.heap.size, 0, none⟩) 1 1) (hm : n ≤ 1000000) (hbase : base ≤ w.heap.size) (hd : d.oneCell' = true)
    (h : ∀ v' w', w'.ownsRow base 24 1 v' (n + 1) (xs ++ [d]) → w.grownBy w' v.ownBlock → wpList Try.prog ops Q rest (a.put o.dst v') w') :
    wpList Try.prog ops Q (o :: rest) a (w.alloc (.cells #[d] 24)) := by
  obtain ⟨i0, hi, hz0, hz1, hz2⟩ := info_parts info_ss
  have hown' := World.ownsRow.alloc hown (.cells #[d] 24)
  refine wpList_append_own _ hgd s x 26 ho base 24 i0 (.slice none 0 0) 1 24 Try.underlying26 hi hz0 hz1 hz2 rfl (by decide) v n _ hs hown' ⟨w.heap.size, 0, none⟩ 1 1 [d] hx rfl (cell_one_new w _ _) (fun u hu => by simp at hu; subst hu; exact hd) (by unfold maxLen; omega) (by omega) (by simp; omega) ?_
  intro v' w' ho' hg _
  exact h v' w' ho' (grow_alloc hg)
theorem info_is : (Try.prog.info? 25).map (fun i => (i.zero, i.size, i.bytes)) = some (some (.slice none 0 0), 1, 24) := by kernel_rfl
theorem wpl_is {w : World} {ops : Array Oper} {rest : List Oper} {o : Oper} {a : Act} {Q : Exit → Act → World → Prop} (hgd : o.guard = none) (s x : Operand)
    (ho : o.op = .call { callee := .builtin .append, args := #[s, x], argTypes := #[27, 27] })
    (base : Nat) (v : Value) (n : Nat) (xs : List Value) (d : Value) (hs : a.eval s = v) (hown : w.ownsRow base 25 1 v n xs) (hx : a.eval x = .slice (some ⟨w.heap.size, 0, none⟩) 1 1) (hm : n ≤ 1000000) (hbase : base ≤ w.heap.size) (hd : d.oneCell' = true)
    (h : ∀ v' w', w'.ownsRow base 25 1 v' (n + 1) (xs ++ [d]) → w.grownBy w' v.ownBlock → wpList Try.prog ops Q rest (a.put o.dst v') w') :
    wpList Try.prog ops Q (o :: rest) a (w.alloc (.cells #[d] 25)) := by
  obtain ⟨i0, hi, hz0, hz1, hz2⟩ := info_parts info_is
  have hown' := World.ownsRow.alloc hown (.cells #[d] 25)
  refine wpList_append_own _ hgd s x 27 ho base 25 i0 (.slice none 0 0) 1 24 Try.underlying27 hi hz0 hz1 hz2 rfl (by decide) v n _ hs hown' ⟨w.heap.size, 0, none⟩ 1 1 [d] hx rfl (cell_one_new w _ _) (fun u hu => by simp at hu; subst hu; exact hd) (by unfold maxLen; omega) (by omega) (by simp; omega) ?_
  intro v' w' ho' hg _
  exact h v' w' ho' (grow_alloc hg)
end Go.Proofs.Ytnclpdgbjefpmaa.L
