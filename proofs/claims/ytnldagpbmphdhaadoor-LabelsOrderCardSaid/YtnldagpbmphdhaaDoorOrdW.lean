import Derived.Test.YtnldagpbmphdhaaDoorRt
import Derived.Test.YtnldagpbmphdhaaDoorJnd
import Derived.Test.YtnldagpbmphdhaaDoorWak
import Derived.Test.YtnldagpbmphdhaaDoorSam
namespace Go.Proofs.YtnldagpbmphdhaaDoor.L
open Go.RowKit
set_option linter.unusedVariables false
theorem sorted_good {l l' : List Lb} (hg : Good l) (hs : Sorted l l') : Good l' := hg.sub (Nat.le_of_eq hs.1.length_eq) fun x hx => hs.1.mem_iff.1 hx
theorem make_of {l : List Lb} (hl : l.length ≤ 32) (hd : Dist l) (hx : ∀ x ∈ l, labE x.1 x.2 = 0) : makeN l = (ByteArray.empty, 0) := by
  have each : ∀ j, j < l.length → mkF l j = 0 := by
    intro j hj
    unfold mkF
    rw [if_pos (hx _ (kv_mem l j hj)), get_none, if_neg (by decide)]
    intro x hxm
    obtain ⟨i, hi, e⟩ := List.mem_take_iff_getElem.1 hxm
    have := List.pairwise_iff_getElem.1 hd i j (by omega) hj (by omega)
    rw [kv_get l j hj] at this
    rw [← e]
    exact this
  have key : ∀ n k, k + n = l.length → mkS l n k = (ByteArray.empty, 0) := by
    intro n
    induction n with
    | zero => intro k _; rfl
    | succ n ih =>
      intro k hk
      unfold mkS
      rw [if_pos (each k (by omega))]
      exact ih (k + 1) (by omega)
  unfold makeN
  rw [if_neg (by omega)]
  exact key _ _ (by omega)
theorem make_rev {l : List Lb} (ho : OkL l) : makeN l.reverse = (ByteArray.empty, 0) := by
  refine make_of (by rw [List.length_reverse]; exact ho.len) ?_ fun x hx => ho.lab x (List.mem_reverse.1 hx)
  unfold Dist
  rw [List.pairwise_reverse]
  exact (up_dist' ho.up).imp fun h => h.symm
theorem rev_sorted {l m : List Lb} (ho : OkL l) (h : Sorted l.reverse m) : m = l := by
  refine up_unique (sorted_ok h ?_) ho.up fun x => by rw [h.1.mem_iff, List.mem_reverse]
  unfold Dist
  rw [List.pairwise_reverse]
  exact (up_dist' ho.up).imp fun h => h.symm
theorem back_sorted {l m : List Lb} (ho : OkL l) (h : Sorted l m) : m = l := up_unique (sorted_ok h (up_dist' ho.up)) ho.up fun x => h.1.mem_iff
theorem rev_take (l : List Lb) (k : Nat) (h : k < l.length) : l.reverse.take (k + 1) = l.reverse.take k ++ [(ky l (l.length - 1 - k), vl l (l.length - 1 - k))] := by
  rw [List.take_succ_eq_append_getElem (by simpa using h)]
  congr 1
  rw [List.getElem_reverse, kv_get l (l.length - 1 - k) (by omega)]
set_option maxHeartbeats 16000000 in
set_option maxRecDepth 100000 in
theorem order_walk (v : Value) (lst : List Lb) (w : World) (hc : Came w v lst) (hg : Good lst) :
    Calls Tryd.prog 4 #[v] w fun e w' => e = .returned (.bool true) ∧ Below w.heap.size w w' := by
  obtain ⟨i0, hi0, hz0, hz1, hz2⟩ := info_parts infoL
  have CP := hid (fun W v l (hc : Came W v l) (hg : Good l) => copied_any v l W hc hg)
  have WK := hid (fun W => wakes_any W)
  have MK := hid (fun W v l (hc : Came W v l) (hg : Good l) => make_any v l W hc hg)
  have CH := hid (fun W v l (hc : Came W v l) (hg : Good l) => check_any v l W hc.items hg)
  have GT := hid (fun W v l s (hc : Came W v l) (hg : Good l) (hs : ByteArray.size s ≤ maxLen) => get_any v l s W hc.items hg.1.1 hs)
  have PA := hid (fun W t (hs : ByteArray.size t ≤ maxLen) => parse_any t W hs)
  have TX := hid (fun W v l (hc : Came W v l) (hg : Good l) (ho : OkL l) => text_ok v l W hc.items hg ho)
  have JN := hid (fun W v l (hc : Came W v l) (ho : OkL l) => joined_any v l W hc.items ho)
  have SM := hid (fun W v1 v2 l (h1 : Came W v1 l) (h2 : Came W v2 l) (hl : l.length ≤ 64) => same_any v1 v2 l W h1.items h2.items hl)
  have C0 := hid hc
  have G0 := hid hg
  have hgl := hg.1.1
  unfold maxLen at hgl
  clear hg
  obtain ⟨av, cv, rfl⟩ := came_slice hc
  clear hc
  go_enter Tryd.func4, Tryd.ntmps4
  go_wp2_with fail
  refine (WK.out _).mono ?_
  rintro e w1 ⟨rfl, hb⟩
  have B1 := hid hb
  replace C0 := hid (C0.out.low hb)
  clear hb
  go_wp2_with fail
  refine (CP.out _ _ lst C0.out G0.out).mono ?_
  rintro e w2 ⟨x2, rfl, hx, hb⟩
  have B2 := hid (B1.out.trans (hb.mono B1.out.size))
  replace C0 := hid (C0.out.low hb)
  have X2 := hid hx
  clear hx hb B1
  go_wp2_with fail
  refine (MK.out _ _ lst X2.out G0.out).mono ?_
  rintro e w3 ⟨vm, l, rfl, hb, hm⟩
  have B3 := hid (B2.out.trans (hb.mono B2.out.size))
  replace C0 := hid (C0.out.low hb)
  have HM := hid hm
  clear hm hb X2 B2
  by_cases hme : (makeN lst).2 = 0
  · have hmk := (make_ok hme).1
    rw [hmk] at HM ⊢
    have HM2 : Came w3 vm l ∧ Sorted lst l := by
      rcases HM.out with ⟨h, _⟩ | ⟨_, h⟩
      · exact absurd rfl h
      · exact h
    have CL := hid HM2.1
    have GL := hid (sorted_good G0.out HM2.2)
    have OL := hid (made_ok hme HM2.2)
    have PL := hid HM2.2.1
    have hl32 := OL.out.len
    have hlen : lst.length = l.length := HM2.2.1.length_eq.symm
    obtain ⟨al, cl, rfl⟩ := came_slice CL.out
    have HCH := hid (fun W v (hc : Came W v l) => CH.out W v l hc GL.out)
    rw [check_ok OL.out] at HCH
    rw [hlen] at C0 ⊢
    have HLN := hid hlen
    clear HM HM2 hme hmk hlen hgl CH
    go_wp2_with fail
    refine (CP.out _ _ l CL.out GL.out).mono ?_
    rintro e w4 ⟨x4, rfl, hx, hb⟩
    have B4 := hid (B3.out.trans (hb.mono B3.out.size))
    replace C0 := hid (C0.out.low hb)
    replace CL := hid (CL.out.low hb)
    have X4 := hid hx
    clear hx hb B3
    go_wp2_with fail
    refine (HCH.out _ _ X4.out).mono ?_
    rintro e w5 ⟨rfl, hb⟩
    have B5 := hid (B4.out.trans (hb.mono B4.out.size))
    replace C0 := hid (C0.out.low hb)
    replace CL := hid (CL.out.low hb)
    clear hb X4 B4 HCH
    go_wp2_with fail
    have C0' := C0.out
    have CL' := CL.out
    have hw5 : w.heap.size ≤ w5.heap.size := B5.out.size
    go_loopw [8, 9] (fun tv i wr => ∃ k : Nat, k ≤ l.length ∧ i = .int .i64 k ∧ Hid (Below w5.heap.size w5 wr) ∧ Hid (Own wr w5.heap.size tv (l.reverse.take k))) (fun _ i _ => l.length - (intOf i).toNat)
    case atStart => exact ⟨0, Nat.zero_le _, rfl, hid (Below.refl _ _), hid (World.ownsRow_nil _ _ _ _)⟩
    case round =>
      obtain ⟨k, hk, rfl, HB, OW⟩ := hrel
      by_cases hlt : k < l.length
      · rcases C0' with ⟨_, h0⟩ | ⟨a0, c0, e0, _, h0 | ⟨b0, o0, rfl, hb0, hc0⟩⟩
        · rw [h0] at HLN
          have := HLN.out
          simp at this
          omega
        · have := HLN.out
          omega
        rcases CL' with ⟨_, h0⟩ | ⟨a1, c1, e1, _, h0 | ⟨b1, o1, rfl, hb1, hcl⟩⟩
        · rw [h0] at hlt
          simp at hlt
        · omega
        simp only [Value.slice.injEq] at e0 e1
        obtain ⟨rfl, junk0, rfl⟩ := e0
        obtain ⟨rfl, junk1, rfl⟩ := e1
        clear junk0 junk1
        have hkl : k < l.length := hlt
        have hlab := lab_ok (OL.out.lab _ (kv_mem l k hkl))
        have hgk := GL.out.2 _ (kv_mem l k hkl)
        have hg0 := G0.out.2 _ (kv_mem lst k (by rw [HLN.out]; exact hkl))
        have KK := hid (fun W => key_any (ky l k) W hgk.1)
        have VV := hid (fun W => value_any (vl l k) W hgk.2)
        rw [show keyB (ky l k) = true from hlab.1] at KK
        rw [show valB (vl l k) = true from hlab.2] at VV
        have GG := hid (fun W v (hc : Came W v l) => GT.out W v l (ky lst k) hc GL.out hg0.1)
        rw [show getN l (ky lst k) = (vl lst k, true) from get_up OL.out.up (x := (ky lst k, vl lst k)) (PL.out.mem_iff.2 (kv_mem lst k (by rw [HLN.out]; exact hkl)))] at GG
        obtain ⟨p0, p1⟩ := hcl k hlt
        obtain ⟨r0, r1⟩ := hcl (l.length - 1 - k) (by omega)
        obtain ⟨q0, q1⟩ := hc0 k (by rw [HLN.out]; exact hlt)
        have HP0 := hid p0
        have HP1 := hid p1
        have HR0 := hid r0
        have HR1 := hid r1
        have HQ0 := hid q0
        have HQ1 := hid q1
        have g1 : (k : Int) < (l.length : Int) := by omega
        have g2 : (0 : Int) ≤ (k : Int) := by omega
        have g3 : (l.length : Int) - 1 - (k : Int) < (l.length : Int) := by omega
        have g4 : (0 : Int) ≤ (l.length : Int) - 1 - (k : Int) := by omega
        have g5 : ((l.length : Int) - 1 - (k : Int)).toNat = l.length - 1 - k := by omega
        have hrt := rev_take l k hkl
        have hrl : (l.reverse.take k).length = k := by rw [List.length_take, List.length_reverse]; omega
        clear p0 p1 q0 q1 r0 r1 hlab hgk hg0
        by_cases hk0 : k = 0
        · subst hk0
          have e1 : (0 : Nat) * 2 = 0 := rfl
          have e2 : l.length - 1 - 0 = l.length - 1 := rfl
          rw [e1, Nat.add_zero] at HP0 HP1 HQ0 HQ1
          rw [e2] at HR0 HR1 hrt
          have h1 : ((l.length : Int) - 1).toNat = l.length - 1 := by omega
          have h2 : (0 : Int) ≤ (l.length : Int) - 1 := by omega
          have h3 : (l.length : Int) - 1 < (l.length : Int) := by omega
          have h4 : 0 < l.length := by omega
          have h5 : (0 : Int) < (l.length : Int) := by omega
          have T0 : wr.drew.cell? ⟨b1, o1, none⟩ = some (.string (ky l 0)) ∧ wr.drew.cell? ⟨b1, o1 + 1, none⟩ = some (.string (vl l 0)) := ⟨(HB.out.cell (p := ⟨b1, o1, none⟩) hb1).trans HP0.out, (HB.out.cell (p := ⟨b1, o1 + 1, none⟩) hb1).trans HP1.out⟩
          have hbr : b1 < wr.heap.size := Nat.lt_of_lt_of_le hb1 HB.out.size
          clear hcl hc0 e1 e2 g1 g2 g3 g4 g5
          go_wp2_with fail
          refine wp_region_held_drew (S := (fun W => W.cell? ⟨b1, o1, none⟩ = some (.string (ky l 0)) ∧ W.cell? ⟨b1, o1 + 1, none⟩ = some (.string (vl l 0)))) (by kernel_rfl) T0 (fun hHeld => ?_)
          refine wpAnyH_take (i := 0) (oi := { dst := some 77, op := Op.move (Operand.tmp 9), type := 3, pos := "outright.go:79", after := #[], guard := none }) (v := ?_) rfl (by kernel_rfl) (by kernel_rfl) (by kernel_rfl) (fun _ _ _ h => h) (Or.inl ⟨by rfl, ?_⟩) (by assumption) ?_
          rotate_left
          · (intro w hSw; (try dsimp only at hSw); go_simp; try with_reducible rfl)
          try simp only [Act.put, List.setIfInBounds_toArray, List.set_cons_zero, List.set_cons_succ]
          refine wpAnyH_take (i := 1) (oi := { dst := some 78, op := Op.binOp BinOp.gtr 3 (Operand.tmp 77) (Operand.const (Value.int IntKind.i64 0)) 3, type := 4, pos := "outright.go:79", after := #[{ on := 0, ground := Ground.data }], guard := none }) (v := ?_) rfl (by kernel_rfl) (by kernel_rfl) (by kernel_rfl) (fun _ _ _ h => h) (Or.inl ⟨by rfl, ?_⟩) (by assumption) ?_
          rotate_left
          · (intro w hSw; (try dsimp only at hSw); go_simp; try with_reducible rfl)
          try simp only [Act.put, List.setIfInBounds_toArray, List.set_cons_zero, List.set_cons_succ]
          refine wpAnyH_take (i := 2) (oi := { dst := some 79, op := Op.move (Operand.tmp 78), type := 4, pos := "outright.go:79", after := #[{ on := 1, ground := Ground.data }], guard := none }) (v := ?_) rfl (by kernel_rfl) (by kernel_rfl) (by kernel_rfl) (fun _ _ _ h => h) (Or.inl ⟨by rfl, ?_⟩) (by assumption) ?_
          rotate_left
          · (intro w hSw; (try dsimp only at hSw); go_simp; try with_reducible rfl)
          try simp only [Act.put, List.setIfInBounds_toArray, List.set_cons_zero, List.set_cons_succ]
          refine wpAnyH_take (i := 3) (oi := { dst := some 80, op := Op.move (Operand.tmp 3), type := 28, pos := "outright.go:79", after := #[{ on := 2, ground := Ground.guard }], guard := some (2, true) }) (v := undef) rfl (by kernel_rfl) (by kernel_rfl) (by kernel_rfl) (fun _ _ _ h => h) (Or.inr ⟨by rfl, rfl⟩) (by assumption) ?_
          try simp only [Act.put, List.setIfInBounds_toArray, List.set_cons_zero, List.set_cons_succ]
          refine wpAnyH_take (i := 4) (oi := { dst := some 81, op := Op.move (Operand.tmp 9), type := 3, pos := "outright.go:79", after := #[{ on := 2, ground := Ground.guard }], guard := some (2, true) }) (v := undef) rfl (by kernel_rfl) (by kernel_rfl) (by kernel_rfl) (fun _ _ _ h => h) (Or.inr ⟨by rfl, rfl⟩) (by assumption) ?_
          try simp only [Act.put, List.setIfInBounds_toArray, List.set_cons_zero, List.set_cons_succ]
          refine wpAnyH_take (i := 5) (oi := { dst := some 82, op := Op.indexAddr 28 (Operand.tmp 80) (Operand.tmp 81), type := 0, pos := "outright.go:79", after := #[{ on := 3, ground := Ground.data }, { on := 4, ground := Ground.data }, { on := 2, ground := Ground.guard }], guard := some (2, true) }) (v := undef) rfl (by kernel_rfl) (by kernel_rfl) (by kernel_rfl) (fun _ _ _ h => h) (Or.inr ⟨by rfl, rfl⟩) (by assumption) ?_
          try simp only [Act.put, List.setIfInBounds_toArray, List.set_cons_zero, List.set_cons_succ]
          refine wpAnyH_take (i := 6) (oi := { dst := some 83, op := Op.fieldAddr 37 (Operand.tmp 82) 0, type := 0, pos := "outright.go:79", after := #[{ on := 5, ground := Ground.data }, { on := 2, ground := Ground.guard }], guard := some (2, true) }) (v := undef) rfl (by kernel_rfl) (by kernel_rfl) (by kernel_rfl) (fun _ _ _ h => h) (Or.inr ⟨by rfl, rfl⟩) (by assumption) ?_
          try simp only [Act.put, List.setIfInBounds_toArray, List.set_cons_zero, List.set_cons_succ]
          refine wpAnyH_take (i := 7) (oi := { dst := some 84, op := Op.load 9 (Operand.tmp 83), type := 9, pos := "outright.go:79", after := #[{ on := 6, ground := Ground.data }, { on := 2, ground := Ground.guard }], guard := some (2, true) }) (v := undef) rfl (by kernel_rfl) (by kernel_rfl) (by kernel_rfl) (fun _ _ _ h => h) (Or.inr ⟨by rfl, rfl⟩) (by assumption) ?_
          try simp only [Act.put, List.setIfInBounds_toArray, List.set_cons_zero, List.set_cons_succ]
          refine wpAnyH_take (i := 8) (oi := { dst := some 85, op := Op.move (Operand.tmp 3), type := 28, pos := "outright.go:79", after := #[{ on := 2, ground := Ground.guard }], guard := some (2, true) }) (v := undef) rfl (by kernel_rfl) (by kernel_rfl) (by kernel_rfl) (fun _ _ _ h => h) (Or.inr ⟨by rfl, rfl⟩) (by assumption) ?_
          try simp only [Act.put, List.setIfInBounds_toArray, List.set_cons_zero, List.set_cons_succ]
          refine wpAnyH_take (i := 9) (oi := { dst := some 86, op := Op.move (Operand.tmp 9), type := 3, pos := "outright.go:79", after := #[{ on := 2, ground := Ground.guard }], guard := some (2, true) }) (v := undef) rfl (by kernel_rfl) (by kernel_rfl) (by kernel_rfl) (fun _ _ _ h => h) (Or.inr ⟨by rfl, rfl⟩) (by assumption) ?_
          try simp only [Act.put, List.setIfInBounds_toArray, List.set_cons_zero, List.set_cons_succ]
          refine wpAnyH_take (i := 10) (oi := { dst := some 87, op := Op.binOp BinOp.sub 3 (Operand.tmp 86) (Operand.const (Value.int IntKind.i64 1)) 3, type := 3, pos := "outright.go:79", after := #[{ on := 9, ground := Ground.data }, { on := 2, ground := Ground.guard }], guard := some (2, true) }) (v := undef) rfl (by kernel_rfl) (by kernel_rfl) (by kernel_rfl) (fun _ _ _ h => h) (Or.inr ⟨by rfl, rfl⟩) (by assumption) ?_
          try simp only [Act.put, List.setIfInBounds_toArray, List.set_cons_zero, List.set_cons_succ]
          refine wpAnyH_take (i := 11) (oi := { dst := some 88, op := Op.indexAddr 28 (Operand.tmp 85) (Operand.tmp 87), type := 0, pos := "outright.go:79", after := #[{ on := 8, ground := Ground.data }, { on := 10, ground := Ground.data }, { on := 2, ground := Ground.guard }], guard := some (2, true) }) (v := undef) rfl (by kernel_rfl) (by kernel_rfl) (by kernel_rfl) (fun _ _ _ h => h) (Or.inr ⟨by rfl, rfl⟩) (by assumption) ?_
          try simp only [Act.put, List.setIfInBounds_toArray, List.set_cons_zero, List.set_cons_succ]
          refine wpAnyH_take (i := 12) (oi := { dst := some 89, op := Op.fieldAddr 37 (Operand.tmp 88) 0, type := 0, pos := "outright.go:79", after := #[{ on := 11, ground := Ground.data }, { on := 2, ground := Ground.guard }], guard := some (2, true) }) (v := undef) rfl (by kernel_rfl) (by kernel_rfl) (by kernel_rfl) (fun _ _ _ h => h) (Or.inr ⟨by rfl, rfl⟩) (by assumption) ?_
          try simp only [Act.put, List.setIfInBounds_toArray, List.set_cons_zero, List.set_cons_succ]
          refine wpAnyH_take (i := 13) (oi := { dst := some 90, op := Op.load 9 (Operand.tmp 89), type := 9, pos := "outright.go:79", after := #[{ on := 12, ground := Ground.data }, { on := 2, ground := Ground.guard }], guard := some (2, true) }) (v := undef) rfl (by kernel_rfl) (by kernel_rfl) (by kernel_rfl) (fun _ _ _ h => h) (Or.inr ⟨by rfl, rfl⟩) (by assumption) ?_
          try simp only [Act.put, List.setIfInBounds_toArray, List.set_cons_zero, List.set_cons_succ]
          refine wpAnyH_take (i := 14) (oi := { dst := some 91, op := Op.binOp BinOp.leq 9 (Operand.tmp 84) (Operand.tmp 90) 9, type := 4, pos := "outright.go:79", after := #[{ on := 7, ground := Ground.data }, { on := 13, ground := Ground.data }, { on := 2, ground := Ground.guard }], guard := some (2, true) }) (v := undef) rfl (by kernel_rfl) (by kernel_rfl) (by kernel_rfl) (fun _ _ _ h => h) (Or.inr ⟨by rfl, rfl⟩) (by assumption) ?_
          try simp only [Act.put, List.setIfInBounds_toArray, List.set_cons_zero, List.set_cons_succ]
          refine wpAnyH_take (i := 15) (oi := { dst := some 92, op := Op.pick (Operand.tmp 79) (Operand.tmp 91) (Operand.const (Value.bool false)), type := 4, pos := "outright.go:79", after := #[{ on := 2, ground := Ground.data }, { on := 14, ground := Ground.data }], guard := none }) (v := ?_) rfl (by kernel_rfl) (by kernel_rfl) (by kernel_rfl) (fun _ _ _ h => h) (Or.inl ⟨by rfl, ?_⟩) (by assumption) ?_
          rotate_left
          · (intro w hSw; (try dsimp only at hSw); go_simp; try with_reducible rfl)
          try simp only [Act.put, List.setIfInBounds_toArray, List.set_cons_zero, List.set_cons_succ]
          refine wpAnyH_take (i := 16) (oi := { dst := some 93, op := Op.move (Operand.tmp 92), type := 4, pos := "outright.go:79", after := #[{ on := 15, ground := Ground.data }, { on := 2, ground := Ground.chain }], guard := none }) (v := ?_) rfl (by kernel_rfl) (by kernel_rfl) (by kernel_rfl) (fun _ _ _ h => h) (Or.inl ⟨by rfl, ?_⟩) (by assumption) ?_
          rotate_left
          · (intro w hSw; (try dsimp only at hSw); go_simp; try with_reducible rfl)
          try simp only [Act.put, List.setIfInBounds_toArray, List.set_cons_zero, List.set_cons_succ]
          refine wpAnyH_take (i := 17) (oi := { dst := some 94, op := Op.move (Operand.tmp 3), type := 28, pos := "outright.go:79", after := #[{ on := 16, ground := Ground.guard }], guard := some (16, false) }) (v := ?_) rfl (by kernel_rfl) (by kernel_rfl) (by kernel_rfl) (fun _ _ _ h => h) (Or.inl ⟨by rfl, ?_⟩) (by assumption) ?_
          rotate_left
          · (intro w hSw; (try dsimp only at hSw); go_simp; try with_reducible rfl)
          try simp only [Act.put, List.setIfInBounds_toArray, List.set_cons_zero, List.set_cons_succ]
          refine wpAnyH_take (i := 18) (oi := { dst := some 95, op := Op.move (Operand.tmp 9), type := 3, pos := "outright.go:79", after := #[{ on := 16, ground := Ground.guard }], guard := some (16, false) }) (v := ?_) rfl (by kernel_rfl) (by kernel_rfl) (by kernel_rfl) (fun _ _ _ h => h) (Or.inl ⟨by rfl, ?_⟩) (by assumption) ?_
          rotate_left
          · (intro w hSw; (try dsimp only at hSw); go_simp; try with_reducible rfl)
          try simp only [Act.put, List.setIfInBounds_toArray, List.set_cons_zero, List.set_cons_succ]
          refine wpAnyH_take (i := 19) (oi := { dst := some 96, op := Op.indexAddr 28 (Operand.tmp 94) (Operand.tmp 95), type := 0, pos := "outright.go:79", after := #[{ on := 17, ground := Ground.data }, { on := 18, ground := Ground.data }, { on := 16, ground := Ground.guard }], guard := some (16, false) }) (v := ?_) rfl (by kernel_rfl) (by kernel_rfl) (by kernel_rfl) (fun _ _ _ h => h) (Or.inl ⟨by rfl, ?_⟩) (by assumption) ?_
          rotate_left
          · (intro w hSw; (try dsimp only at hSw); go_simp; try with_reducible rfl)
          try simp only [Act.put, List.setIfInBounds_toArray, List.set_cons_zero, List.set_cons_succ]
          refine wpAnyH_take (i := 20) (oi := { dst := some 97, op := Op.fieldAddr 37 (Operand.tmp 96) 0, type := 0, pos := "outright.go:79", after := #[{ on := 19, ground := Ground.data }, { on := 16, ground := Ground.guard }], guard := some (16, false) }) (v := ?_) rfl (by kernel_rfl) (by kernel_rfl) (by kernel_rfl) (fun _ _ _ h => h) (Or.inl ⟨by rfl, ?_⟩) (by assumption) ?_
          rotate_left
          · (intro w hSw; (try dsimp only at hSw); go_simp; try with_reducible rfl)
          try simp only [Act.put, List.setIfInBounds_toArray, List.set_cons_zero, List.set_cons_succ]
          refine wpAnyH_take (i := 21) (oi := { dst := some 98, op := Op.load 9 (Operand.tmp 97), type := 9, pos := "outright.go:79", after := #[{ on := 20, ground := Ground.data }, { on := 16, ground := Ground.guard }], guard := some (16, false) }) (v := ?_) rfl (by kernel_rfl) (by kernel_rfl) (by kernel_rfl) (fun _ _ _ h => h) (Or.inl ⟨by rfl, ?_⟩) (by assumption) ?_
          rotate_left
          · (intro w hSw; (try dsimp only at hSw); go_simp; try with_reducible rfl)
          try simp only [Act.put, List.setIfInBounds_toArray, List.set_cons_zero, List.set_cons_succ]
          refine wpAnyH_ready (rs := [22]) (by kernel_rfl) (by simp) ?_
          refine AllReadyH.cons (o := { dst := some 99, op := Op.call { callee := Callee.value (Operand.func 12), args := #[Operand.tmp 98], argTypes := #[9] }, type := 4, pos := "outright.go:79", after := #[{ on := 21, ground := Ground.data }, { on := 16, ground := Ground.chain }, { on := 16, ground := Ground.guard }], guard := some (16, false) }) rfl (fun K hK => ?_) AllReadyH.nil
          go_simp
          refine (KK.out _).mono ?_
          rintro e w6 ⟨rfl, hb6⟩
          have T1 : w6.cell? ⟨b1, o1, none⟩ = some (.string (ky l 0)) ∧ w6.cell? ⟨b1, o1 + 1, none⟩ = some (.string (vl l 0)) := ⟨(hb6.cell (p := ⟨b1, o1, none⟩) hbr).trans T0.1, (hb6.cell (p := ⟨b1, o1 + 1, none⟩) hbr).trans T0.2⟩
          have D6 := hid hb6
          clear hb6
          clear hHeld
          go_wp2_with fail
          refine hK.out _ _ T1 (fun hHeld => ?_)
          clear hK K
          try simp only [Act.put, List.setIfInBounds_toArray, List.set_cons_zero, List.set_cons_succ]
          refine wpAnyH_take (i := 23) (oi := { dst := some 100, op := Op.unOp UnOp.not 4 (Operand.tmp 99), type := 4, pos := "outright.go:79", after := #[{ on := 22, ground := Ground.data }, { on := 16, ground := Ground.guard }], guard := some (16, false) }) (v := ?_) rfl (by kernel_rfl) (by kernel_rfl) (by kernel_rfl) (fun _ _ _ h => h) (Or.inl ⟨by rfl, ?_⟩) (by assumption) ?_
          rotate_left
          · (intro w hSw; (try dsimp only at hSw); go_simp; try with_reducible rfl)
          try simp only [Act.put, List.setIfInBounds_toArray, List.set_cons_zero, List.set_cons_succ]
          refine wpAnyH_take (i := 24) (oi := { dst := some 101, op := Op.pick (Operand.tmp 93) (Operand.const (Value.bool true)) (Operand.tmp 100), type := 4, pos := "outright.go:79", after := #[{ on := 16, ground := Ground.data }, { on := 23, ground := Ground.data }], guard := none }) (v := ?_) rfl (by kernel_rfl) (by kernel_rfl) (by kernel_rfl) (fun _ _ _ h => h) (Or.inl ⟨by rfl, ?_⟩) (by assumption) ?_
          rotate_left
          · (intro w hSw; (try dsimp only at hSw); go_simp; try with_reducible rfl)
          try simp only [Act.put, List.setIfInBounds_toArray, List.set_cons_zero, List.set_cons_succ]
          refine wpAnyH_take (i := 25) (oi := { dst := some 102, op := Op.move (Operand.tmp 101), type := 4, pos := "outright.go:79", after := #[{ on := 24, ground := Ground.data }, { on := 22, ground := Ground.chain }], guard := none }) (v := ?_) rfl (by kernel_rfl) (by kernel_rfl) (by kernel_rfl) (fun _ _ _ h => h) (Or.inl ⟨by rfl, ?_⟩) (by assumption) ?_
          rotate_left
          · (intro w hSw; (try dsimp only at hSw); go_simp; try with_reducible rfl)
          try simp only [Act.put, List.setIfInBounds_toArray, List.set_cons_zero, List.set_cons_succ]
          refine wpAnyH_take (i := 26) (oi := { dst := some 103, op := Op.move (Operand.tmp 3), type := 28, pos := "outright.go:79", after := #[{ on := 25, ground := Ground.guard }], guard := some (25, false) }) (v := ?_) rfl (by kernel_rfl) (by kernel_rfl) (by kernel_rfl) (fun _ _ _ h => h) (Or.inl ⟨by rfl, ?_⟩) (by assumption) ?_
          rotate_left
          · (intro w hSw; (try dsimp only at hSw); go_simp; try with_reducible rfl)
          try simp only [Act.put, List.setIfInBounds_toArray, List.set_cons_zero, List.set_cons_succ]
          refine wpAnyH_take (i := 27) (oi := { dst := some 104, op := Op.move (Operand.tmp 9), type := 3, pos := "outright.go:79", after := #[{ on := 25, ground := Ground.guard }], guard := some (25, false) }) (v := ?_) rfl (by kernel_rfl) (by kernel_rfl) (by kernel_rfl) (fun _ _ _ h => h) (Or.inl ⟨by rfl, ?_⟩) (by assumption) ?_
          rotate_left
          · (intro w hSw; (try dsimp only at hSw); go_simp; try with_reducible rfl)
          try simp only [Act.put, List.setIfInBounds_toArray, List.set_cons_zero, List.set_cons_succ]
          refine wpAnyH_take (i := 28) (oi := { dst := some 105, op := Op.indexAddr 28 (Operand.tmp 103) (Operand.tmp 104), type := 0, pos := "outright.go:79", after := #[{ on := 26, ground := Ground.data }, { on := 27, ground := Ground.data }, { on := 25, ground := Ground.guard }], guard := some (25, false) }) (v := ?_) rfl (by kernel_rfl) (by kernel_rfl) (by kernel_rfl) (fun _ _ _ h => h) (Or.inl ⟨by rfl, ?_⟩) (by assumption) ?_
          rotate_left
          · (intro w hSw; (try dsimp only at hSw); go_simp; try with_reducible rfl)
          try simp only [Act.put, List.setIfInBounds_toArray, List.set_cons_zero, List.set_cons_succ]
          refine wpAnyH_take (i := 29) (oi := { dst := some 106, op := Op.fieldAddr 37 (Operand.tmp 105) 1, type := 0, pos := "outright.go:79", after := #[{ on := 28, ground := Ground.data }, { on := 25, ground := Ground.guard }], guard := some (25, false) }) (v := ?_) rfl (by kernel_rfl) (by kernel_rfl) (by kernel_rfl) (fun _ _ _ h => h) (Or.inl ⟨by rfl, ?_⟩) (by assumption) ?_
          rotate_left
          · (intro w hSw; (try dsimp only at hSw); go_simp; try with_reducible rfl)
          try simp only [Act.put, List.setIfInBounds_toArray, List.set_cons_zero, List.set_cons_succ]
          refine wpAnyH_take (i := 30) (oi := { dst := some 107, op := Op.load 9 (Operand.tmp 106), type := 9, pos := "outright.go:79", after := #[{ on := 29, ground := Ground.data }, { on := 25, ground := Ground.guard }], guard := some (25, false) }) (v := ?_) rfl (by kernel_rfl) (by kernel_rfl) (by kernel_rfl) (fun _ _ _ h => h) (Or.inl ⟨by rfl, ?_⟩) (by assumption) ?_
          rotate_left
          · (intro w hSw; (try dsimp only at hSw); go_simp; try with_reducible rfl)
          try simp only [Act.put, List.setIfInBounds_toArray, List.set_cons_zero, List.set_cons_succ]
          refine wpAnyH_ready (rs := [31]) (by kernel_rfl) (by simp) ?_
          refine AllReadyH.cons (o := { dst := some 108, op := Op.call { callee := Callee.value (Operand.func 7), args := #[Operand.tmp 107], argTypes := #[9] }, type := 4, pos := "outright.go:79", after := #[{ on := 30, ground := Ground.data }, { on := 25, ground := Ground.chain }, { on := 25, ground := Ground.guard }], guard := some (25, false) }) rfl (fun K hK => ?_) AllReadyH.nil
          go_simp
          refine (VV.out _).mono ?_
          rintro e w6' ⟨rfl, hww⟩
          subst hww
          clear hHeld
          go_wp2_with fail
          refine hK.out _ _ T1 (fun hHeld => ?_)
          clear hK K
          try simp only [Act.put, List.setIfInBounds_toArray, List.set_cons_zero, List.set_cons_succ]
          refine wpAnyH_take (i := 32) (oi := { dst := some 109, op := Op.unOp UnOp.not 4 (Operand.tmp 108), type := 4, pos := "outright.go:79", after := #[{ on := 31, ground := Ground.data }, { on := 25, ground := Ground.guard }], guard := some (25, false) }) (v := ?_) rfl (by kernel_rfl) (by kernel_rfl) (by kernel_rfl) (fun _ _ _ h => h) (Or.inl ⟨by rfl, ?_⟩) (by assumption) ?_
          rotate_left
          · (intro w hSw; (try dsimp only at hSw); go_simp; try with_reducible rfl)
          try simp only [Act.put, List.setIfInBounds_toArray, List.set_cons_zero, List.set_cons_succ]
          refine wpAnyH_take (i := 33) (oi := { dst := some 110, op := Op.pick (Operand.tmp 102) (Operand.const (Value.bool true)) (Operand.tmp 109), type := 4, pos := "outright.go:79", after := #[{ on := 25, ground := Ground.data }, { on := 32, ground := Ground.data }], guard := none }) (v := ?_) rfl (by kernel_rfl) (by kernel_rfl) (by kernel_rfl) (fun _ _ _ h => h) (Or.inl ⟨by rfl, ?_⟩) (by assumption) ?_
          rotate_left
          · (intro w hSw; (try dsimp only at hSw); go_simp; try with_reducible rfl)
          try simp only [Act.put, List.setIfInBounds_toArray, List.set_cons_zero, List.set_cons_succ]
          refine wpAnyH_done (by kernel_rfl) ?_ _
          clear T1
          have R6 := hid (show Below wr.heap.size wr w6' from below_undrew D6.out)
          have D6' := hid (show Below w5.heap.size w5 w6' from HB.out.trans (R6.out.mono HB.out.size))
          clear D6 T0
          go_wp2_with fail
          have U0 : w6'.drew.cell? ⟨b0, o0, none⟩ = some (.string (ky lst 0)) := (D6'.out.cell (p := ⟨b0, o0, none⟩) hb0).trans HQ0.out
          go_region_held3 (fun W => W.cell? ⟨b0, o0, none⟩ = some (.string (ky lst 0)))
            (first | exact U0 | exact U1 | exact U2)
            (first
              | (go_at_call 10; refine (CP.out _ _ l (CL.out.low D6'.out.drew) GL.out).mono ?_; rintro e w7 ⟨x7, rfl, hx7, hb7⟩; have R7 := hid (R6.out.trans ((below_undrew hb7).mono R6.out.size)); have D7 := hid (show Below w5.heap.size w5 w7 from D6'.out.trans ((below_undrew hb7).mono D6'.out.size)); have U1 : w7.cell? ⟨b0, o0, none⟩ = some (.string (ky lst 0)) := (D7.out.cell (p := ⟨b0, o0, none⟩) hb0).trans HQ0.out; have X7 := hid hx7; clear hb7 hx7)
              | (go_at_call 13; refine (GG.out _ _ X7.out).mono ?_; rintro e w8 ⟨rfl, hb8⟩; have R8 := hid (R7.out.trans (hb8.mono R7.out.size)); have D8 := hid (show Below w5.heap.size w5 w8 from D7.out.trans (hb8.mono D7.out.size)); have U2 : w8.cell? ⟨b0, o0, none⟩ = some (.string (ky lst 0)) := (D8.out.cell (p := ⟨b0, o0, none⟩) hb0).trans HQ0.out; clear hb8))
          clear U0 U1 U2
          have u1 := (D8.out.cell (p := ⟨b0, o0 + 1, none⟩) hb0).trans HQ1.out
          have u2 := (D8.out.cell (p := ⟨b1, o1 + (l.length - 1) * 2, none⟩) hb1).trans HR0.out
          have u3 := (D8.out.cell (p := ⟨b1, o1 + (l.length - 1) * 2 + 1, none⟩) hb1).trans HR1.out
          have OW8 := hid (own_low OW.out R8.out)
          have hws : w5.heap.size ≤ w8.heap.size := D8.out.size
          generalize ky l (l.length - 1) = rk at *
          generalize vl l (l.length - 1) = rv at *
          generalize l.reverse.take 0 = RT at *
          have HT := hid hrt
          clear hrt
          go_wp2_with (first
            | (at_builtin; refine wpList_append_own _ rfl _ _ 28 rfl w5.heap.size 37 i0 (.agg #[.string ByteArray.empty, .string ByteArray.empty]) 2 32 Tryd.underlying28 hi0 hz0 hz1 hz2 rfl (by decide) _ _ _ rfl (World.ownsRow.alloc OW8.out _) ⟨w8.heap.size, 0, none⟩ 1 1 [.string rk, .string rv] rfl rfl (cell_two_at _ _ _ _ _ (by simp)) (fun x hx => by simp at hx; rcases hx with rfl | rfl <;> rfl) (by unfold maxLen; omega) (by omega) (by simp; omega) ?_; intro v' w9 hown' hgrow9 hnil9)
            | go_in)
          clear hnil9
          have B9 : Below w5.heap.size w5 w9 := (D8.out.alloc hws _).grown hgrow9 (by simp; omega) (fun j hj => own_base OW8.out j hj)
          exact ⟨⟨1, by omega, by go_num, hid B9, hid (by rw [HT.out]; exact own_snoc (x := (rk, rv)) hown')⟩, by simp [intOf]; omega⟩
        · have s0 := (hcl (k - 1) (by omega)).1
          have hup := up_at OL.out.up (show k - 1 < k by omega) hkl
          obtain ⟨z1, z2, z3⟩ := less_asymm _ _ hup
          have hk0' : (0 : Int) < (k : Int) := by omega
          have hkb : decide ((0 : Int) < (k : Int)) = true := decide_eq_true hk0'
          have hkc : decide (0 < k) = true := decide_eq_true (by omega)
          have hkd : 0 < k := by omega
          have n1 : (1 : Int) ≤ (k : Int) := by omega
          have n2 : 1 ≤ k := by omega
          have n3 : (k : Int) < (l.length : Int) + 1 := by omega
          have qw : IntKind.i64.wrap ((k : Int) - 1) = (k : Int) - 1 := by simp [IntKind.wrap, IntKind.bits, IntKind.signed]; omega
          have q5 : ((k : Int) - 1).toNat = k - 1 := by omega
          have q8 : (0 : Int) ≤ (k : Int) - 1 := by omega
          have q9 : (k : Int) - 1 < (l.length : Int) := by omega
          have T0 : wr.drew.cell? ⟨b1, o1 + k * 2, none⟩ = some (.string (ky l k)) ∧ wr.drew.cell? ⟨b1, o1 + k * 2 + 1, none⟩ = some (.string (vl l k)) ∧ wr.drew.cell? ⟨b1, o1 + (k - 1) * 2, none⟩ = some (.string (ky l (k - 1))) := ⟨(HB.out.cell (p := ⟨b1, o1 + k * 2, none⟩) hb1).trans HP0.out, (HB.out.cell (p := ⟨b1, o1 + k * 2 + 1, none⟩) hb1).trans HP1.out, (HB.out.cell (p := ⟨b1, o1 + (k - 1) * 2, none⟩) hb1).trans s0⟩
          have hbr : b1 < wr.heap.size := Nat.lt_of_lt_of_le hb1 HB.out.size
          clear s0 hup hcl hc0 hk0 z2
          go_wp2_with fail
          go_region_held3 (fun W => W.cell? ⟨b1, o1 + k * 2, none⟩ = some (.string (ky l k)) ∧ W.cell? ⟨b1, o1 + k * 2 + 1, none⟩ = some (.string (vl l k)) ∧ W.cell? ⟨b1, o1 + (k - 1) * 2, none⟩ = some (.string (ky l (k - 1))))
            (first | exact T0 | exact T1)
            (first
              | (go_at_call 12; refine (KK.out _).mono ?_; rintro e w6 ⟨rfl, hb6⟩; have T1 : w6.cell? ⟨b1, o1 + k * 2, none⟩ = some (.string (ky l k)) ∧ w6.cell? ⟨b1, o1 + k * 2 + 1, none⟩ = some (.string (vl l k)) ∧ w6.cell? ⟨b1, o1 + (k - 1) * 2, none⟩ = some (.string (ky l (k - 1))) := ⟨(hb6.cell (p := ⟨b1, o1 + k * 2, none⟩) hbr).trans T0.1, (hb6.cell (p := ⟨b1, o1 + k * 2 + 1, none⟩) hbr).trans T0.2.1, (hb6.cell (p := ⟨b1, o1 + (k - 1) * 2, none⟩) hbr).trans T0.2.2⟩; have D6 := hid hb6; clear hb6)
              | (go_at_call 7; refine (VV.out _).mono ?_; rintro e w6' ⟨rfl, hww⟩; subst hww))
          clear T1
          have R6 := hid (show Below wr.heap.size wr w6' from below_undrew D6.out)
          have D6' := hid (show Below w5.heap.size w5 w6' from HB.out.trans (R6.out.mono HB.out.size))
          clear D6 T0
          go_wp2_with fail
          have U0 : w6'.drew.cell? ⟨b0, o0 + k * 2, none⟩ = some (.string (ky lst k)) := (D6'.out.cell (p := ⟨b0, o0 + k * 2, none⟩) hb0).trans HQ0.out
          go_region_held3 (fun W => W.cell? ⟨b0, o0 + k * 2, none⟩ = some (.string (ky lst k)))
            (first | exact U0 | exact U1 | exact U2)
            (first
              | (go_at_call 10; refine (CP.out _ _ l (CL.out.low D6'.out.drew) GL.out).mono ?_; rintro e w7 ⟨x7, rfl, hx7, hb7⟩; have R7 := hid (R6.out.trans ((below_undrew hb7).mono R6.out.size)); have D7 := hid (show Below w5.heap.size w5 w7 from D6'.out.trans ((below_undrew hb7).mono D6'.out.size)); have U1 : w7.cell? ⟨b0, o0 + k * 2, none⟩ = some (.string (ky lst k)) := (D7.out.cell (p := ⟨b0, o0 + k * 2, none⟩) hb0).trans HQ0.out; have X7 := hid hx7; clear hb7 hx7)
              | (go_at_call 13; refine (GG.out _ _ X7.out).mono ?_; rintro e w8 ⟨rfl, hb8⟩; have R8 := hid (R7.out.trans (hb8.mono R7.out.size)); have D8 := hid (show Below w5.heap.size w5 w8 from D7.out.trans (hb8.mono D7.out.size)); have U2 : w8.cell? ⟨b0, o0 + k * 2, none⟩ = some (.string (ky lst k)) := (D8.out.cell (p := ⟨b0, o0 + k * 2, none⟩) hb0).trans HQ0.out; clear hb8))
          clear U0 U1 U2
          have u1 := (D8.out.cell (p := ⟨b0, o0 + k * 2 + 1, none⟩) hb0).trans HQ1.out
          have u2 := (D8.out.cell (p := ⟨b1, o1 + (l.length - 1 - k) * 2, none⟩) hb1).trans HR0.out
          have u3 := (D8.out.cell (p := ⟨b1, o1 + (l.length - 1 - k) * 2 + 1, none⟩) hb1).trans HR1.out
          have OW8 := hid (own_low OW.out R8.out)
          have hws : w5.heap.size ≤ w8.heap.size := D8.out.size
          generalize ky l (l.length - 1 - k) = rk at *
          generalize vl l (l.length - 1 - k) = rv at *
          generalize l.reverse.take k = RT at *
          have HT := hid hrt
          clear hrt
          go_wp2_with (first
            | (at_builtin; refine wpList_append_own _ rfl _ _ 28 rfl w5.heap.size 37 i0 (.agg #[.string ByteArray.empty, .string ByteArray.empty]) 2 32 Tryd.underlying28 hi0 hz0 hz1 hz2 rfl (by decide) _ _ _ rfl (World.ownsRow.alloc OW8.out _) ⟨w8.heap.size, 0, none⟩ 1 1 [.string rk, .string rv] rfl rfl (cell_two_at _ _ _ _ _ (by simp)) (fun x hx => by simp at hx; rcases hx with rfl | rfl <;> rfl) (by unfold maxLen; omega) (by omega) (by simp; omega) ?_; intro v' w9 hown' hgrow9 hnil9)
            | go_in)
          clear hnil9
          have B9 : Below w5.heap.size w5 w9 := (D8.out.alloc hws _).grown hgrow9 (by simp; omega) (fun j hj => own_base OW8.out j hj)
          exact ⟨⟨k + 1, by omega, by go_num, hid B9, hid (by rw [HT.out]; exact own_snoc (x := (rk, rv)) hown')⟩, by simp [intOf]; omega⟩
      · obtain rfl : k = l.length := by omega
        have o := OW.out
        rw [show l.reverse.take l.length = l.reverse by rw [← List.length_reverse, List.take_length]] at o
        have gr : Good l.reverse := GL.out.sub (by simp) fun x hx => List.mem_reverse.1 hx
        have MR := hid (MK.out wr _ l.reverse (own_came o) gr)
        rw [make_rev OL.out] at MR
        have hsz : (⟨(txt l).toArray⟩ : ByteArray).size ≤ maxLen := by
          have h1 : (⟨(txt l).toArray⟩ : ByteArray).size = (txt l).length := by show (txt l).toArray.size = _; simp
          have h2 := txt_len l fun x hx => ⟨key_size (lab_ok (OL.out.lab x hx)).1, val_size (lab_ok (OL.out.lab x hx)).2⟩
          rw [h1]
          unfold maxLen
          omega
        have PS := hid (fun W => PA.out W ⟨(txt l).toArray⟩ hsz)
        rw [parse_txt OL.out] at PS
        have TL := hid (fun W v (hc : Came W v l) => TX.out W v l hc GL.out OL.out)
        have JL := hid (fun W v (hc : Came W v l) => JN.out W v l hc OL.out)
        have hB5 := hid (B5.out.trans (HB.out.mono B5.out.size))
        replace CL := hid (CL.out.low HB.out)
        generalize (⟨(txt l).toArray⟩ : ByteArray) = s at *
        clear o gr TX JN PA CL' C0' OW HB C0 hsz
        go_wp2_with fail
        refine MR.out.mono ?_
        rintro e w6 ⟨vm, m, rfl, hb, hm⟩
        have CM := hid (show Came w6 vm l from by rcases hm with ⟨h, _⟩ | ⟨_, h1, h2⟩; exact absurd rfl h; rw [← rev_sorted OL.out h2]; exact h1)
        have B6 := hid (hB5.out.trans (hb.mono hB5.out.size))
        replace CL := hid (CL.out.low hb)
        clear hb hm MR hB5
        go_wp2_with fail
        refine (CP.out _ _ l CL.out GL.out).mono ?_
        rintro e w7 ⟨x7, rfl, hx, hb⟩
        have B7 := hid (B6.out.trans (hb.mono B6.out.size))
        replace CL := hid (CL.out.low hb)
        replace CM := hid (CM.out.low hb)
        have X7 := hid hx
        clear hx hb B6
        go_wp2_with fail
        refine (TL.out _ _ X7.out).mono ?_
        rintro e w8 ⟨rfl, hb⟩
        have B8 := hid (B7.out.trans (hb.mono B7.out.size))
        replace CL := hid (CL.out.low hb)
        replace CM := hid (CM.out.low hb)
        clear hb B7 X7
        go_wp2_with fail
        refine (PS.out _).mono ?_
        rintro e w9 ⟨vb, m', rfl, hb, hm⟩
        have CB := hid (show Came w9 vb l from by rcases hm with ⟨h, _⟩ | ⟨_, h1, h2⟩; exact absurd rfl h; rw [← back_sorted OL.out h2]; exact h1)
        have B9 := hid (B8.out.trans (hb.mono B8.out.size))
        replace CL := hid (CL.out.low hb)
        replace CM := hid (CM.out.low hb)
        clear hb hm B8
        go_wp2_with fail
        refine (SM.out _ _ _ l CM.out CL.out (by omega)).mono ?_
        rintro e w10 ⟨rfl, hb⟩
        have B10 := hid (B9.out.trans (hb.mono B9.out.size))
        replace CL := hid (CL.out.low hb)
        replace CB := hid (CB.out.low hb)
        clear hb B9
        go_wp2_with fail
        refine (JL.out _ _ CL.out).mono ?_
        rintro e w11 ⟨rfl, hb⟩
        have B11 := hid (B10.out.trans (hb.mono B10.out.size))
        replace CL := hid (CL.out.low hb)
        replace CB := hid (CB.out.low hb)
        clear hb B10
        go_wp2_with fail
        refine (SM.out _ _ _ l CB.out CL.out (by omega)).mono ?_
        rintro e w12 ⟨rfl, hb⟩
        have B12 := hid (B11.out.trans (hb.mono B11.out.size))
        clear hb B11
        go_wp2_with fail
        go_ret
        exact ⟨rfl, B12.out⟩
  · have hne : ((makeN lst).2 != 0) = true := by simpa using hme
    have HM2 : vm = .slice none 0 0 := by
      rcases HM.out with ⟨_, h⟩ | ⟨h, _⟩
      · exact h
      · exact absurd h hme
    subst HM2
    clear HM
    by_cases h32 : 32 < lst.length
    · have e : makeN lst = (ByteArray.empty, 34) := by unfold makeN; rw [if_pos h32]
      rw [e]
      clear hne hme e
      go_wp2_with fail
      go_ret
      exact ⟨rfl, B3.out⟩
    · have g32 : (lst.length : Int) ≤ 32 := by omega
      generalize makeN lst = mm at *
      obtain ⟨mk, me⟩ := mm
      simp only at hne hme
      cases hk0 : mk.toList.isEmpty
      · clear hme
        go_wp2_with fail
        go_ret
        exact ⟨rfl, B3.out⟩
      · clear hme
        go_wp2_with fail
        go_ret
        exact ⟨rfl, B3.out⟩
end Go.Proofs.YtnldagpbmphdhaaDoor.L
