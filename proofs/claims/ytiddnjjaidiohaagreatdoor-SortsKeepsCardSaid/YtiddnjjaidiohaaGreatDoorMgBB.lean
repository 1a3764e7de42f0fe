import Derived.Test.YtiddnjjaidiohaaGreatDoorMgAS
import Derived.Test.YtiddnjjaidiohaaGreatDoorMgBA
import Derived.Test.YtiddnjjaidiohaaGreatDoorMgAX
import Derived.Test.YtiddnjjaidiohaaGreatDoorApr
namespace Go.Proofs.YtiddnjjaidiohaaGreatDoor.L
open Go.RowKit Go.Shelf
set_option linter.unusedVariables false
/-- Rows in blocks that differ. -/
def Dst (ks : Nat → Value) (k : Nat) : Prop := ∀ i j, i < j → j < k → (ks i).ownBlock = none ∨ (ks i).ownBlock ≠ (ks j).ownBlock
theorem dst_more {ks : Nat → Value} {k B : Nat} {x : Value} {W : World} {zs : List Int} (h : Dst ks k) (hl : ∀ i, i < k → ∀ g, (ks i).ownBlock = some g → g < B) (hx : OwnI W B x zs) : Dst (fun j => if j = k then x else ks j) (k + 1) := by
  intro i j h1 h2
  simp only
  by_cases e : j = k
  · rw [if_pos e, if_neg (by omega)]
    cases hb : (ks i).ownBlock with
    | none => exact .inl rfl
    | some g =>
      right
      intro he
      have a := hl i (by omega) g hb
      have b := (own_block hx g he.symm).1
      omega
  · rw [if_neg e, if_neg (by omega)]
    exact h i j h1 (by omega)
set_option maxHeartbeats 4000000 in
set_option maxRecDepth 100000 in
theorem copied_d (a : Option Addr) (T : List Pt) (cap : Nat) (w : World) (hT : PLs w a T) (hG : GdT T) (hsm : sumK T T.length ≤ 100000) :
    Calls Tryz.prog 10 #[.agg #[.slice a T.length cap]] w fun e w' => ∃ a' cap' ks, e = .returned (.agg #[.slice a' T.length cap']) ∧ OwnP w' w.heap.size (.slice a' T.length cap') T ks T.length ∧ Dst ks T.length ∧ Below w.heap.size w w' := by
  obtain ⟨L, hLe⟩ : ∃ L, L = T.length := ⟨_, rfl⟩
  have HT := hid hT
  have HL := hid hLe
  have HG := hid hG
  have hL : L ≤ 140737488355328 := by rw [hLe]; exact hG.1
  have HSM := hid hsm
  rw [← hLe] at HSM ⊢
  have hb0 := belowA w (.cells #[.slice a L cap] 26)
  have hb1 := hb0.alloc (by simp) (.cells #[.slice none 0 0] 26)
  have HB1 := hid hb1
  have HX0 := hid (show Boxed ((w.alloc (.cells #[.slice a L cap] 26)).alloc (.cells #[.slice none 0 0] 26)) w.heap.size 26 (.slice a L cap) from (Boxed.new w _ _).alloc _)
  have HX1 := hid (show Boxed ((w.alloc (.cells #[.slice a L cap] 26)).alloc (.cells #[.slice none 0 0] 26)) (w.heap.size + 1) 26 (.slice none 0 0) by
    have := Boxed.new (w.alloc (.cells #[.slice a L cap] 26)) 26 (.slice none 0 0)
    rwa [World.size_alloc] at this)
  have HXS := hid (show ((w.alloc (.cells #[.slice a L cap] 26)).alloc (.cells #[.slice none 0 0] 26)).heap.size = w.heap.size + 1 + 1 by simp)
  clear hT hLe hG hb0 hb1 hsm
  go_enter Tryz.func10, Tryz.ntmps10
  go_upto_region 1 with (fail)
  have HTX := hid (HT.out.low HB1.out)
  generalize (w.alloc (.cells #[.slice a L cap] 26)).alloc (.cells #[.slice none 0 0] 26) = X at *
  have xt := HX0.out.cell
  have hL5 : L ≤ 100000 := by
    have h0 := sumK_mono T (Nat.zero_le L)
    have h1 : sumK T 0 = L := HL.out.symm
    have h2 := HSM.out
    omega
  have HS := hid (show sumK T L ≤ 100000 from HSM.out)
  have HW1 := HB1
  have HY0 := HX0
  have HY1 := HX1
  have HWS := hid (show w.heap.size + 1 < X.heap.size from HY1.out.lt)
  have HLT := hid (Nat.lt_of_succ_lt HWS.out)
  go_wp2_with fail
  go_loopw [3, 9] (fun v i wr => ∃ (k : Nat) (ks : Nat → Value), k ≤ L ∧ i = .int .i64 (k : Int) ∧ Hid (Below X.heap.size X wr) ∧ Hid (OwnP wr X.heap.size v T ks k) ∧ Hid (Dst ks k)) (fun _ i _ => L - (intOf i).toNat)
  case atStart => exact ⟨0, fun _ => undef, Nat.zero_le _, rfl, hid (Below.refl _ _), hid ⟨⟨rfl, .inl ⟨rfl, rfl⟩⟩, fun j hj => absurd hj (Nat.not_lt_zero j)⟩, hid (fun i j h1 h2 => absurd h2 (Nat.not_lt_zero j))⟩
  case round =>
    obtain ⟨k, ks, hk, rfl, HB, HO, HD⟩ := hrel
    have xt := (show Boxed wr w.heap.size 26 (.slice a L cap) from boxed_low HY0.out HB.out).cell
    by_cases hkl : k < L
    · have hki : (k : Int) < (L : Int) := by omega
      have hk0 : (0 : Int) ≤ (k : Int) := by omega
      have hts := HT.out.low (HW1.out.trans (HB.out.mono (Nat.le_of_lt HLT.out)))
      have hgk := sumK_kid T hkl
      rcases hts with h0 | ⟨b2, o2, rfl, hb2, hc2⟩
      · have := HL.out; omega
      obtain ⟨ka, kc, q0, q1, q2, q3, rk, hno⟩ := hc2 k (by rw [← HL.out]; exact hkl)
      have hgl := Nat.le_trans hgk HS.out
      obtain ⟨p, hp⟩ : ∃ p, p = pt T k := ⟨_, rfl⟩
      rw [← hp] at q0 q1 q2 q3 rk hgl
      have HPT := hid hp
      obtain ⟨kd, tx, nu, zs⟩ := p
      simp only at q0 q1 q2 q3 rk hgl
      obtain ⟨n, hn⟩ : ∃ n, n = zs.length := ⟨_, rfl⟩
      rw [← hn] at q3 hgl
      have HN := hid hn
      have RK := hid rk
      have HNO := hid hno
      have hk4 : ((k : Int) * 4).toNat = k * 4 := by omega
      have hvb := belowA wr (.cells #[.int .i64 kd, .string tx, .int .i64 nu, .slice ka n kc] 60)
      have HVB := hid hvb
      have HVP := hid (heap_alloc_new wr (.cells #[.int .i64 kd, .string tx, .int .i64 nu, .slice ka n kc] 60))
      have HVS := hid (show (wr.alloc (.cells #[.int .i64 kd, .string tx, .int .i64 nu, .slice ka n kc] 60)).heap.size = wr.heap.size + 1 by simp)
      clear hc2 rk hno hp hn hvb hgk
      go_upto_region 5 with (fail)
      have RV := hid (RK.out.low HVB.out (Nat.le_refl _))
      have HP9 := hid (show Below wr.heap.size wr (wr.alloc (.cells #[.int .i64 kd, .string tx, .int .i64 nu, .slice ka n kc] 60)) from HVB.out)
      clear q0 q1 q2 q3 hb2 xt
      generalize wr.alloc (.cells #[.int .i64 kd, .string tx, .int .i64 nu, .slice ka n kc] 60) = V at *
      have HWB := hid (show X.heap.size ≤ wr.heap.size from HB.out.size)
      generalize hPe : wr.heap.size = P at *
      have HPE := hid hPe
      clear hPe
      have x3 := (cells4 HVP.out).2.2.2
      have N0 := hid (show OwnI V V.heap.size (.slice none 0 0) [] from ⟨rfl, .inl ⟨rfl, rfl⟩⟩)
      have HPV := hid (show P < V.heap.size by rw [HVS.out]; exact Nat.lt_succ_self _)
      have HBD := hid (show ([] : List Int).length + zs.length ≤ 17592186044000 by rw [List.length_nil, ← HN.out]; omega)
      have hPne : P ≠ V.heap.size := Nat.ne_of_lt HPV.out
      go_wp2_with (at_builtin; refine append_src rfl _ _ rfl V.heap.size _ [] rfl N0.out ka n kc zs HN.out rfl HNO.out RV.out HBD.out (Nat.le_refl _) ?_)
      intro v1 w3 o1 g1
      obtain ⟨ka1, kc1, rfl⟩ := own_form o1
      have hk3 : w3.heap[P]? = V.heap[P]? := g1.block P HPV.out (by simp [Value.ownBlock])
      have e3 : w3.heap[P]? = some (.cells #[.int .i64 kd, .string tx, .int .i64 nu, .slice ka n kc] 60 (0, 0)) := hk3.trans HVP.out
      have f3 : w3.frozen? ⟨P, 3, none⟩ = false := by simp [World.frozen?, e3]
      obtain ⟨d0, d1, d2, d3⟩ := cells4 e3
      have HE3 := hid e3
      have O1 := hid o1
      have HDN := hid (dst_more HD.out (fun i hi g hg => Nat.lt_trans (by have h := (own_block (HO.out.kids i hi) g hg).2; rw [HPE.out] at h; exact h) HPV.out) o1)
      have G1 := hid g1
      clear o1 g1 hk3 e3 x3
      go_upto_region 6 with (fail)
      have e4 : (w3.setCell ⟨P, 3, none⟩ (.slice ka1 zs.length kc1)).heap[P]? = some (.cells #[.int .i64 kd, .string tx, .int .i64 nu, .slice ka1 zs.length kc1] 60 (0, 0)) := by
        rw [setCell_eq_setRow _ _ _ _ _ _ _ HE3.out, setRow_heap _ _ _ _ _ _ HE3.out]
        rfl
      have b3 : Below V.heap.size V w3 := (Below.refl _ _).grown G1.out (Nat.le_refl _) (fun k hk => by simp [Value.ownBlock] at hk)
      have b4 : Below P wr (w3.setCell ⟨P, 3, none⟩ (.slice ka1 zs.length kc1)) := (HP9.out.trans (b3.mono (Nat.le_of_lt HPV.out))).setCell (p := ⟨P, 3, none⟩) (Nat.le_refl _) _
      have HB4 := hid b4
      have HO4 := hid (HO.out.low (show Below wr.heap.size wr _ by rw [HPE.out]; exact b4))
      have OK4 := hid (show OwnI (w3.setCell ⟨P, 3, none⟩ (.slice ka1 zs.length kc1)) X.heap.size (.slice ka1 zs.length kc1) zs from own_mono (ownsRow_setCell_below O1.out (a := ⟨P, 3, none⟩) HPV.out _) (by have := HWB.out; have := HPV.out; omega))
      have ⟨x0, x1, x2, x3⟩ := cells4 e4
      have HW4 := hid (show X.heap.size ≤ (w3.setCell ⟨P, 3, none⟩ (.slice ka1 zs.length kc1)).heap.size by have h1 := b4.size; have h2 := HWB.out; rw [HPE.out] at h1; omega)
      clear e4 b3 b4 d0 d1 d2 d3 f3
      generalize w3.setCell ⟨P, 3, none⟩ (.slice ka1 zs.length kc1) = W4 at *
      obtain ⟨i0, hi, hz0, hz1, hz2⟩ := info_parts infoP
      have HRW := hid (HO4.out.row.alloc (.cells #[.int .i64 kd, .string tx, .int .i64 nu, .slice ka1 zs.length kc1] 60))
      have HFN := hid (cell_four_new W4 (.int .i64 kd) (.string tx) (.int .i64 nu) (.slice ka1 zs.length kc1) 60)
      have HA4 := hid (belowA W4 (.cells #[.int .i64 kd, .string tx, .int .i64 nu, .slice ka1 zs.length kc1] 60))
      have HO5 := hid (HO4.out.low HA4.out)
      have OK5 := hid (own_low OK4.out HA4.out)
      go_wp2_with (at_builtin; refine wpList_append_own _ rfl _ _ 24 rfl X.heap.size 60 i0 (.agg #[.int .i64 0, .string ByteArray.empty, .int .i64 0, .slice none 0 0]) 4 56 Tryz.underlying24 hi hz0 hz1 hz2 rfl (by decide) _ _ _ rfl HRW.out ⟨W4.heap.size, 0, none⟩ 1 1 [.int .i64 kd, .string tx, .int .i64 nu, .slice ka1 zs.length kc1] rfl rfl HFN.out (fun x hx => by simp at hx; rcases hx with rfl | rfl | rfl | rfl <;> rfl) (by unfold maxLen; omega) (by omega) (Nat.le_trans HW4.out HA4.out.size) ?_)
      intro v5 w5 hr5 hg5 hn5
      have HM := hid (OwnP.more HO5.out (show OwnI _ X.heap.size (.slice ka1 zs.length kc1) (pt T k).kids by rw [← HPT.out]; exact OK5.out) (by rw [← HPT.out]; exact hr5) hg5)
      have HB5 := hid (show Below X.heap.size X w5 by
        have h1 : Below X.heap.size X W4 := HB.out.trans (HB4.out.mono HWB.out)
        refine (h1.trans (HA4.out.mono HW4.out)).grown hg5 (Nat.le_trans HW4.out HA4.out.size) (fun k hk => ?_)
        exact (HO5.out.row.lt k hk).1)
      clear hr5 hg5 hn5 hi hz0 hz1 hz2 x0 x1 x2 x3
      go_wp2_with fail
      refine ⟨⟨k + 1, _, by omega, by simp, HB5, HM, HDN⟩, ?_⟩
      show L - ((k : Int) + 1).toNat < L - ((k : Int)).toNat
      omega
    · have hki : ¬ ((k : Int) < (L : Int)) := by omega
      have ekL : k = L := by omega
      subst ekL
      have hy1 := boxed_low HY1.out HB.out
      have xc := hy1.cell
      have xf := hy1.frozen
      have HXC := hid hy1
      clear hy1
      have HO2 := hid (HO.out.set_low (p := ⟨w.heap.size + 1, 0, none⟩) HWS.out u3)
      rw [HL.out] at HO2
      obtain ⟨a', cap', hv, hp⟩ := HO2.out.pl
      rw [← HL.out] at hv HO2
      clear hp
      subst hv
      have HP := hid (HO2.out.mono (base' := w.heap.size) (Nat.le_of_lt HLT.out))
      have HW3 := hid ((HW1.out.trans (HB.out.mono (Nat.le_of_lt HLT.out))).setCell (p := ⟨w.heap.size + 1, 0, none⟩) (Nat.le_succ _) (.slice a' k cap'))
      go_wp2_with fail
      exact ⟨rfl, .agg #[.slice a' k cap'], results_cell_row Tryz.results10 _ _ (w.heap.size + 1) 26 #[.slice a' k cap'] (0, 0) _ rfl (HXC.out.set _) Tryz.underlying26 rfl (by kernel_rfl), a', cap', rfl, ⟨ks, HP.out, HD.out, HW3.out⟩⟩
end Go.Proofs.YtiddnjjaidiohaaGreatDoor.L
namespace Go.Proofs.YtiddnjjaidiohaaGreatDoor.L
open Go.RowKit Go.Shelf
set_option linter.unusedVariables false
theorem CP_T {T T' : List Pt} {ks : Nat → Value} : ∀ {k : Nat}, (∀ j, j < k → pt T j = pt T' j) → CP T ks k = CP T' ks k
  | 0, _ => rfl
  | k + 1, h => by
    simp only [CP]
    rw [CP_T (fun j hj => h j (by omega)), h k (by omega)]
theorem OwnP.congr {W : World} {base : Nat} {v : Value} {T T' : List Pt} {ks : Nat → Value} {k : Nat} (h : OwnP W base v T ks k) (e : ∀ j, j < k → pt T j = pt T' j) : OwnP W base v T' ks k :=
  ⟨by rw [← CP_T e]; exact h.row, fun j hj => by rw [← e j hj]; exact h.kids j hj⟩
theorem own_lit1 (w : World) (base : Nat) (x : Int) (hb : base ≤ w.heap.size) : OwnI (w.alloc (.cells #[.int .i64 x] 3)) base (.slice (some ⟨w.heap.size, 0, none⟩) 1 1) [x] :=
  World.ownsRow_lit (base := base) (e := 3) (size := 1) w #[.int .i64 x] 1 hb (by decide) (by simp)
theorem own_lit2 (w : World) (base : Nat) (x y : Int) (hb : base ≤ w.heap.size) : OwnI (w.alloc (.cells #[.int .i64 x, .int .i64 y] 3)) base (.slice (some ⟨w.heap.size, 0, none⟩) 2 2) [x, y] :=
  World.ownsRow_lit (base := base) (e := 3) (size := 1) w #[.int .i64 x, .int .i64 y] 2 hb (by decide) (by simp)
theorem row_box {W : World} {base n s : Nat} {e : TypeId} {v : Value} {xs : List Value} {g : Nat} {cs : Array Value} {fr : Nat × Nat} (h : W.ownsRow base e s v n xs) (hb : W.heap[g]? = some (.cells cs 26 fr)) (hne : e ≠ 26) : v.ownBlock ≠ some g := by
  rcases h.2 with ⟨rfl, _⟩ | ⟨g', cap, cur, rfl, _, hg, _⟩
  · intro e1; cases e1
  · intro e1
    have : g' = g := by simpa [Value.ownBlock] using e1
    subst this
    rw [hg] at hb
    have := Option.some.inj hb
    simp at this
    exact hne this.2.1
theorem box_ne {W : World} {base : Nat} {v : Value} {T : List Pt} {ks : Nat → Value} {k g : Nat} {cs : Array Value} {fr : Nat × Nat} (h : OwnP W base v T ks k) (hb : W.heap[g]? = some (.cells cs 26 fr)) : v.ownBlock ≠ some g := row_box h.row hb (by decide)
theorem grown_set (W : World) (g o : Nat) (u : Value) : W.grownBy (W.setCell ⟨g, o, none⟩ u) (some g) := ⟨rfl, rfl, rfl, by simp, fun k hk hne => Below.heap_setCell W ⟨g, o, none⟩ u k (fun e => hne (by rw [e]))⟩
theorem OwnP.box {W : World} {base : Nat} {v : Value} {T : List Pt} {ks : Nat → Value} {k g : Nat} {cs : Array Value} {fr : Nat × Nat} (h : OwnP W base v T ks k) (hb : W.heap[g]? = some (.cells cs 26 fr)) (o : Nat) (u : Value) : OwnP (W.setCell ⟨g, o, none⟩ u) base v T ks k :=
  ⟨World.ownsRow.kept h.row (grown_set W g o u) (.inr (row_box h.row hb (by decide))), fun j hj => World.ownsRow.kept (h.kids j hj) (grown_set W g o u) (.inr (row_box (h.kids j hj) hb (by decide)))⟩
set_option maxHeartbeats 8000000 in
set_option maxRecDepth 100000 in
theorem under_any (k : Int) (tx : ByteArray) (a : Option Addr) (T : List Pt) (cap : Nat) (w : World) (hT : PLs w a T) (hG : GdT T) (hsm : sumK T T.length ≤ 100000) (h1 : 1 ≤ T.length) :
    Calls Tryz.prog 18 #[.int .i64 k, .string tx, .agg #[.slice a T.length cap]] w fun e w' => ∃ a' cap', e = .returned (.agg #[.slice a' (T.length + 1) cap']) ∧ PLs w' a' (unT k tx T) ∧ Below w.heap.size w w' := by
  have hl5 : T.length ≤ 100000 := by
    have h0 := sumK_mono T (Nat.zero_le T.length)
    have h2 : sumK T 0 = T.length := rfl
    omega
  have ⟨hx, hf, hb⟩ := alloc2 w (.cells #[.slice a T.length cap] 26) (.cells #[.slice none 0 0] 26)
  have HX := hid hx
  have HF := hid hf
  have HB := hid hb
  have HT := hid hT
  have HCP := hid (fun W h => copied_any a T cap W h hG hsm)
  obtain ⟨L, hL⟩ : ∃ L, L = T.length := ⟨_, rfl⟩
  have HL := hid hL
  rw [← hL] at HX HF HB HCP h1 hl5 ⊢
  have HUT := hid (show ∀ j, j < L → pt T j = pt (unT k tx T) j from fun j hj => by rw [hL] at hj; exact (pt_app hj).symm)
  have HTP := hid (show pt (unT k tx T) L = ⟨k, tx, 0, [(L : Int) - 1]⟩ by rw [hL]; exact un_top k tx T)
  clear hx hf hb hT hL
  go_enter Tryz.func18, Tryz.ntmps18
  go_upto_region 1 with (fail)
  generalize (w.alloc (.cells #[.slice a L cap] 26)).alloc (.cells #[.slice none 0 0] 26) = X at *
  have x0 := cell_of_one HX.out
  go_upto_region 2 with (go_at_call 10; refine (HCP.out _ (HT.out.low HB.out)).mono ?_; rintro e w1 ⟨a1, c1, ks, rfl, p1, l1⟩; have P1 := hid p1; have L1 := hid l1; clear p1 l1)
  clear x0
  have HB1 := hid (bchS HB.out L1.out)
  have HA2 := hid (belowA w1 (.cells #[.slice a1 L c1] 26))
  have HX2 := hid (heap_alloc_new w1 (.cells #[.slice a1 L c1] 26))
  have HP2 := hid (P1.out.low HA2.out)
  have HF2 := hid ((HA2.out.block _ (Nat.lt_of_lt_of_le (lt_blk HF.out) L1.out.size)).trans ((L1.out.block _ (lt_blk HF.out)).trans HF.out))
  have HB2 := hid (bchS HB1.out HA2.out)
  have HZX := hid (show X.heap.size ≤ w1.heap.size from L1.out.size)
  generalize w1.alloc (.cells #[.slice a1 L c1] 26) = Y at *
  have HZY := hid (show w1.heap.size < Y.heap.size from lt_blk HX2.out)
  generalize w1.heap.size = tb at *
  have HXY := hid (show X.heap.size ≤ Y.heap.size from Nat.le_trans HZX.out (Nat.le_of_lt HZY.out))
  have HXT := hid (show X.heap.size ≤ tb from HZX.out)
  have y0 := cell_of_one HX2.out
  have HK1 := hid (own_lit1 Y X.heap.size ((L : Int) - 1) HXY.out)
  have HA3 := hid (belowA Y (.cells #[.int .i64 ((L : Int) - 1)] 3))
  have HS3 := hid (show (Y.alloc (.cells #[.int .i64 ((L : Int) - 1)] 3)).heap.size = Y.heap.size + 1 by simp)
  have HP3 := hid (HP2.out.low HA3.out)
  obtain ⟨i0, hi, hz0, hz1, hz2⟩ := info_parts infoP
  have HRW := hid (HP3.out.row.alloc (.cells #[.int .i64 k, .string tx, .int .i64 0, .slice (some ⟨Y.heap.size, 0, none⟩) 1 1] 60))
  have HFN := hid (cell_four_new (Y.alloc (.cells #[.int .i64 ((L : Int) - 1)] 3)) (.int .i64 k) (.string tx) (.int .i64 0) (.slice (some ⟨Y.heap.size, 0, none⟩) 1 1) 60)
  have HA4 := hid (belowA (Y.alloc (.cells #[.int .i64 ((L : Int) - 1)] 3)) (.cells #[.int .i64 k, .string tx, .int .i64 0, .slice (some ⟨Y.heap.size, 0, none⟩) 1 1] 60))
  have HSZ := hid (show X.heap.size ≤ ((Y.alloc (.cells #[.int .i64 ((L : Int) - 1)] 3)).alloc (.cells #[.int .i64 k, .string tx, .int .i64 0, .slice (some ⟨Y.heap.size, 0, none⟩) 1 1] 60)).heap.size from Nat.le_trans HXY.out (Nat.le_trans HA3.out.size HA4.out.size))
  rw [HS3.out] at HFN
  go_upto_region 3 with (at_builtin; refine wpList_append_own _ rfl _ _ 24 rfl X.heap.size 60 i0 (.agg #[.int .i64 0, .string ByteArray.empty, .int .i64 0, .slice none 0 0]) 4 56 Tryz.underlying24 hi hz0 hz1 hz2 rfl (by decide) _ _ _ rfl HRW.out ⟨Y.heap.size + 1, 0, none⟩ 1 1 [.int .i64 k, .string tx, .int .i64 0, .slice (some ⟨Y.heap.size, 0, none⟩) 1 1] rfl rfl HFN.out (fun x hx => by simp at hx; rcases hx with rfl | rfl | rfl | rfl <;> rfl) (by unfold maxLen; omega) (by omega) HSZ.out ?_)
  intro v5 w5 hr5 hg5 hn5
  have HPZ := hid ((HP3.out.low HA4.out).congr (T' := unT k tx T) HUT.out)
  have HKZ := hid (own_low HK1.out HA4.out)
  have HM := hid (OwnP.more HPZ.out (show OwnI _ X.heap.size (.slice (some ⟨Y.heap.size, 0, none⟩) 1 1) (pt (unT k tx T) L).kids by rw [HTP.out]; exact HKZ.out) (by rw [HTP.out, ← CP_T HUT.out]; exact hr5) hg5)
  have HBZ := hid (bchS (bchS HB2.out HA3.out) HA4.out)
  have HLZ := hid (show Y.heap.size ≤ ((Y.alloc (.cells #[.int .i64 ((L : Int) - 1)] 3)).alloc (.cells #[.int .i64 k, .string tx, .int .i64 0, .slice (some ⟨Y.heap.size, 0, none⟩) 1 1] 60)).heap.size from Nat.le_trans HA3.out.size HA4.out.size)
  have HXZ := hid ((HA4.out.block _ (Nat.lt_of_lt_of_le (lt_blk HX2.out) HA3.out.size)).trans ((HA3.out.block _ (lt_blk HX2.out)).trans HX2.out))
  have HFZ := hid ((HA4.out.block _ (Nat.lt_of_lt_of_le (lt_blk HF2.out) HA3.out.size)).trans ((HA3.out.block _ (lt_blk HF2.out)).trans HF2.out))
  have HX5 := hid ((hg5.block tb (lt_blk HXZ.out) (Ne.symm (box_ne HPZ.out HXZ.out))).trans HXZ.out)
  have HF5 := hid ((hg5.block (w.heap.size + 1) (lt_blk HFZ.out) (Ne.symm (box_ne HPZ.out HFZ.out))).trans HFZ.out)
  have HB5 := hid (HBZ.out.grown hg5 HBZ.out.size (fun k hk => Nat.le_trans HB.out.size (HPZ.out.row.lt k hk).1))
  obtain ⟨a5, c5, hv5⟩ : ∃ a5 c5, v5 = .slice a5 (L + 1) c5 := by
    have h := HM.out
    have e : L + 1 = (unT k tx T).length := by rw [un_len, HL.out]
    rw [e] at h
    obtain ⟨a5, c5, h5, _⟩ := h.pl
    exact ⟨a5, c5, by rw [h5, e]⟩
  subst hv5
  clear hr5 hg5 hn5 hi hz0 hz1 hz2 y0
  have c5' := cell_of_one HX5.out
  have f5 : w5.frozen? ⟨tb, 0, none⟩ = false := by simp [World.frozen?, HX5.out]
  go_upto_region 3 with (fail)
  have hrt : w.heap.size + 1 ≠ tb := by have h1 := lt_blk HF.out; have h2 := HXT.out; omega
  have HX6 := hid (show (w5.setCell ⟨tb, 0, none⟩ (.slice a5 (L + 1) c5)).heap[tb]? = some (.cells #[.slice a5 (L + 1) c5] 26 (0, 0)) by
    rw [setCell_eq_setRow _ _ _ _ _ _ _ HX5.out, setRow_heap _ _ _ _ _ _ HX5.out]
    rfl)
  have HF6 := hid ((Below.heap_setCell w5 ⟨tb, 0, none⟩ (.slice a5 (L + 1) c5) (w.heap.size + 1) hrt).trans HF5.out)
  have HM6 := hid (HM.out.box HX5.out 0 (.slice a5 (L + 1) c5))
  have HB6 := hid (HB5.out.setCell (p := ⟨tb, 0, none⟩) (Nat.le_trans HB.out.size HXT.out) (.slice a5 (L + 1) c5))
  clear c5' f5
  generalize w5.setCell ⟨tb, 0, none⟩ (.slice a5 (L + 1) c5) = W6 at *
  have x6 := cell_of_one HX6.out
  have y6 := cell_of_one HF6.out
  have f6 : W6.frozen? ⟨w.heap.size + 1, 0, none⟩ = false := by simp [World.frozen?, HF6.out]
  have HM7 := hid (HM6.out.box HF6.out 0 (.slice a5 (L + 1) c5))
  have HP7 := hid (show PLs (W6.setCell ⟨w.heap.size + 1, 0, none⟩ (.slice a5 (L + 1) c5)) a5 (unT k tx T) by
    have h := HM7.out
    have e : L + 1 = (unT k tx T).length := by rw [un_len, HL.out]
    rw [e] at h ⊢
    obtain ⟨a7, c7, h7, hp⟩ := h.pl
    cases h7
    exact hp)
  have HF7 := hid (show (W6.setCell ⟨w.heap.size + 1, 0, none⟩ (.slice a5 (L + 1) c5)).heap[w.heap.size + 1]? = some (.cells #[.slice a5 (L + 1) c5] 26 (0, 0)) by
    rw [setCell_eq_setRow _ _ _ _ _ _ _ HF6.out, setRow_heap _ _ _ _ _ _ HF6.out]
    rfl)
  have HB7 := hid (HB6.out.setCell (p := ⟨w.heap.size + 1, 0, none⟩) (Nat.le_succ _) (.slice a5 (L + 1) c5))
  go_wp2_with fail
  exact ⟨rfl, .agg #[.slice a5 (L + 1) c5], results_cell_row Tryz.results18 _ _ (w.heap.size + 1) 26 #[.slice a5 (L + 1) c5] (0, 0) _ rfl HF7.out Tryz.underlying26 rfl (by kernel_rfl), a5, c5, rfl, HP7.out, HB7.out⟩
end Go.Proofs.YtiddnjjaidiohaaGreatDoor.L
namespace Go.Proofs.YtiddnjjaidiohaaGreatDoor.L
open Go.RowKit Go.Shelf
set_option linter.unusedVariables false
theorem gB_trans {a b c : World} {row : Option Nat} (h1 : a.grownBy b row) (h2 : b.grownBy c row) : a.grownBy c row :=
  ⟨h2.os.trans h1.os, h2.tape.trans h1.tape, h2.output.trans h1.output, Nat.le_trans h1.size h2.size, fun k hk hne => (h2.block k (Nat.lt_of_lt_of_le hk h1.size) hne).trans (h1.block k hk hne)⟩
theorem gB_refl (a : World) (row : Option Nat) : a.grownBy a row := ⟨rfl, rfl, rfl, Nat.le_refl _, fun _ _ _ => rfl⟩
theorem gB_low {a b : World} (h : Below a.heap.size a b) (row : Option Nat) : a.grownBy b row := ⟨h.os, h.tape, h.output, h.size, fun k hk _ => h.block k hk⟩
/-- The first i numbers are n greater. -/
def mixZ (zs : List Int) (n i : Nat) : List Int := (zs.take i).map (· + (n : Int)) ++ zs.drop i
theorem mix_zero (zs : List Int) (n : Nat) : mixZ zs n 0 = zs := by simp [mixZ]
theorem mix_all (zs : List Int) (n : Nat) : mixZ zs n zs.length = zs.map (· + (n : Int)) := by simp [mixZ]
theorem mix_len (zs : List Int) (n i : Nat) : (mixZ zs n i).length = zs.length := by
  unfold mixZ
  rw [List.length_append, List.length_map, List.length_take, List.length_drop]
  omega
theorem mix_get (zs : List Int) (n i : Nat) (h : i < zs.length) : (mixZ zs n i).getD i 0 = zs.getD i 0 := by
  unfold mixZ
  rw [List.getD_eq_getElem?_getD, List.getElem?_append_right (by rw [List.length_map, List.length_take]; omega), List.length_map, List.length_take, List.getElem?_drop, List.getD_eq_getElem?_getD]
  congr 2
  omega
theorem mix_set (zs : List Int) (n i : Nat) (h : i < zs.length) : (mixZ zs n i).set i (zs.getD i 0 + (n : Int)) = mixZ zs n (i + 1) := by
  unfold mixZ
  have hl : ((zs.take i).map (· + (n : Int))).length = i := by rw [List.length_map, List.length_take]; omega
  rw [List.set_append_right _ _ (by omega), hl, Nat.sub_self, List.drop_eq_getElem_cons h, List.set_cons_zero, List.take_add_one, List.getElem?_eq_getElem h, List.getD_eq_getElem?_getD, List.getElem?_eq_getElem h, List.map_append]
  simp only [Option.toList, List.map_cons, List.map_nil, List.append_assoc, List.cons_append, List.nil_append]
  rfl
/-- Two trees on their way into one. -/
structure Jn (W : World) (bx by' n : Nat) (U B : List Pt) (ksB : Nat → Value) (vb : Value) (k q : Nat) (vo : Value) (ksO : Nat → Value) : Prop where
  out : OwnP W bx vo U ksO (n + k)
  row : W.ownsRow by' 60 4 vb B.length (CP B ksB B.length)
  kid : ∀ j, q ≤ j → j < B.length → OwnI W by' (ksB j) (pt B j).kids
  ne : vb.ownBlock = none ∨ vb.ownBlock ≠ vo.ownBlock
  dk : ∀ i j, i < n + k → q ≤ j → j < B.length → (ksO i).ownBlock = none ∨ (ksO i).ownBlock ≠ (ksB j).ownBlock
  db : Dst ksB B.length
section
variable {W W' : World} {bx by' n : Nat} {U B : List Pt} {ksB : Nat → Value} {vb : Value} {k q : Nat} {vo : Value} {ksO : Nat → Value}
theorem Jn.low (h : Jn W bx by' n U B ksB vb k q vo ksO) (hb : Below W.heap.size W W') : Jn W' bx by' n U B ksB vb k q vo ksO :=
  ⟨h.out.low hb, World.ownsRow.kept (row := none) h.row (gB_low hb none) (by cases vb.ownBlock <;> simp), fun j h1 h2 => own_low (h.kid j h1 h2) hb, h.ne, h.dk, h.db⟩
theorem Jn.box (h : Jn W bx by' n U B ksB vb k q vo ksO) {g : Nat} {cs : Array Value} {fr : Nat × Nat} (hb : W.heap[g]? = some (.cells cs 26 fr)) (o : Nat) (u : Value) : Jn (W.setCell ⟨g, o, none⟩ u) bx by' n U B ksB vb k q vo ksO :=
  ⟨h.out.box hb o u, World.ownsRow.kept h.row (grown_set W g o u) (.inr (row_box h.row hb (by decide))), fun j h1 h2 => World.ownsRow.kept (h.kid j h1 h2) (grown_set W g o u) (.inr (row_box (h.kid j h1 h2) hb (by decide))), h.ne, h.dk, h.db⟩
/-- The k-th list of kids is written over. -/
theorem Jn.grow (h : Jn W bx by' n U B ksB vb k k vo ksO) (hk : k < B.length) (hg : W.grownBy W' (ksB k).ownBlock) : Jn W' bx by' n U B ksB vb k (k + 1) vo ksO := by
  have hk0 := h.kid k (Nat.le_refl _) hk
  refine ⟨⟨World.ownsRow.kept h.out.row hg (row_ne h.out.row hk0 (by decide)), fun i hi => World.ownsRow.kept (h.out.kids i hi) hg (h.dk i k hi (Nat.le_refl _) hk)⟩, World.ownsRow.kept h.row hg (row_ne h.row hk0 (by decide)), fun j h1 h2 => ?_, h.ne, fun i j h1 h2 h3 => h.dk i j h1 (by omega) h3, h.db⟩
  have hj := h.kid j (by omega) h2
  refine World.ownsRow.kept hj hg ?_
  rcases h.db k j (by omega) h2 with e | e
  · rw [e]
    cases (ksB j).ownBlock <;> simp
  · exact .inr (fun e2 => e e2.symm)
/-- One part of B more. -/
theorem Jn.more {w5 : World} {v5 : Value} (h : Jn W bx by' n U B ksB vb k (k + 1) vo ksO) (hk : k < B.length) (hx : OwnI W bx (ksB k) (pt U (n + k)).kids)
    (hr : w5.ownsRow bx 60 4 v5 (n + k + 1) (CP U ksO (n + k) ++ [.int .i64 (pt U (n + k)).kind, .string (pt U (n + k)).text, .int .i64 (pt U (n + k)).num, ksB k])) (hg : W.grownBy w5 vo.ownBlock) (hbl : v5.ownBlock = vo.ownBlock ∨ v5.ownBlock = some W.heap.size) :
    Jn w5 bx by' n U B ksB vb (k + 1) (k + 1) v5 (fun j => if j = n + k then ksB k else ksO j) := by
  refine ⟨OwnP.more h.out hx hr hg, World.ownsRow.kept h.row hg h.ne, fun j h1 h2 => World.ownsRow.kept (h.kid j h1 h2) hg (row_ne (h.kid j h1 h2) h.out.row (by decide)), ?_, fun i j h1 h2 h3 => ?_, h.db⟩
  · rcases hbl with e | e
    · rw [e]; exact h.ne
    · cases hv : vb.ownBlock with
      | none => exact .inl rfl
      | some g =>
        right
        rw [e]
        intro e2
        have := (h.row.lt g hv).2
        cases e2
        omega
  · show (if i = n + k then ksB k else ksO i).ownBlock = none ∨ (if i = n + k then ksB k else ksO i).ownBlock ≠ (ksB j).ownBlock
    by_cases e : i = n + k
    · rw [if_pos e]
      exact h.db k j (by omega) h3
    · rw [if_neg e]
      exact h.dk i j (by omega) h2 h3
end
end Go.Proofs.YtiddnjjaidiohaaGreatDoor.L
