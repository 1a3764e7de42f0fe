import Derived.Test.YtiddnjjaidiohaaGreatDoorSp6
import Derived.Test.YtiddnjjaidiohaaGreatDoorMgAY
import Derived.Test.YtiddnjjaidiohaaGreatDoorKb
namespace Go.Proofs.YtiddnjjaidiohaaGreatDoor.L
open Go.RowKit Go.Shelf
set_option linter.unusedVariables false
/-- What taken asks of a greater tree. -/
structure Tkn (U : List Pt) (sc : Int) (na nb : Nat) (tya tyb : Nat → Int × Int) : Prop where
  scp : sc = 2 ∨ sc = 3
  ok : (ovS U sc).2 = none
  len : U.length = na + nb + 1
  one : ∀ j, j < na → (ovS U sc).1 j = tya j
  two : ∀ j, j < nb → (ovS U sc).1 (na + j) = tyb j
theorem TyO.cut {W : World} {base gt N : Nat} {ty : Nat → Int × Int} (h : TyO W base gt N ty) {o n c : Nat} {ty' : Nat → Int × Int} (hl : o + n ≤ N) (he : ∀ j, j < n → ty (o + j) = ty' j) : TyL W (.slice (some ⟨gt, o * 2, none⟩) n c) n ty' := by
  refine ⟨_, _, rfl, .inr ⟨gt, o * 2, rfl, h.lt.1, fun j hj => ?_⟩⟩
  have h2 := h.ty.2 (o + j) (by omega)
  have e : o * 2 + j * 2 = (o + j) * 2 := by omega
  rw [e, ← he j hj]
  exact h2
set_option maxHeartbeats 16000000 in
set_option maxRecDepth 100000 in
theorem taken_any (a : Option Addr) (U : List Pt) (cap : Nat) (sc : Int) (va vb : Value) (na nb : Nat) (tya tyb : Nat → Int × Int) (w : World) (hU : PLs w a U) (dU : GdT U) (sU : sumK U U.length ≤ 100000) (hg : Gv w) (hva : TyL w va na tya) (hvb : TyL w vb nb tyb) (hna : na ≤ 1000) (hnb : nb ≤ 1000) (ht : Res U 0 0 → Tkn U sc na nb tya tyb) :
    Calls Tryz.prog 17 #[.agg #[.slice a U.length cap], .int .i64 sc, va, vb] w fun e w' => e = .returned (.bool true) ∧ Below w.heap.size w w' := by
  have HB0 := hid (belowA w (.cells #[.slice a U.length cap] 26))
  have HX0 := hid (heap_alloc_new w (.cells #[.slice a U.length cap] 26))
  have HT := hid hU
  have HG := hid hg
  have HVA := hid hva
  have HVB := hid hvb
  obtain ⟨xa, xc, rfl, _⟩ := hva
  obtain ⟨ya, yc, rfl, _⟩ := hvb
  have HTK := hid ht
  have HCP := hid (fun W h => copied_pl a U cap W h dU sU)
  have HCK := hid (fun W h1 h2 => check_any a U cap sc W h1 dU h2)
  have HVO := hid (fun a' cap' W h1 h2 => valid_ok a' U cap' W h1 dU h2)
  have HVN := hid (fun a' cap' W h1 h2 => valid_bad a' U cap' W h1 dU h2)
  have HST := hid same_types
  obtain ⟨N, hN⟩ : ∃ N, N = U.length := ⟨_, rfl⟩
  have HN := hid hN
  rw [← hN] at HB0 HX0 HCP HCK HVO HVN ⊢
  clear hU hg ht hN
  by_cases hr : Res U 0 0
  · have HR := hid hr
    have hk := HTK.out hr
    have HK := hid hk
    have hl := hk.len
    rw [← HN.out] at hl
    have HLN := hid hl
    clear hr hk hl
    go_enter Tryz.func17, Tryz.ntmps17
    go_upto_region 1 with (fail)
    generalize w.alloc (.cells #[.slice a N cap] 26) = X at *
    have x0 := cell_of_one HX0.out
    go_upto_region 3 with (first
      | (go_at_call 10; refine (HCP.out _ (HT.out.low HB0.out)).mono ?_; rintro e w1 ⟨a1, c1, rfl, p1, l1⟩; have P1 := hid p1; have L1 := hid l1; clear p1 l1)
      | (go_at_call 15; refine (HVO.out _ _ _ P1.out.pl HR.out).mono ?_; rintro e w2 ⟨rfl, l2⟩; have L2 := hid l2; clear l2))
    clear x0
    have HB2 := hid (bchS (bchS HB0.out L1.out) L2.out)
    have x0 := cell_of_one (((bchS L1.out L2.out).block _ (lt_blk HX0.out)).trans HX0.out)
    go_upto_region 4 with (go_at_call 12; refine (HCK.out _ (HT.out.low HB2.out).pl (HG.out.low HB2.out)).mono ?_; rintro e w3 ⟨v, ev, rfl, l3, hr3⟩; have R3 := hid hr3; have L3 := hid l3; clear l3 hr3)
    clear x0
    have HB3 := hid (bchS HB2.out L3.out)
    rcases R3.out with ⟨rfl, hsc, hrs, gt, hv, hn, hty⟩ | ⟨rfl, M, rfl, hf⟩
    · rw [← HN.out] at hv hty
      subst hv
      have HTY := hid hty
      clear hsc hrs hn hty
      have e1 : N = na + nb + 1 := HLN.out
      subst e1
      have HSA := hid (fun W (hb : Below w3.heap.size w3 W) => HST.out (.slice (some ⟨gt, 0, none⟩) na (na + nb + 1)) (.slice xa na xc) na tya W (by
        have := (HTY.out.low hb).cut (o := 0) (n := na) (c := na + nb + 1) (ty' := tya) (by omega) (fun j hj => by rw [Nat.zero_add]; exact HK.out.one j hj)
        simpa using this) ((HVA.out.low HB3.out).low hb) (by omega))
      have HSB := hid (fun W (hb : Below w3.heap.size w3 W) => HST.out (.slice (some ⟨gt, na * 2, none⟩) nb (na + nb + 1 - na)) (.slice ya nb yc) nb tyb W ((HTY.out.low hb).cut (by omega) (fun j hj => HK.out.two j hj)) ((HVB.out.low HB3.out).low hb) (by omega))
      clear HST HTY
      go_wp2_with (first
        | (go_at_call 13; refine (HSB.out _ L4.out).mono ?_; rintro e w5 ⟨rfl, l5⟩; have L5 := hid l5; clear l5)
        | (go_at_call 13; refine (HSA.out _ (Below.refl _ _)).mono ?_; rintro e w4 ⟨rfl, l4⟩; have L4 := hid l4; clear l4))
      go_ret
      exact ⟨rfl, bchS (bchS HB3.out L4.out) L5.out⟩
    · exfalso
      rcases hf with ⟨⟨h2, h3⟩, _⟩ | ⟨_, ⟨M7, c, i, _, _, hr, h0⟩ | ⟨_, c, a1, ho, _⟩⟩
      · rcases HK.out.scp with h | h
        · exact h2 h
        · exact h3 h
      · exact h0 (res_one hr HR.out).1
      · rw [HK.out.ok] at ho; cases ho
  · have HR := hid hr
    clear hr
    go_enter Tryz.func17, Tryz.ntmps17
    go_upto_region 1 with (fail)
    generalize w.alloc (.cells #[.slice a N cap] 26) = X at *
    have x0 := cell_of_one HX0.out
    go_wp2_with (first
      | (go_at_call 10; refine (HCP.out _ (HT.out.low HB0.out)).mono ?_; rintro e w1 ⟨a1, c1, rfl, p1, l1⟩; have P1 := hid p1; have L1 := hid l1; clear p1 l1)
      | (go_at_call 15; refine (HVN.out _ _ _ P1.out.pl HR.out).mono ?_; rintro e w2 ⟨M, rfl, l2⟩; have L2 := hid l2; clear l2; simp only [fv]))
    go_ret
    exact ⟨rfl, bchS (bchS HB0.out L1.out) L2.out⟩
end Go.Proofs.YtiddnjjaidiohaaGreatDoor.L
namespace Go.Proofs.YtiddnjjaidiohaaGreatDoor.L
open Go.RowKit Go.Shelf
set_option linter.unusedVariables false
set_option maxHeartbeats 4000000 in
set_option maxRecDepth 100000 in
theorem copied_x (a : Option Addr) (T : List Pt) (cap : Nat) (w : World) (hT : PLs w a T) (hG : GdT T) (hsl : T.length ≤ 100000) (hsk : ∀ j, j < T.length → (pt T j).kids.length ≤ 17592186044000) :
    Calls Tryz.prog 10 #[.agg #[.slice a T.length cap]] w fun e w' => ∃ a' cap' ks, e = .returned (.agg #[.slice a' T.length cap']) ∧ OwnP w' w.heap.size (.slice a' T.length cap') T ks T.length ∧ Below w.heap.size w w' := by
  obtain ⟨L, hLe⟩ : ∃ L, L = T.length := ⟨_, rfl⟩
  have HT := hid hT
  have HL := hid hLe
  have HG := hid hG
  have hL : L ≤ 140737488355328 := by rw [hLe]; exact hG.1
  have HSK := hid hsk
  rw [← hLe] at HSK hsl ⊢
  have hb0 := belowA w (.cells #[.slice a L cap] 26)
  have hb1 := hb0.alloc (by simp) (.cells #[.slice none 0 0] 26)
  have HB1 := hid hb1
  have HX0 := hid (show Boxed ((w.alloc (.cells #[.slice a L cap] 26)).alloc (.cells #[.slice none 0 0] 26)) w.heap.size 26 (.slice a L cap) from (Boxed.new w _ _).alloc _)
  have HX1 := hid (show Boxed ((w.alloc (.cells #[.slice a L cap] 26)).alloc (.cells #[.slice none 0 0] 26)) (w.heap.size + 1) 26 (.slice none 0 0) by
    have := Boxed.new (w.alloc (.cells #[.slice a L cap] 26)) 26 (.slice none 0 0)
    rwa [World.size_alloc] at this)
  have HXS := hid (show ((w.alloc (.cells #[.slice a L cap] 26)).alloc (.cells #[.slice none 0 0] 26)).heap.size = w.heap.size + 1 + 1 by simp)
  clear hT hLe hG hb0 hb1 hsk
  go_enter Tryz.func10, Tryz.ntmps10
  go_upto_region 1 with (fail)
  have HTX := hid (HT.out.low HB1.out)
  generalize (w.alloc (.cells #[.slice a L cap] 26)).alloc (.cells #[.slice none 0 0] 26) = X at *
  have xt := HX0.out.cell
  have hL5 : L ≤ 100000 := hsl
  have HW1 := HB1
  have HY0 := HX0
  have HY1 := HX1
  have HWS := hid (show w.heap.size + 1 < X.heap.size from HY1.out.lt)
  have HLT := hid (Nat.lt_of_succ_lt HWS.out)
  go_wp2_with fail
  go_loopw [3, 9] (fun v i wr => ∃ (k : Nat) (ks : Nat → Value), k ≤ L ∧ i = .int .i64 (k : Int) ∧ Hid (Below X.heap.size X wr) ∧ Hid (OwnP wr X.heap.size v T ks k)) (fun _ i _ => L - (intOf i).toNat)
  case atStart => exact ⟨0, fun _ => undef, Nat.zero_le _, rfl, hid (Below.refl _ _), hid ⟨⟨rfl, .inl ⟨rfl, rfl⟩⟩, fun j hj => absurd hj (Nat.not_lt_zero j)⟩⟩
  case round =>
    obtain ⟨k, ks, hk, rfl, HB, HO⟩ := hrel
    have xt := (show Boxed wr w.heap.size 26 (.slice a L cap) from boxed_low HY0.out HB.out).cell
    by_cases hkl : k < L
    · have hki : (k : Int) < (L : Int) := by omega
      have hk0 : (0 : Int) ≤ (k : Int) := by omega
      have hts := HT.out.low (HW1.out.trans (HB.out.mono (Nat.le_of_lt HLT.out)))
      rcases hts with h0 | ⟨b2, o2, rfl, hb2, hc2⟩
      · have := HL.out; omega
      obtain ⟨ka, kc, q0, q1, q2, q3, rk, hno⟩ := hc2 k (by rw [← HL.out]; exact hkl)
      have hgl := HSK.out k hkl
      obtain ⟨p, hp⟩ : ∃ p, p = pt T k := ⟨_, rfl⟩
      rw [← hp] at q0 q1 q2 q3 rk hgl
      have HPT := hid hp
      obtain ⟨kd, tx, nu, zs⟩ := p
      simp only at q0 q1 q2 q3 rk hgl
      obtain ⟨n, hn⟩ : ∃ n, n = zs.length := ⟨_, rfl⟩
      rw [← hn] at q3 hgl
      have HN := hid hn
      have RK := hid rk
      have HNO := hid hno
      have hk4 : ((k : Int) * 4).toNat = k * 4 := by omega
      have hvb := belowA wr (.cells #[.int .i64 kd, .string tx, .int .i64 nu, .slice ka n kc] 60)
      have HVB := hid hvb
      have HVP := hid (heap_alloc_new wr (.cells #[.int .i64 kd, .string tx, .int .i64 nu, .slice ka n kc] 60))
      have HVS := hid (show (wr.alloc (.cells #[.int .i64 kd, .string tx, .int .i64 nu, .slice ka n kc] 60)).heap.size = wr.heap.size + 1 by simp)
      clear hc2 rk hno hp hn hvb
      go_upto_region 5 with (fail)
      have RV := hid (RK.out.low HVB.out (Nat.le_refl _))
      have HP9 := hid (show Below wr.heap.size wr (wr.alloc (.cells #[.int .i64 kd, .string tx, .int .i64 nu, .slice ka n kc] 60)) from HVB.out)
      clear q0 q1 q2 q3 hb2 xt
      generalize wr.alloc (.cells #[.int .i64 kd, .string tx, .int .i64 nu, .slice ka n kc] 60) = V at *
      have HWB := hid (show X.heap.size ≤ wr.heap.size from HB.out.size)
      generalize hPe : wr.heap.size = P at *
      have HPE := hid hPe
      clear hPe
      have x3 := (cells4 HVP.out).2.2.2
      have N0 := hid (show OwnI V V.heap.size (.slice none 0 0) [] from ⟨rfl, .inl ⟨rfl, rfl⟩⟩)
      have HPV := hid (show P < V.heap.size by rw [HVS.out]; exact Nat.lt_succ_self _)
      have HBD := hid (show ([] : List Int).length + zs.length ≤ 17592186044000 by rw [List.length_nil, ← HN.out]; omega)
      have hPne : P ≠ V.heap.size := Nat.ne_of_lt HPV.out
      go_wp2_with (at_builtin; refine append_src rfl _ _ rfl V.heap.size _ [] rfl N0.out ka n kc zs HN.out rfl HNO.out RV.out HBD.out (Nat.le_refl _) ?_)
      intro v1 w3 o1 g1
      obtain ⟨ka1, kc1, rfl⟩ := own_form o1
      have hk3 : w3.heap[P]? = V.heap[P]? := g1.block P HPV.out (by simp [Value.ownBlock])
      have e3 : w3.heap[P]? = some (.cells #[.int .i64 kd, .string tx, .int .i64 nu, .slice ka n kc] 60 (0, 0)) := hk3.trans HVP.out
      have f3 : w3.frozen? ⟨P, 3, none⟩ = false := by simp [World.frozen?, e3]
      obtain ⟨d0, d1, d2, d3⟩ := cells4 e3
      have HE3 := hid e3
      have O1 := hid o1
      have G1 := hid g1
      clear o1 g1 hk3 e3 x3
      go_upto_region 6 with (fail)
      have e4 : (w3.setCell ⟨P, 3, none⟩ (.slice ka1 zs.length kc1)).heap[P]? = some (.cells #[.int .i64 kd, .string tx, .int .i64 nu, .slice ka1 zs.length kc1] 60 (0, 0)) := by
        rw [setCell_eq_setRow _ _ _ _ _ _ _ HE3.out, setRow_heap _ _ _ _ _ _ HE3.out]
        rfl
      have b3 : Below V.heap.size V w3 := (Below.refl _ _).grown G1.out (Nat.le_refl _) (fun k hk => by simp [Value.ownBlock] at hk)
      have b4 : Below P wr (w3.setCell ⟨P, 3, none⟩ (.slice ka1 zs.length kc1)) := (HP9.out.trans (b3.mono (Nat.le_of_lt HPV.out))).setCell (p := ⟨P, 3, none⟩) (Nat.le_refl _) _
      have HB4 := hid b4
      have HO4 := hid (HO.out.low (show Below wr.heap.size wr _ by rw [HPE.out]; exact b4))
      have OK4 := hid (show OwnI (w3.setCell ⟨P, 3, none⟩ (.slice ka1 zs.length kc1)) X.heap.size (.slice ka1 zs.length kc1) zs from own_mono (ownsRow_setCell_below O1.out (a := ⟨P, 3, none⟩) HPV.out _) (by have := HWB.out; have := HPV.out; omega))
      have ⟨x0, x1, x2, x3⟩ := cells4 e4
      have HW4 := hid (show X.heap.size ≤ (w3.setCell ⟨P, 3, none⟩ (.slice ka1 zs.length kc1)).heap.size by have h1 := b4.size; have h2 := HWB.out; rw [HPE.out] at h1; omega)
      clear e4 b3 b4 d0 d1 d2 d3 f3
      generalize w3.setCell ⟨P, 3, none⟩ (.slice ka1 zs.length kc1) = W4 at *
      obtain ⟨i0, hi, hz0, hz1, hz2⟩ := info_parts infoP
      have HRW := hid (HO4.out.row.alloc (.cells #[.int .i64 kd, .string tx, .int .i64 nu, .slice ka1 zs.length kc1] 60))
      have HFN := hid (cell_four_new W4 (.int .i64 kd) (.string tx) (.int .i64 nu) (.slice ka1 zs.length kc1) 60)
      have HA4 := hid (belowA W4 (.cells #[.int .i64 kd, .string tx, .int .i64 nu, .slice ka1 zs.length kc1] 60))
      have HO5 := hid (HO4.out.low HA4.out)
      have OK5 := hid (own_low OK4.out HA4.out)
      go_wp2_with (at_builtin; refine wpList_append_own _ rfl _ _ 24 rfl X.heap.size 60 i0 (.agg #[.int .i64 0, .string ByteArray.empty, .int .i64 0, .slice none 0 0]) 4 56 Tryz.underlying24 hi hz0 hz1 hz2 rfl (by decide) _ _ _ rfl HRW.out ⟨W4.heap.size, 0, none⟩ 1 1 [.int .i64 kd, .string tx, .int .i64 nu, .slice ka1 zs.length kc1] rfl rfl HFN.out (fun x hx => by simp at hx; rcases hx with rfl | rfl | rfl | rfl <;> rfl) (by unfold maxLen; omega) (by omega) (Nat.le_trans HW4.out HA4.out.size) ?_)
      intro v5 w5 hr5 hg5 hn5
      have HM := hid (OwnP.more HO5.out (show OwnI _ X.heap.size (.slice ka1 zs.length kc1) (pt T k).kids by rw [← HPT.out]; exact OK5.out) (by rw [← HPT.out]; exact hr5) hg5)
      have HB5 := hid (show Below X.heap.size X w5 by
        have h1 : Below X.heap.size X W4 := HB.out.trans (HB4.out.mono HWB.out)
        refine (h1.trans (HA4.out.mono HW4.out)).grown hg5 (Nat.le_trans HW4.out HA4.out.size) (fun k hk => ?_)
        exact (HO5.out.row.lt k hk).1)
      clear hr5 hg5 hn5 hi hz0 hz1 hz2 x0 x1 x2 x3
      go_wp2_with fail
      refine ⟨⟨k + 1, _, by omega, by simp, HB5, HM⟩, ?_⟩
      show L - ((k : Int) + 1).toNat < L - ((k : Int)).toNat
      omega
    · have hki : ¬ ((k : Int) < (L : Int)) := by omega
      have ekL : k = L := by omega
      subst ekL
      have hy1 := boxed_low HY1.out HB.out
      have xc := hy1.cell
      have xf := hy1.frozen
      have HXC := hid hy1
      clear hy1
      have HO2 := hid (HO.out.set_low (p := ⟨w.heap.size + 1, 0, none⟩) HWS.out u3)
      rw [HL.out] at HO2
      obtain ⟨a', cap', hv, hp⟩ := HO2.out.pl
      rw [← HL.out] at hv HO2
      clear hp
      subst hv
      have HP := hid (HO2.out.mono (base' := w.heap.size) (Nat.le_of_lt HLT.out))
      have HW3 := hid ((HW1.out.trans (HB.out.mono (Nat.le_of_lt HLT.out))).setCell (p := ⟨w.heap.size + 1, 0, none⟩) (Nat.le_succ _) (.slice a' k cap'))
      go_wp2_with fail
      exact ⟨rfl, .agg #[.slice a' k cap'], results_cell_row Tryz.results10 _ _ (w.heap.size + 1) 26 #[.slice a' k cap'] (0, 0) _ rfl (HXC.out.set _) Tryz.underlying26 rfl (by kernel_rfl), a', cap', rfl, ⟨ks, HP.out⟩, HW3.out⟩
theorem copied_xp (a : Option Addr) (T : List Pt) (cap : Nat) (w : World) (hT : PLs w a T) (hG : GdT T) (hsl : T.length ≤ 100000) (hsk : ∀ j, j < T.length → (pt T j).kids.length ≤ 17592186044000) :
    Calls Tryz.prog 10 #[.agg #[.slice a T.length cap]] w fun e w' => ∃ a' cap', e = .returned (.agg #[.slice a' T.length cap']) ∧ PLs w' a' T ∧ Below w.heap.size w w' := by
  refine (copied_x a T cap w hT hG hsl hsk).mono ?_
  rintro e w' ⟨a', cap', ks, rfl, ho, hb⟩
  obtain ⟨a2, c2, e2, hp⟩ := ho.pl
  cases e2
  exact ⟨a', cap', rfl, hp, hb⟩
def sK (T : List Pt) : Nat → Nat
  | 0 => 0
  | k + 1 => sK T k + (pt T k).kids.length
theorem sumK_is (T : List Pt) : ∀ k, sumK T k = T.length + sK T k
  | 0 => rfl
  | k + 1 => by simp only [sumK, sK, sumK_is T k]; omega
theorem sK_emb {A U : List Pt} {o : Nat} (he : Emb A U o) : ∀ j, j ≤ A.length → sK U (o + j) = sK U o + sK A j
  | 0, _ => rfl
  | j + 1, h => by
    have ih := sK_emb he j (by omega)
    show sK U (o + j) + (pt U (o + j)).kids.length = sK U o + (sK A j + (pt A j).kids.length)
    rw [ih, he.at' j (by omega)]
    simp only [shf, List.length_map]
    omega
theorem un_sum (k : Int) (tx : ByteArray) (A : List Pt) : sumK (unT k tx A) (unT k tx A).length = sumK A A.length + 2 := by
  rw [sumK_is, sumK_is, un_len]
  have h := sK_emb (un_emb k tx A) A.length (Nat.le_refl _)
  rw [Nat.zero_add] at h
  show A.length + 1 + (sK (unT k tx A) A.length + (pt (unT k tx A) A.length).kids.length) = _
  rw [h, un_top]
  simp only [sK, List.length_cons, List.length_nil]
  omega
theorem jn_sum (k : Int) (A B : List Pt) : sumK (jnT k A B) (jnT k A B).length = sumK A A.length + sumK B B.length + 3 := by
  rw [sumK_is, sumK_is, sumK_is, jn_len]
  have h := sK_emb (jn_emb k A B) A.length (Nat.le_refl _)
  rw [Nat.zero_add] at h
  have h2 := sK_emb (jn_emb2 k A B) B.length (Nat.le_refl _)
  show A.length + B.length + 1 + (sK (jnT k A B) (A.length + B.length) + (pt (jnT k A B) (A.length + B.length)).kids.length) = _
  rw [h2, h, jn_top]
  simp only [sK, List.length_cons, List.length_nil]
  omega
theorem gdt_of {T : List Pt} (h : sumK T T.length ≤ 100000) : GdT T := by
  have h0 := sumK_is T T.length
  refine ⟨by omega, fun j hj => ?_⟩
  have := sumK_kid T hj
  omega
theorem asO_top {k : Int} (hk : k = 3 ∨ k = 4 ∨ k = 5) (sc : Int) (tx : ByteArray) (t : Int) : asO k 0 sc tx t = none := by
  rcases hk with rfl | rfl | rfl <;> simp [asO, knB, nmB]
end Go.Proofs.YtiddnjjaidiohaaGreatDoor.L
namespace Go.Proofs.YtiddnjjaidiohaaGreatDoor.L.Kp
open Go.RowKit Go.Shelf
set_option linter.unusedVariables false
theorem append_op {w : World} {o : Oper} {a : Act} {K : Act → World → Prop} {Q : Exit → Act → World → Prop} (s x : Operand)
    (ho : o.op = .call { callee := .builtin .append, args := #[s, x], argTypes := #[58, 58] })
    (base : Nat) (v : Value) (zs : List Int) (hs : a.eval s = v) (hown : OwnI w base v zs) (xa : Option Addr) (n xc : Nat) (ys : List Int) (hn : n = ys.length) (hx : a.eval x = .slice xa n xc) (hno : xa = none → xc = 0) (hsrc : RdI w xa ys) (hbound : zs.length + ys.length ≤ 17592186044000) (hbase : base ≤ w.heap.size)
    (h : ∀ v'' w', OwnI w' base v'' (zs ++ ys) → w.grownBy w' v.ownBlock → K (a.put o.dst v'') w') : o.wp Tryz.prog a w K Q := by
  obtain ⟨i0, hi, hz0, hz1, hz2⟩ := info_parts info3
  subst hn
  cases xa with
  | none =>
    have hl : ys.length = 0 := by
      rcases hsrc with h | ⟨b, off, e, _⟩
      · exact h
      · cases e
    have he : ys = [] := List.length_eq_zero_iff.1 hl
    subst he
    rw [hno rfl] at hx
    have hrun := run_append_owned_none (P := Tryz.prog) (w := w) base 58 o.type 3 i0 1 Tryz.underlying58 hi v _ _ hown
    have hx' : a.eval x = .slice none 0 0 := hx
    have h' := h v w (by rw [List.append_nil]; exact hown) ⟨rfl, rfl, rfl, Nat.le_refl _, fun _ _ _ => rfl⟩
    unfold Oper.wp
    simp [execOp, ho, resolve, invoke, builtin, hs, hx', hrun, Result.andThen]
    exact h'
  | some ad =>
    refine wp_append_own w s x 58 ho base 3 i0 (.int .i64 0) 1 8 Tryz.underlying58 hi hz0 hz1 hz2 rfl (by decide) v _ _ hs hown ad ys.length xc (ys.map (Value.int .i64)) hx (by simp) ?_ (by intro u hu; simp at hu; obtain ⟨z, _, rfl⟩ := hu; rfl) (by unfold maxLen; omega) (by omega) hbase ?_
    · intro j u hu
      rw [List.getElem?_map] at hu
      by_cases hj : j < ys.length
      · rw [List.getElem?_eq_getElem hj] at hu
        cases hu
        rcases hsrc with h0 | ⟨b, off, e, hb, hc⟩
        · omega
        · cases e
          have := hc j hj
          rw [List.getD_eq_getElem?_getD, List.getElem?_eq_getElem hj] at this
          rw [Go.WideShapes.add_plain]
          exact this
      · rw [List.getElem?_eq_none (by omega)] at hu
        cases hu
    · intro v'' w' ho' hg _
      refine h v'' w' ?_ hg
      unfold OwnI
      rw [List.length_append, List.map_append]
      exact ho'
/-- Only the blocks p and q of what stood may change. -/
structure But2 (p q : Option Nat) (W W' : World) : Prop where
  os : W'.os = W.os
  tape : W'.tape = W.tape
  output : W'.output = W.output
  size : W.heap.size ≤ W'.heap.size
  block : ∀ j, j < W.heap.size → some j ≠ p → some j ≠ q → W'.heap[j]? = W.heap[j]?
theorem But2.refl (p q : Option Nat) (W : World) : But2 p q W W := ⟨rfl, rfl, rfl, Nat.le_refl _, fun _ _ _ _ => rfl⟩
theorem But2.trans {p q : Option Nat} {A B C : World} (h : But2 p q A B) (k : But2 p q B C) : But2 p q A C :=
  ⟨k.os.trans h.os, k.tape.trans h.tape, k.output.trans h.output, Nat.le_trans h.size k.size, fun j hj h1 h2 => (k.block j (Nat.lt_of_lt_of_le hj h.size) h1 h2).trans (h.block j hj h1 h2)⟩
theorem But2.of_below {p q : Option Nat} {A B : World} (h : Below A.heap.size A B) : But2 p q A B := ⟨h.os, h.tape, h.output, h.size, fun j hj _ _ => h.block j hj⟩
theorem But2.of_left {p q : Option Nat} {A B : World} (h : A.grownBy B p) : But2 p q A B := ⟨h.os, h.tape, h.output, h.size, fun j hj h1 _ => h.block j hj h1⟩
theorem But2.of_right {p q : Option Nat} {A B : World} (h : A.grownBy B q) : But2 p q A B := ⟨h.os, h.tape, h.output, h.size, fun j hj _ h1 => h.block j hj h1⟩
theorem But2.below {p q : Option Nat} {A B : World} {n : Nat} (h : But2 p q A B) (hn : n ≤ A.heap.size) (hp : ∀ k, p = some k → n ≤ k) (hq : ∀ k, q = some k → n ≤ k) : Below n A B :=
  ⟨h.os, h.tape, h.output, h.size, fun k hk => h.block k (by omega) (fun e => by have := hp k e.symm; omega) (fun e => by have := hq k e.symm; omega)⟩
/-- A row whose type is neither's stays. -/
theorem But2.row {p q : Option Nat} {A C : World} {b s n : Nat} {e : TypeId} {v : Value} {xs : List Value} (h : But2 p q A C) (hr : A.ownsRow b e s v n xs) (h1 : v.ownBlock = none ∨ v.ownBlock ≠ p) (h2 : v.ownBlock = none ∨ v.ownBlock ≠ q) : C.ownsRow b e s v n xs := by
  refine ⟨hr.1, ?_⟩
  rcases hr.2 with e1 | ⟨g, cap, cur, rfl, hb, hg, h3⟩
  · exact .inl e1
  · refine .inr ⟨g, cap, cur, rfl, hb, (h.block g (lt_blk hg) ?_ ?_).trans hg, h3⟩
    · rcases h1 with h1 | h1
      · cases h1
      · exact h1
    · rcases h2 with h2 | h2
      · cases h2
      · exact h2
theorem fv_set (xs : List Value) (k j : Nat) (v : Value) (hk : k < xs.length) : fv_ (xs.set k v) j = if j = k then v else fv_ xs j := by
  unfold fv_
  rw [List.getD_eq_getElem?_getD, List.getD_eq_getElem?_getD]
  by_cases e : j = k
  · rw [if_pos e, e, List.getElem?_set_self hk]
    rfl
  · rw [if_neg e, List.getElem?_set_ne (by omega)]
def mks : List Int := [-91, -92, -93]
/-- A slice cut to its first n. -/
def cutV (v : Value) (n : Nat) : Value := match v with | .slice a _ c => .slice a n c | v => v
theorem make_room (n : Nat) (hn : n ≤ 100000) (w : World) : (Instr.makeSlice 58 (.int .i64 0) (.int .i64 ((n : Int) + 3))).run Tryz.prog w = .ok (.slice (some ⟨w.heap.size, 0, none⟩) 0 (n + 3)) (w.alloc (.cells (madeCells #[.int .i64 0] (n + 3)) 3)) := by
  obtain ⟨i, hi, hz, hs, hb⟩ := info_parts info3
  have h := run_makeSlice (P := Tryz.prog) w 58 3 i (.int .i64 0) Tryz.underlying58 hi hz .i64 .i64 0 (n + 3) (by omega) (by omega) (by rw [hs]; omega) (by rw [hb]; omega) (by omega)
  rw [hs] at h
  have e : ((n : Int) + 3).toNat = n + 3 := by omega
  simpa [Value.cells, e] using h
theorem own_room (w : World) (n base : Nat) (hn : n ≤ 100000) (hb : base ≤ w.heap.size) : OwnI (w.alloc (.cells (madeCells #[.int .i64 0] (n + 3)) 3)) base (.slice (some ⟨w.heap.size, 0, none⟩) 0 (n + 3)) [] :=
  ⟨rfl, .inr ⟨w.heap.size, n + 3, madeCells #[.int .i64 0] (n + 3), rfl, hb, heap_alloc_new w _, Nat.zero_le _, by unfold maxLen; omega, by rw [size_madeCells]; omega, rfl⟩⟩
theorem infoI : (Tryz.prog.info? 58).map (fun i => (i.zero, i.size, i.bytes)) = some (some (.slice none 0 0), 1, 24) := by kernel_rfl
theorem make_rooms (n : Nat) (hn : n ≤ 100000) (w : World) : (Instr.makeSlice 63 (.int .i64 (n : Int)) (.int .i64 (n : Int))).run Tryz.prog w = .ok (.slice (some ⟨w.heap.size, 0, none⟩) n n) (w.alloc (.cells (madeCells #[.slice none 0 0] n) 58)) := by
  obtain ⟨i, hi, hz, hs, hb⟩ := info_parts infoI
  have h := run_makeSlice (P := Tryz.prog) w 63 58 i (.slice none 0 0) Tryz.underlying63 hi hz .i64 .i64 n n (by omega) (by omega) (by rw [hs]; omega) (by rw [hb]; omega) (by omega)
  rw [hs] at h
  simpa [Value.cells] using h
theorem own_rooms (w : World) (n base : Nat) (hn : n ≤ 100000) (hb : base ≤ w.heap.size) : (w.alloc (.cells (madeCells #[.slice none 0 0] n) 58)).ownsRow base 58 1 (.slice (some ⟨w.heap.size, 0, none⟩) n n) n (List.replicate n (.slice none 0 0)) := by
  have h := World.ownsRow_lit (base := base) (e := 58) (size := 1) w (madeCells #[.slice none 0 0] n) n hb (by unfold maxLen; omega) (by rw [size_madeCells]; simp)
  rw [← toList_madeCells_one]
  exact h
/-- One cell of a row of one's own is written over. -/
theorem row_set {W : World} {base e s n g cap : Nat} {xs : List Value} (h : W.ownsRow base e s (.slice (some ⟨g, 0, none⟩) n cap) n xs) (i : Nat) (hi : i < n * s) (u : Value) : (W.setCell ⟨g, i, none⟩ u).ownsRow base e s (.slice (some ⟨g, 0, none⟩) n cap) n (xs.set i u) := by
  obtain ⟨h1, h2⟩ := h
  rcases h2 with ⟨e1, _⟩ | ⟨g', cap', cur, e1, hb, hg, h3, h4, h5, h6⟩
  · cases e1
  · cases e1
    refine ⟨by rw [List.length_set]; exact h1, .inr ⟨g, cap, cur.setIfInBounds i u, rfl, hb, Ap.set_block _ hg, h3, h4, by simp; exact h5, ?_⟩⟩
    rw [← h6]
    simp only [Array.toList_setIfInBounds]
    exact List.take_set ..
theorem row_frz {W : World} {base e s n g cap : Nat} {xs : List Value} (h : W.ownsRow base e s (.slice (some ⟨g, 0, none⟩) n cap) n xs) (i : Nat) : W.frozen? ⟨g, i, none⟩ = false := by
  rcases h.2 with ⟨e1, _⟩ | ⟨g', cap', cur, e1, hb, hg, h3⟩
  · cases e1
  · cases e1
    simp [World.frozen?, hg]
theorem row_cell {W : World} {base e s n g cap : Nat} {xs : List Value} (h : W.ownsRow base e s (.slice (some ⟨g, 0, none⟩) n cap) n xs) (i : Nat) (hi : i < n * s) : W.cell? ⟨g, i, none⟩ = xs[i]? := by
  rcases h.2 with ⟨e1, _⟩ | ⟨g', cap', cur, e1, hb, hg, h3, h4, h5, h6⟩
  · cases e1
  · cases e1
    rw [cell_of_row W g i _ _ _ hg, ← h6, List.getElem?_take_of_lt hi]
    simp
theorem rd_mks (w : World) : RdI (w.alloc (.cells #[.int .i64 (-91), .int .i64 (-92), .int .i64 (-93)] 3)) (some ⟨w.heap.size, 0, none⟩) mks := by
  refine .inr ⟨w.heap.size, 0, rfl, by simp, fun j hj => ?_⟩
  rw [cell_of_row _ _ _ _ _ _ (heap_alloc_new w _)]
  have hj3 : j < 3 := hj
  match j, hj3 with
  | 0, _ => rfl
  | 1, _ => rfl
  | 2, _ => rfl
theorem rd_grown {W W' : World} {g : Nat} {zs : List Int} {row : Option Nat} (h : RdI W (some ⟨g, 0, none⟩) zs) (hg : W.grownBy W' row) (hne : some g ≠ row) : RdI W' (some ⟨g, 0, none⟩) zs := by
  rcases h with h | ⟨b, off, e, hb, hc⟩
  · exact .inl h
  · cases e
    exact .inr ⟨g, 0, rfl, Nat.lt_of_lt_of_le hb hg.size, fun j hj => (World.cell?_of_block (w := W) (a := ⟨g, 0 + j, none⟩) (hg.block g hb hne)).trans (hc j hj)⟩
theorem blk_ne {W : World} {base e e' s n g cap m : Nat} {xs : List Value} {cs : Array Value} (h : W.ownsRow base e s (.slice (some ⟨g, 0, none⟩) n cap) n xs) (hx : W.heap[m]? = some (.cells cs e' (0, 0))) (hne : e ≠ e') : m ≠ g := by
  rcases h.2 with ⟨e1, _⟩ | ⟨g', cap', cur, e1, hb, hg, h3⟩
  · cases e1
  · cases e1
    intro e2
    subst e2
    rw [hx] at hg
    have := Option.some.inj hg
    simp at this
    exact hne this.2.symm
theorem OwnP.keep {W W' : World} {base g n : Nat} {v : Value} {T : List Pt} {ks : Nat → Value} (h : OwnP W base v T ks n) (hg : W.grownBy W' (some g)) (h1 : v.ownBlock = none ∨ v.ownBlock ≠ some g) (h2 : ∀ j, j < n → (ks j).ownBlock = none ∨ (ks j).ownBlock ≠ some g) : OwnP W' base v T ks n :=
  ⟨World.ownsRow.kept h.row hg h1, fun j hj => World.ownsRow.kept (h.kids j hj) hg (h2 j hj)⟩
/-- A row of another type than the block that is written. -/
theorem row_off {W : World} {base e e' s n g : Nat} {v : Value} {xs : List Value} {cs : Array Value} (h : W.ownsRow base e s v n xs) (hx : W.heap[g]? = some (.cells cs e' (0, 0))) (hne : e ≠ e') : v.ownBlock = none ∨ v.ownBlock ≠ some g := by
  rcases h.2 with ⟨rfl, _⟩ | ⟨g', cap', cur, rfl, hb, hg, h3⟩
  · exact .inl rfl
  · right
    intro e2
    have e3 : g' = g := by simpa [Value.ownBlock] using e2
    rw [e3, hx] at hg
    have := Option.some.inj hg
    simp at this
    exact hne this.2.symm
theorem row_heap {W : World} {base e s n g cap : Nat} {xs : List Value} (h : W.ownsRow base e s (.slice (some ⟨g, 0, none⟩) n cap) n xs) : ∃ cs, W.heap[g]? = some (.cells cs e (0, 0)) := by
  rcases h.2 with ⟨e1, _⟩ | ⟨g', cap', cur, e1, hb, hg, h3⟩
  · cases e1
  · cases e1
    exact ⟨cur, hg⟩
theorem CP_set (T : List Pt) (ks : Nat → Value) (j : Nat) (v : Value) : ∀ (k : Nat), j < k → (CP T ks k).set (j * 4 + 3) v = CP T (fun i => if i = j then v else ks i) k
  | k + 1, h => by
    simp only [CP]
    by_cases e : j < k
    · rw [List.set_append_left _ _ (by rw [CP_len]; omega), CP_set T ks j v k e, if_neg (by omega)]
    · have : j = k := by omega
      subst this
      rw [List.set_append_right _ _ (by rw [CP_len]; omega), CP_len, if_pos rfl]
      have e1 : CP T (fun i => if i = j then v else ks i) j = CP T ks j := CP_congr T (fun i hi => if_neg (by omega))
      rw [e1]
      have e2 : j * 4 + 3 - j * 4 = 3 := by omega
      rw [e2]
      rfl
end Go.Proofs.YtiddnjjaidiohaaGreatDoor.L.Kp
