import Derived.Test.YtiddnjjaidiohaaGreatDoorMgBB
namespace Go.Proofs.YtiddnjjaidiohaaGreatDoor.L
open Go.RowKit Go.Shelf
set_option linter.unusedVariables false
set_option maxHeartbeats 4000000 in
set_option maxRecDepth 100000 in
theorem copied_x (a : Option Addr) (T : List Pt) (cap : Nat) (w : World) (hT : PLs w a T) (hG : GdT T) (hsl : T.length ≤ 100000) (hsk : ∀ j, j < T.length → (pt T j).kids.length ≤ 17592186044000) :
    Calls Tryz.prog 10 #[.agg #[.slice a T.length cap]] w fun e w' => ∃ a' cap' ks, e = .returned (.agg #[.slice a' T.length cap']) ∧ OwnP w' w.heap.size (.slice a' T.length cap') T ks T.length ∧ Below w.heap.size w w' := by
  obtain ⟨L, hLe⟩ : ∃ L, L = T.length := ⟨_, rfl⟩
  have HT := hid hT
  have HL := hid hLe
  have HG := hid hG
  have hL : L ≤ 140737488355328 := by rw [hLe]; exact hG.1
  have HSK := hid hsk
  rw [← hLe] at HSK hsl ⊢
  have hb0 := belowA w (.cells #[.slice a L cap] 26)
  have hb1 := hb0.alloc (by simp) (.cells #[.slice none 0 0] 26)
  have HB1 := hid hb1
  have HX0 := hid (show Boxed ((w.alloc (.cells #[.slice a L cap] 26)).alloc (.cells #[.slice none 0 0] 26)) w.heap.size 26 (.slice a L cap) from (Boxed.new w _ _).alloc _)
  have HX1 := hid (show Boxed ((w.alloc (.cells #[.slice a L cap] 26)).alloc (.cells #[.slice none 0 0] 26)) (w.heap.size + 1) 26 (.slice none 0 0) by
    have := Boxed.new (w.alloc (.cells #[.slice a L cap] 26)) 26 (.slice none 0 0)
    rwa [World.size_alloc] at this)
  have HXS := hid (show ((w.alloc (.cells #[.slice a L cap] 26)).alloc (.cells #[.slice none 0 0] 26)).heap.size = w.heap.size + 1 + 1 by simp)
  clear hT hLe hG hb0 hb1 hsk
  go_enter Tryz.func10, Tryz.ntmps10
  go_upto_region 1 with (fail)
  have HTX := hid (HT.out.low HB1.out)
  generalize (w.alloc (.cells #[.slice a L cap] 26)).alloc (.cells #[.slice none 0 0] 26) = X at *
  have xt := HX0.out.cell
  have hL5 : L ≤ 100000 := hsl
  have HW1 := HB1
  have HY0 := HX0
  have HY1 := HX1
  have HWS := hid (show w.heap.size + 1 < X.heap.size from HY1.out.lt)
  have HLT := hid (Nat.lt_of_succ_lt HWS.out)
  go_wp2_with fail
  go_loopw [3, 9] (fun v i wr => ∃ (k : Nat) (ks : Nat → Value), k ≤ L ∧ i = .int .i64 (k : Int) ∧ Hid (Below X.heap.size X wr) ∧ Hid (OwnP wr X.heap.size v T ks k)) (fun _ i _ => L - (intOf i).toNat)
  case atStart => exact ⟨0, fun _ => undef, Nat.zero_le _, rfl, hid (Below.refl _ _), hid ⟨⟨rfl, .inl ⟨rfl, rfl⟩⟩, fun j hj => absurd hj (Nat.not_lt_zero j)⟩⟩
  case round =>
    obtain ⟨k, ks, hk, rfl, HB, HO⟩ := hrel
    have xt := (show Boxed wr w.heap.size 26 (.slice a L cap) from boxed_low HY0.out HB.out).cell
    by_cases hkl : k < L
    · have hki : (k : Int) < (L : Int) := by omega
      have hk0 : (0 : Int) ≤ (k : Int) := by omega
      have hts := HT.out.low (HW1.out.trans (HB.out.mono (Nat.le_of_lt HLT.out)))
      rcases hts with h0 | ⟨b2, o2, rfl, hb2, hc2⟩
      · have := HL.out; omega
      obtain ⟨ka, kc, q0, q1, q2, q3, rk, hno⟩ := hc2 k (by rw [← HL.out]; exact hkl)
      have hgl := HSK.out k hkl
      obtain ⟨p, hp⟩ : ∃ p, p = pt T k := ⟨_, rfl⟩
      rw [← hp] at q0 q1 q2 q3 rk hgl
      have HPT := hid hp
      obtain ⟨kd, tx, nu, zs⟩ := p
      simp only at q0 q1 q2 q3 rk hgl
      obtain ⟨n, hn⟩ : ∃ n, n = zs.length := ⟨_, rfl⟩
      rw [← hn] at q3 hgl
      have HN := hid hn
      have RK := hid rk
      have HNO := hid hno
      have hk4 : ((k : Int) * 4).toNat = k * 4 := by omega
      have hvb := belowA wr (.cells #[.int .i64 kd, .string tx, .int .i64 nu, .slice ka n kc] 60)
      have HVB := hid hvb
      have HVP := hid (heap_alloc_new wr (.cells #[.int .i64 kd, .string tx, .int .i64 nu, .slice ka n kc] 60))
      have HVS := hid (show (wr.alloc (.cells #[.int .i64 kd, .string tx, .int .i64 nu, .slice ka n kc] 60)).heap.size = wr.heap.size + 1 by simp)
      clear hc2 rk hno hp hn hvb
      go_upto_region 5 with (fail)
      have RV := hid (RK.out.low HVB.out (Nat.le_refl _))
      have HP9 := hid (show Below wr.heap.size wr (wr.alloc (.cells #[.int .i64 kd, .string tx, .int .i64 nu, .slice ka n kc] 60)) from HVB.out)
      clear q0 q1 q2 q3 hb2 xt
      generalize wr.alloc (.cells #[.int .i64 kd, .string tx, .int .i64 nu, .slice ka n kc] 60) = V at *
      have HWB := hid (show X.heap.size ≤ wr.heap.size from HB.out.size)
      generalize hPe : wr.heap.size = P at *
      have HPE := hid hPe
      clear hPe
      have x3 := (cells4 HVP.out).2.2.2
      have N0 := hid (show OwnI V V.heap.size (.slice none 0 0) [] from ⟨rfl, .inl ⟨rfl, rfl⟩⟩)
      have HPV := hid (show P < V.heap.size by rw [HVS.out]; exact Nat.lt_succ_self _)
      have HBD := hid (show ([] : List Int).length + zs.length ≤ 17592186044000 by rw [List.length_nil, ← HN.out]; omega)
      have hPne : P ≠ V.heap.size := Nat.ne_of_lt HPV.out
      go_wp2_with (at_builtin; refine append_src rfl _ _ rfl V.heap.size _ [] rfl N0.out ka n kc zs HN.out rfl HNO.out RV.out HBD.out (Nat.le_refl _) ?_)
      intro v1 w3 o1 g1
      obtain ⟨ka1, kc1, rfl⟩ := own_form o1
      have hk3 : w3.heap[P]? = V.heap[P]? := g1.block P HPV.out (by simp [Value.ownBlock])
      have e3 : w3.heap[P]? = some (.cells #[.int .i64 kd, .string tx, .int .i64 nu, .slice ka n kc] 60 (0, 0)) := hk3.trans HVP.out
      have f3 : w3.frozen? ⟨P, 3, none⟩ = false := by simp [World.frozen?, e3]
      obtain ⟨d0, d1, d2, d3⟩ := cells4 e3
      have HE3 := hid e3
      have O1 := hid o1
      have G1 := hid g1
      clear o1 g1 hk3 e3 x3
      go_upto_region 6 with (fail)
      have e4 : (w3.setCell ⟨P, 3, none⟩ (.slice ka1 zs.length kc1)).heap[P]? = some (.cells #[.int .i64 kd, .string tx, .int .i64 nu, .slice ka1 zs.length kc1] 60 (0, 0)) := by
        rw [setCell_eq_setRow _ _ _ _ _ _ _ HE3.out, setRow_heap _ _ _ _ _ _ HE3.out]
        rfl
      have b3 : Below V.heap.size V w3 := (Below.refl _ _).grown G1.out (Nat.le_refl _) (fun k hk => by simp [Value.ownBlock] at hk)
      have b4 : Below P wr (w3.setCell ⟨P, 3, none⟩ (.slice ka1 zs.length kc1)) := (HP9.out.trans (b3.mono (Nat.le_of_lt HPV.out))).setCell (p := ⟨P, 3, none⟩) (Nat.le_refl _) _
      have HB4 := hid b4
      have HO4 := hid (HO.out.low (show Below wr.heap.size wr _ by rw [HPE.out]; exact b4))
      have OK4 := hid (show OwnI (w3.setCell ⟨P, 3, none⟩ (.slice ka1 zs.length kc1)) X.heap.size (.slice ka1 zs.length kc1) zs from own_mono (ownsRow_setCell_below O1.out (a := ⟨P, 3, none⟩) HPV.out _) (by have := HWB.out; have := HPV.out; omega))
      have ⟨x0, x1, x2, x3⟩ := cells4 e4
      have HW4 := hid (show X.heap.size ≤ (w3.setCell ⟨P, 3, none⟩ (.slice ka1 zs.length kc1)).heap.size by have h1 := b4.size; have h2 := HWB.out; rw [HPE.out] at h1; omega)
      clear e4 b3 b4 d0 d1 d2 d3 f3
      generalize w3.setCell ⟨P, 3, none⟩ (.slice ka1 zs.length kc1) = W4 at *
      obtain ⟨i0, hi, hz0, hz1, hz2⟩ := info_parts infoP
      have HRW := hid (HO4.out.row.alloc (.cells #[.int .i64 kd, .string tx, .int .i64 nu, .slice ka1 zs.length kc1] 60))
      have HFN := hid (cell_four_new W4 (.int .i64 kd) (.string tx) (.int .i64 nu) (.slice ka1 zs.length kc1) 60)
      have HA4 := hid (belowA W4 (.cells #[.int .i64 kd, .string tx, .int .i64 nu, .slice ka1 zs.length kc1] 60))
      have HO5 := hid (HO4.out.low HA4.out)
      have OK5 := hid (own_low OK4.out HA4.out)
      go_wp2_with (at_builtin; refine wpList_append_own _ rfl _ _ 24 rfl X.heap.size 60 i0 (.agg #[.int .i64 0, .string ByteArray.empty, .int .i64 0, .slice none 0 0]) 4 56 Tryz.underlying24 hi hz0 hz1 hz2 rfl (by decide) _ _ _ rfl HRW.out ⟨W4.heap.size, 0, none⟩ 1 1 [.int .i64 kd, .string tx, .int .i64 nu, .slice ka1 zs.length kc1] rfl rfl HFN.out (fun x hx => by simp at hx; rcases hx with rfl | rfl | rfl | rfl <;> rfl) (by unfold maxLen; omega) (by omega) (Nat.le_trans HW4.out HA4.out.size) ?_)
      intro v5 w5 hr5 hg5 hn5
      have HM := hid (OwnP.more HO5.out (show OwnI _ X.heap.size (.slice ka1 zs.length kc1) (pt T k).kids by rw [← HPT.out]; exact OK5.out) (by rw [← HPT.out]; exact hr5) hg5)
      have HB5 := hid (show Below X.heap.size X w5 by
        have h1 : Below X.heap.size X W4 := HB.out.trans (HB4.out.mono HWB.out)
        refine (h1.trans (HA4.out.mono HW4.out)).grown hg5 (Nat.le_trans HW4.out HA4.out.size) (fun k hk => ?_)
        exact (HO5.out.row.lt k hk).1)
      clear hr5 hg5 hn5 hi hz0 hz1 hz2 x0 x1 x2 x3
      go_wp2_with fail
      refine ⟨⟨k + 1, _, by omega, by simp, HB5, HM⟩, ?_⟩
      show L - ((k : Int) + 1).toNat < L - ((k : Int)).toNat
      omega
    · have hki : ¬ ((k : Int) < (L : Int)) := by omega
      have ekL : k = L := by omega
      subst ekL
      have hy1 := boxed_low HY1.out HB.out
      have xc := hy1.cell
      have xf := hy1.frozen
      have HXC := hid hy1
      clear hy1
      have HO2 := hid (HO.out.set_low (p := ⟨w.heap.size + 1, 0, none⟩) HWS.out u3)
      rw [HL.out] at HO2
      obtain ⟨a', cap', hv, hp⟩ := HO2.out.pl
      rw [← HL.out] at hv HO2
      clear hp
      subst hv
      have HP := hid (HO2.out.mono (base' := w.heap.size) (Nat.le_of_lt HLT.out))
      have HW3 := hid ((HW1.out.trans (HB.out.mono (Nat.le_of_lt HLT.out))).setCell (p := ⟨w.heap.size + 1, 0, none⟩) (Nat.le_succ _) (.slice a' k cap'))
      go_wp2_with fail
      exact ⟨rfl, .agg #[.slice a' k cap'], results_cell_row Tryz.results10 _ _ (w.heap.size + 1) 26 #[.slice a' k cap'] (0, 0) _ rfl (HXC.out.set _) Tryz.underlying26 rfl (by kernel_rfl), a', cap', rfl, ⟨ks, HP.out⟩, HW3.out⟩
theorem copied_xp (a : Option Addr) (T : List Pt) (cap : Nat) (w : World) (hT : PLs w a T) (hG : GdT T) (hsl : T.length ≤ 100000) (hsk : ∀ j, j < T.length → (pt T j).kids.length ≤ 17592186044000) :
    Calls Tryz.prog 10 #[.agg #[.slice a T.length cap]] w fun e w' => ∃ a' cap', e = .returned (.agg #[.slice a' T.length cap']) ∧ PLs w' a' T ∧ Below w.heap.size w w' := by
  refine (copied_x a T cap w hT hG hsl hsk).mono ?_
  rintro e w' ⟨a', cap', ks, rfl, ho, hb⟩
  obtain ⟨a2, c2, e2, hp⟩ := ho.pl
  cases e2
  exact ⟨a', cap', rfl, hp, hb⟩
def sK (T : List Pt) : Nat → Nat
  | 0 => 0
  | k + 1 => sK T k + (pt T k).kids.length
theorem sumK_is (T : List Pt) : ∀ k, sumK T k = T.length + sK T k
  | 0 => rfl
  | k + 1 => by simp only [sumK, sK, sumK_is T k]; omega
theorem sK_emb {A U : List Pt} {o : Nat} (he : Emb A U o) : ∀ j, j ≤ A.length → sK U (o + j) = sK U o + sK A j
  | 0, _ => rfl
  | j + 1, h => by
    have ih := sK_emb he j (by omega)
    show sK U (o + j) + (pt U (o + j)).kids.length = sK U o + (sK A j + (pt A j).kids.length)
    rw [ih, he.at' j (by omega)]
    simp only [shf, List.length_map]
    omega
theorem un_sum (k : Int) (tx : ByteArray) (A : List Pt) : sumK (unT k tx A) (unT k tx A).length = sumK A A.length + 2 := by
  rw [sumK_is, sumK_is, un_len]
  have h := sK_emb (un_emb k tx A) A.length (Nat.le_refl _)
  rw [Nat.zero_add] at h
  show A.length + 1 + (sK (unT k tx A) A.length + (pt (unT k tx A) A.length).kids.length) = _
  rw [h, un_top]
  simp only [sK, List.length_cons, List.length_nil]
  omega
theorem jn_sum (k : Int) (A B : List Pt) : sumK (jnT k A B) (jnT k A B).length = sumK A A.length + sumK B B.length + 3 := by
  rw [sumK_is, sumK_is, sumK_is, jn_len]
  have h := sK_emb (jn_emb k A B) A.length (Nat.le_refl _)
  rw [Nat.zero_add] at h
  have h2 := sK_emb (jn_emb2 k A B) B.length (Nat.le_refl _)
  show A.length + B.length + 1 + (sK (jnT k A B) (A.length + B.length) + (pt (jnT k A B) (A.length + B.length)).kids.length) = _
  rw [h2, h, jn_top]
  simp only [sK, List.length_cons, List.length_nil]
  omega
theorem gdt_of {T : List Pt} (h : sumK T T.length ≤ 100000) : GdT T := by
  have h0 := sumK_is T T.length
  refine ⟨by omega, fun j hj => ?_⟩
  have := sumK_kid T hj
  omega
theorem asO_top {k : Int} (hk : k = 3 ∨ k = 4 ∨ k = 5) (sc : Int) (tx : ByteArray) (t : Int) : asO k 0 sc tx t = none := by
  rcases hk with rfl | rfl | rfl <;> simp [asO, knB, nmB]
end Go.Proofs.YtiddnjjaidiohaaGreatDoor.L
