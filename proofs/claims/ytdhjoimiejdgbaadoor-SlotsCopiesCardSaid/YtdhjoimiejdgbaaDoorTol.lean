import Derived.Test.YtdhjoimiejdgbaaDoorSen
namespace Go.Proofs.YtdhjoimiejdgbaaDoor.L
open Go.RowKit Bs Go.Maps
set_option linter.unusedVariables false
set_option maxHeartbeats 8000000 in
set_option maxRecDepth 100000 in
theorem told_any (pv : Value) (m : Nat) (l : List Rw) (F : List Nat) (mo : Int) (a : Option Addr) (L cap : Nat) (d : List Dr) (w : World) (hL : L = d.length) (h : Sd w pv m l F (.slice a L cap) d) : Calls Tryd.prog 47 #[pv, .agg #[.int .i64 mo, .slice a L cap]] w fun e w' => e = .returned (.bool true) ∧ Below w.heap.size w w' := by
  have ok := h.tq.ok
  have hl : L ≤ 65536 := by rw [hL]; exact h.dl
  have hN : l.length ≤ 65536 := Nat.le_trans ok.le ok.mm
  have hsl := h.re.slots ok
  have hsp : spanD d = l.length := h.re.span ok.tr
  have hcn : cnt l = L := by rw [hL]; exact h.re.len.symm
  have hit : ItD w a cap d := own_itemsD (by rw [← hL]; exact h.od)
  have LN := hid (fun W (hb : Below w.heap.size w W) => (h.tq.low hb).len)
  rw [hcn] at LN
  have SP := hid (fun W (hb : Below w.heap.size w W) => (h.tq.low hb).span)
  have RS := hid (fun W (hb : Below w.heap.size w W) => spanL hL (w := w) (W := W) mo hit hl hsl hb)
  rw [hsp] at RS
  have NM := hid (fun W (hb : Below w.heap.size w W) => (h.tq.low hb).names)
  have RN := hid (fun W (hb : Below w.heap.size w W) => rnamesL mo a cap L d hL W (h.od.low hb) hl)
  rw [h.re.names] at RN
  have BO := Bq.mk1 w mo (.slice a L cap) 35
  have HH := hid h
  have HL := hid hL
  obtain ⟨N, hNe⟩ : ∃ N, N = l.length := ⟨_, rfl⟩
  rw [← hNe] at SP RS hN
  have HNE := hid hNe
  clear ok hsl hsp hcn hit h hL hNe
  generalize hQ : (fun (e : Ending) (w' : World) => e = .returned (.bool true) ∧ Below w.heap.size w w') = Q
  have HQ := hid hQ
  clear hQ
  have NL : Hid ((srt (nmL l)).length ≤ 65536) := hid (by rw [srt_len, nmL_len]; exact Nat.le_trans HH.out.tq.ok.ct HH.out.tq.ok.mm)
  go_enter Tryd.func47, Tryd.ntmps47
  go_wp2_with fail
  generalize w.alloc (.cells #[.int .i64 mo, .slice a L cap] _) = w1 at *
  have hLN : Hid (L = L) := hid rfl
  obtain ⟨T1, T1'⟩ := And.intro BO.c1 BO.c2
  have B1 := hid BO
  clear BO
  generalize hss : srt (nmL l) = ss at *
  clear hss
  have TX := hid (fun (W : World) (a1 a2 : Option Addr) (c1 c2 b1 b2 : Nat) (o1 : OwnS W b1 (.slice a1 ss.length c1) ss) (o2 : OwnS W b2 (.slice a2 ss.length c2) ss) => texts_same a1 a2 c1 c2 ss W NL.out (items_of o1) (items_of o2))
  go_region_held3 (fun X => X.cell? ⟨w.heap.size, 0, none⟩ = some (.int .i64 mo) ∧ X.cell? ⟨w.heap.size, 1, none⟩ = some (.slice a L cap))
    (first | exact ⟨T1, T1'⟩ | exact T2 | exact T3 | exact T4 | exact T5 | exact T6 | exact T7)
    (first
      | (go_at_call 38; refine (LN.out _ B1.out.lo.drew).mono ?_; rintro e w2 ⟨rfl, hb⟩; have B2 := hid (B1.out.low (belowV hb)); have T2 := And.intro B2.out.c1 B2.out.c2; clear hb)
      | (go_at_call 40; refine (SP.out _ B2.out.lo).mono ?_; rintro e w3 ⟨rfl, hb⟩; have B3 := hid (B2.out.low hb); have T3 := And.intro B3.out.c1 B3.out.c2; clear hb)
      | (go_at_call 51; refine (RS.out _ B3.out.lo).mono ?_; rintro e w4 ⟨rfl, hb⟩; have B4 := hid (B3.out.low hb); have T4 := And.intro B4.out.c1 B4.out.c2; clear hb)
      | (go_at_call 52; refine (NM.out _ B4.out.lo).mono ?_; rintro e w5 ⟨v1, rfl, ho1, hb⟩; have B5 := hid (B4.out.low hb); have T5 := And.intro B5.out.c1 B5.out.c2; obtain ⟨n1, k1, e1⟩ := own_len ho1; subst e1; have O1 := hid ho1; clear hb ho1)
      | (go_at_call 32; refine (RN.out _ B5.out.lo).mono ?_; rintro e w6 ⟨v2, rfl, ho2, hb⟩; have B6 := hid (B5.out.low hb); have T6 := And.intro B6.out.c1 B6.out.c2; obtain ⟨n2, k2, e2⟩ := own_len ho2; subst e2; have O2 := hid ho2; have O1' := hid (own_low O1.out hb); clear hb ho2)
      | (go_at_call 30; refine (TX.out _ _ _ _ _ _ _ O1'.out O2.out).mono ?_; rintro e w7 ⟨rfl, nd, hw7⟩; have B7 := hid (B6.out.low (show Below w6.heap.size w6 w7 by rw [hw7]; exact belowD _ _)); have T7 := And.intro B7.out.c1 B7.out.c2; clear hw7))
  go_wp2_with fail
  clear LN NM RN TX O1 O2 O1' T2 T3 T4 T5 T6 T7 NL SP
  go_loopw [37] (fun i wr => ∃ k : Nat, k ≤ L ∧ i = .int .i64 k ∧ Hid (Bq w wr mo (.slice a L cap))) (fun i _ => L - (intOf i).toNat)
  case atStart => exact ⟨0, Nat.zero_le _, rfl, B7⟩
  case round =>
    clear B1 B2 B3 B4 B5 B6 B7 T1 T1'
    obtain ⟨k, hk, rfl, HB⟩ := hrel
    by_cases hlt : k < L
    · have hkd : k < d.length := by rw [← HL.out]; exact hlt
      obtain ⟨g1, g2, g3⟩ := HH.out.re.row hkd
      have FY := hid (fun W (hb : Below w.heap.size w W) => (HH.out.tq.low hb).findYes (dn d k) g1 g2)
      have AY := hid (fun W (hb : Below w.heap.size w W) => (HH.out.tq.low hb).atYes (ds d k) g1)
      rw [g3] at FY AY
      rw [g2] at AY
      rcases own_form (HH.out.od.low HB.out.lo) with ⟨e0, h0⟩ | ⟨g, cap', e0, hle, hmx, hg⟩
      · omega
      injection e0 with e1 e2 e3
      clear e2 hle hmx
      subst e1 e3
      obtain ⟨r0, r1, r2⟩ := rowsD HL.out (HH.out.od.low HB.out.lo) k hlt
      clear g1 g2 g3 HH hkd
      generalize ds d k = sl at *
      generalize dn d k = nmk at *
      generalize dl d k = vk at *
      have BT := hid (Bt.mk3 wr (.int .i64 (sl : Int)) (.string nmk) (.int .i64 vk) 63)
      have LO := hid (HB.out.lo.alloc HB.out.lo.size (.cells #[.int .i64 (sl : Int), .string nmk, .int .i64 vk] 63))
      have HB1 := hid (HB.out.low ((Below.refl _ wr).alloc (Nat.le_refl _) (.cells #[.int .i64 (sl : Int), .string nmk, .int .i64 vk] 63)))
      go_wp2_with (first
        | (go_at_call 39
           refine (FY.out _ LO.out).mono ?_
           rintro e w3 ⟨rfl, hb⟩
           have HB3 := hid (HB1.out.low hb)
           have BT3 := hid (BT.out.low hb)
           have q0 := BT3.out.t0
           have q1 := BT3.out.t1
           have q2 := BT3.out.t2
           clear hb)
        | (go_at_call 50
           refine (AY.out _ HB3.out.lo).mono ?_
           rintro e w4 ⟨rfl, hb⟩
           have HB4 := hid (HB3.out.low hb)
           have BT4 := hid (BT3.out.low hb)
           clear q0 q1 q2
           have q0 := BT4.out.t0
           have q1 := BT4.out.t1
           have q2 := BT4.out.t2
           clear hb))
      exact ⟨⟨k + 1, by omega, by go_num, HB4⟩, by simp [intOf]; omega⟩
    · have hkL : L = k := by omega
      subst hkL
      go_wp2_with fail
      rw [← HQ.out]
      exact ⟨rfl, HB.out.lo⟩
end Go.Proofs.YtdhjoimiejdgbaaDoor.L
