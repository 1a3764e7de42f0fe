import Derived.Test.YtdhjoimiejdgbabDoorMgL
import Derived.Deep.RegionHeld3
namespace Go.Proofs.YtdhjoimiejdgbabDoor.L
open Go.RowKit Bs Go.Maps
set_option linter.unusedVariables false
/-- A table beside the document's. -/
structure Sd (w : World) (pv : Value) (m : Nat) (l : List Rw) (F : List Nat) (v : Value) (d : List Dr) : Prop where
  tq : Tq w pv m l F
  od : OwnD w v d
  re : Rel l d
theorem Sd.low {w w' : World} {pv : Value} {m : Nat} {l : List Rw} {F : List Nat} {v : Value} {d : List Dr} (h : Sd w pv m l F v d) (hb : Below w.heap.size w w') : Sd w' pv m l F v d := ⟨h.tq.low hb, h.od.low hb, h.re⟩
theorem Sd.dl {w : World} {pv : Value} {m : Nat} {l : List Rw} {F : List Nat} {v : Value} {d : List Dr} (h : Sd w pv m l F v d) : d.length ≤ 65536 := by
  rw [h.re.len]
  exact Nat.le_trans h.tq.ok.ct h.tq.ok.mm
/-- A box of three cells that was laid. -/
structure Bt (wr W : World) (x y z : Value) : Prop where
  t0 : W.cell? ⟨wr.heap.size, 0, none⟩ = some x
  t1 : W.cell? ⟨wr.heap.size, 1, none⟩ = some y
  t2 : W.cell? ⟨wr.heap.size, 2, none⟩ = some z
  sz : wr.heap.size < W.heap.size
theorem Bt.mk3 (wr : World) (x y z : Value) (t : TypeId) : Bt wr (wr.alloc (.cells #[x, y, z] t)) x y z := by
  have h : (wr.alloc (.cells #[x, y, z] t)).heap[wr.heap.size]? = some (.cells #[x, y, z] t) := heap_alloc_new wr _
  refine ⟨?_, ?_, ?_, by simp⟩
  · unfold World.cell?; rw [h]; rfl
  · unfold World.cell?; rw [h]; rfl
  · unfold World.cell?; rw [h]; rfl
theorem Bt.low {wr W W' : World} {x y z : Value} (h : Bt wr W x y z) (hb : Below W.heap.size W W') : Bt wr W' x y z :=
  ⟨(hb.cell (p := ⟨wr.heap.size, 0, none⟩) h.sz).trans h.t0, (hb.cell (p := ⟨wr.heap.size, 1, none⟩) h.sz).trans h.t1, (hb.cell (p := ⟨wr.heap.size, 2, none⟩) h.sz).trans h.t2, Nat.lt_of_lt_of_le h.sz hb.size⟩
theorem belowV {B : Nat} {w W : World} (h : Below B w.drew W) : Below B w W := ⟨h.os, h.tape, h.output, h.size, h.block⟩
theorem items_of {w : World} {base : Nat} {ss : List ByteArray} {a : Option Addr} {cap : Nat} (h : OwnS w base (.slice a ss.length cap) ss) : ItemsS w a ss := by
  obtain ⟨a', c', e, hi⟩ := own_itemsS h
  injection e with e1 _ _
  rw [e1]; exact hi
theorem itemsP_of {w : World} {base : Nat} {ps : List Sn} {a : Option Addr} {cap : Nat} (h : OwnP w base (.slice a ps.length cap) ps) : ItemsP w a ps := by
  obtain ⟨a', c', e, hi⟩ := own_itemsP h
  injection e with e1 _ _
  rw [e1]; exact hi
theorem itemsE_of {w : World} {base : Nat} {d : List Dr} {a : Option Addr} {cap : Nat} (h : w.ownsRow base 77 3 (.slice a d.length cap) d.length (cellsD d)) : ItemsE w a d := by
  obtain ⟨a', c', e, hi⟩ := own_itemsE h
  injection e with e1 _ _
  rw [e1]; exact hi
set_option maxHeartbeats 8000000 in
set_option maxRecDepth 100000 in
theorem seen_any (pv : Value) (m : Nat) (l : List Rw) (F : List Nat) (mo : Int) (a : Option Addr) (L cap : Nat) (d : List Dr) (w : World) (hL : L = d.length) (h : Sd w pv m l F (.slice a L cap) d) : Calls Tryd.prog 19 #[pv, .agg #[.int .i64 mo, .slice a L cap]] w fun e w' => e = .returned (.bool true) ∧ Below w.heap.size w w' := by
  have ok := h.tq.ok
  have hl : L ≤ 65536 := by rw [hL]; exact h.dl
  have hN : l.length ≤ 65536 := Nat.le_trans ok.le ok.mm
  have hsl := h.re.slots ok
  have hsp : spanD d = l.length := h.re.span ok.tr
  have hcn : cnt l = L := by rw [hL]; exact h.re.len.symm
  have hit : ItD w a cap d := own_itemsD (by rw [← hL]; exact h.od)
  have LN := hid (fun W (hb : Below w.heap.size w W) => (h.tq.low hb).len)
  rw [hcn] at LN
  have SP := hid (fun W (hb : Below w.heap.size w W) => (h.tq.low hb).span)
  have RS := hid (fun W (hb : Below w.heap.size w W) => spanL hL (w := w) (W := W) mo hit hl hsl hb)
  rw [hsp] at RS
  have RAT := hid (fun W (i : Int) (hb : Below w.heap.size w W) => atL hL (w := w) (W := W) mo i hit hl hb)
  have NM := hid (fun W (hb : Below w.heap.size w W) => (h.tq.low hb).names)
  have RN := hid (fun W (hb : Below w.heap.size w W) => rnamesL mo a cap L d hL W (h.od.low hb) hl)
  rw [h.re.names] at RN
  have TK := hid (fun W (hb : Below w.heap.size w W) => (h.tq.low hb).taken ((L : Int) + 2) (by omega))
  have RB := hid (fun W (hb : Below w.heap.size w W) => rbyslotL mo a cap L d hL W (h.od.low hb) hl hsl)
  have BO := Bq.mk1 w mo (.slice a L cap) 49
  have HH := hid h
  have HL := hid hL
  obtain ⟨N, hNe⟩ : ∃ N, N = l.length := ⟨_, rfl⟩
  rw [← hNe] at SP RS hN
  have HNE := hid hNe
  clear ok hsl hsp hcn hit h hL hNe
  generalize hQ : (fun (e : Ending) (w' : World) => e = .returned (.bool true) ∧ Below w.heap.size w w') = Q
  have HQ := hid hQ
  clear hQ
  have hw2 : IntKind.i64.wrap ((L : Int) + 2) = (L : Int) + 2 := by rw [IntKind.wrap_i64]; omega
  have BYS := hid (HH.out.re.bys_all HH.out.tq.ok.tr)
  have NL : Hid ((srt (nmL l)).length ≤ 65536) := hid (by rw [srt_len, nmL_len]; exact Nat.le_trans HH.out.tq.ok.ct HH.out.tq.ok.mm)
  have BDL : Hid ((bsD d (spanD d)).length ≤ 65536) := hid (Nat.le_trans (bsD_len d _) (by rw [HH.out.re.span HH.out.tq.ok.tr, ← HNE.out]; exact hN))
  go_enter Tryd.func19, Tryd.ntmps19
  go_wp2_with fail
  generalize w.alloc (.cells #[.int .i64 mo, .slice a L cap] _) = w1 at *
  have hLN : Hid (L = L) := hid rfl
  obtain ⟨T1, T1'⟩ := And.intro BO.c1 BO.c2
  have B1 := hid BO
  clear BO
  generalize hss : srt (nmL l) = ss at *
  generalize hbd : bsD d (spanD d) = bd at *
  generalize htk : tk (bs l) = tt at *
  clear hss hbd htk
  have TX := hid (fun (W : World) (a1 a2 : Option Addr) (c1 c2 b1 b2 : Nat) (o1 : OwnS W b1 (.slice a1 ss.length c1) ss) (o2 : OwnS W b2 (.slice a2 ss.length c2) ss) => texts_same a1 a2 c1 c2 ss W NL.out (items_of o1) (items_of o2))
  obtain ⟨ps, hps⟩ : ∃ ps, ps = tt.take ((L : Int) + 2).toNat := ⟨_, rfl⟩
  rw [← hps] at TK
  have RA := hid (fun (W : World) (a1 a2 : Option Addr) (c1 c2 b1 b2 : Nat) (o1 : OwnP W b1 (.slice a1 ps.length c1) ps) (o2 : W.ownsRow b2 77 3 (.slice a2 bd.length c2) bd.length (cellsD bd)) => rowsare_any a1 a2 c1 c2 _ _ ps bd ((L : Int) + 2) W rfl rfl (by rw [hps, BYS.out]) BDL.out (by omega) (itemsP_of o1) (itemsE_of o2))
  clear hps
  go_region_held3 (fun X => X.cell? ⟨w.heap.size, 0, none⟩ = some (.int .i64 mo) ∧ X.cell? ⟨w.heap.size, 1, none⟩ = some (.slice a L cap))
    (first | exact ⟨T1, T1'⟩ | exact T2 | exact T3 | exact T4 | exact T5 | exact T6 | exact T7 | exact T8 | exact T9 | exact T10)
    (first
      | (go_at_call 13; refine (LN.out _ B1.out.lo.drew).mono ?_; rintro e w2 ⟨rfl, hb⟩; have B2 := hid (B1.out.low (belowV hb)); have T2 := And.intro B2.out.c1 B2.out.c2; clear hb)
      | (go_at_call 26; refine (SP.out _ B2.out.lo).mono ?_; rintro e w3 ⟨rfl, hb⟩; have B3 := hid (B2.out.low hb); have T3 := And.intro B3.out.c1 B3.out.c2; clear hb)
      | (go_at_call 31; refine (RS.out _ B3.out.lo).mono ?_; rintro e w4 ⟨rfl, hb⟩; have B4 := hid (B3.out.low hb); have T4 := And.intro B4.out.c1 B4.out.c2; clear hb)
      | (go_at_call 12; refine (NM.out _ B4.out.lo).mono ?_; rintro e w5 ⟨v1, rfl, ho1, hb⟩; have B5 := hid (B4.out.low hb); have T5 := And.intro B5.out.c1 B5.out.c2; obtain ⟨n1, k1, e1⟩ := own_len ho1; subst e1; have O1 := hid ho1; clear hb ho1)
      | (go_at_call 17; refine (RN.out _ B5.out.lo).mono ?_; rintro e w6 ⟨v2, rfl, ho2, hb⟩; have B6 := hid (B5.out.low hb); have T6 := And.intro B6.out.c1 B6.out.c2; obtain ⟨n2, k2, e2⟩ := own_len ho2; subst e2; have O2 := hid ho2; have O1' := hid (own_low O1.out hb); clear hb ho2)
      | (go_at_call 11; refine (TX.out _ _ _ _ _ _ _ O1'.out O2.out).mono ?_; rintro e w7 ⟨rfl, nd, hw7⟩; have B7 := hid (B6.out.low (show Below w6.heap.size w6 w7 by rw [hw7]; exact belowD _ _)); have T7 := And.intro B7.out.c1 B7.out.c2; clear hw7)
      | (go_at_call 33; refine (TK.out _ B7.out.lo).mono ?_; rintro e w8 ⟨v3, rfl, ho3, hb⟩; have B8 := hid (B7.out.low hb); have T8 := And.intro B8.out.c1 B8.out.c2; obtain ⟨n3, k3, e3⟩ := own_len ho3; subst e3; have O3 := hid ho3; clear hb ho3)
      | (go_at_call 34; refine (RB.out _ B8.out.lo).mono ?_; rintro e w9 ⟨v4, rfl, ho4, hb⟩; have B9 := hid (B8.out.low hb); have T9 := And.intro B9.out.c1 B9.out.c2; obtain ⟨n4, k4, e4⟩ := own_len ho4; subst e4; have O4 := hid ho4; have O3' := hid (own_low O3.out hb); clear hb ho4)
      | (go_at_call 32; refine (RA.out _ _ _ _ _ _ _ O3'.out O4.out).mono ?_; rintro e w10 ⟨rfl, nd, hw7⟩; have B10 := hid (B9.out.low (show Below w9.heap.size w9 w10 by rw [hw7]; exact belowD _ _)); have T10 := And.intro B10.out.c1 B10.out.c2; clear hw7))
  go_wp2_with fail
  clear LN NM RN TX TK RB RA O1 O2 O1' O3 O4 O3' T2 T3 T4 T5 T6 T7 T8 T9 T10 NL BDL BYS SP
  go_loopw [57] (fun i wr => ∃ k : Nat, k ≤ L ∧ i = .int .i64 k ∧ Hid (Bq w wr mo (.slice a L cap))) (fun i _ => L - (intOf i).toNat)
  case atStart => exact ⟨0, Nat.zero_le _, rfl, B10⟩
  case round =>
    clear B1 B2 B3 B4 B5 B6 B7 B8 B9 B10 T1 T1'
    obtain ⟨k, hk, rfl, HB⟩ := hrel
    by_cases hlt : k < L
    · have hkd : k < d.length := by rw [← HL.out]; exact hlt
      obtain ⟨g1, g2, g3⟩ := HH.out.re.row hkd
      have FY := hid (fun W (hb : Below w.heap.size w W) => (HH.out.tq.low hb).findYes (dn d k) g1 g2)
      have AY := hid (fun W (hb : Below w.heap.size w W) => (HH.out.tq.low hb).atYes (ds d k) g1)
      rw [g3] at FY AY
      rw [g2] at AY
      rcases own_form (HH.out.od.low HB.out.lo) with ⟨e0, h0⟩ | ⟨g, cap', e0, hle, hmx, hg⟩
      · omega
      injection e0 with e1 e2 e3
      clear e2 hle hmx
      subst e1 e3
      obtain ⟨r0, r1, r2⟩ := rowsD HL.out (HH.out.od.low HB.out.lo) k hlt
      clear g1 g2 g3 HH hkd
      generalize ds d k = sl at *
      generalize dn d k = nmk at *
      generalize dl d k = vk at *
      have BT := hid (Bt.mk3 wr (.int .i64 (sl : Int)) (.string nmk) (.int .i64 vk) 77)
      have LO := hid (HB.out.lo.alloc HB.out.lo.size (.cells #[.int .i64 (sl : Int), .string nmk, .int .i64 vk] 77))
      have HB1 := hid (HB.out.low ((Below.refl _ wr).alloc (Nat.le_refl _) (.cells #[.int .i64 (sl : Int), .string nmk, .int .i64 vk] 77)))
      go_wp2_with (first
        | (go_at_call 9
           refine (FY.out _ LO.out).mono ?_
           rintro e w3 ⟨rfl, hb⟩
           have HB3 := hid (HB1.out.low hb)
           have BT3 := hid (BT.out.low hb)
           have q0 := BT3.out.t0
           have q1 := BT3.out.t1
           have q2 := BT3.out.t2
           clear hb)
        | (go_at_call 14
           refine (AY.out _ HB3.out.lo).mono ?_
           rintro e w4 ⟨rfl, hb⟩
           have HB4 := hid (HB3.out.low hb)
           have BT4 := hid (BT3.out.low hb)
           clear q0 q1 q2
           have q0 := BT4.out.t0
           have q1 := BT4.out.t1
           have q2 := BT4.out.t2
           clear hb))
      exact ⟨⟨k + 1, by omega, by go_num, HB4⟩, by simp [intOf]; omega⟩
    · have hkL : L = k := by omega
      subst hkL
      go_wp2_with fail
      go_loopw [13] (fun i wr => ∃ k : Nat, k ≤ N + 2 ∧ i = .int .i64 ((k : Int) - 1) ∧ Hid (Bq w wr mo (.slice a L cap))) (fun i _ => ((N : Int) + 1 - intOf i).toNat)
      case atStart => exact ⟨0, Nat.zero_le _, by go_num, HB⟩
      case round =>
        clear HB
        obtain ⟨k, hk, rfl, HB⟩ := hrel
        have c1 := HB.out.c1
        have c2 := HB.out.c2
        by_cases hlt : k < N + 2
        · have hle : (k : Int) - 1 ≤ (N : Int) := by omega
          have hnx : IntKind.i64.wrap ((k : Int) - 1 + 1) = (k : Int) := by rw [IntKind.wrap_i64]; omega
          have AK := hid (fun W (hb : Below w.heap.size w W) => RAT.out W ((k : Int) - 1) hb)
          rcases HH.out.re.at_ ((k : Int) - 1) with ⟨hn, e⟩ | ⟨j, e, hj, _⟩
          · have AN := hid (fun W (hb : Below w.heap.size w W) => (HH.out.tq.low hb).atNo ((k : Int) - 1) hn)
            rw [e] at AK
            clear hn e
            generalize hsl : (k : Int) - 1 = sl at *
            have HSL := hid hsl
            clear hsl
            go_wp2_with (first
              | (go_at_call 31
                 refine (RS.out _ HB.out.lo).mono ?_
                 rintro e w3 ⟨rfl, hb⟩
                 have HB3 := hid (HB.out.low hb)
                 clear c1 c2 hb
                 have c1 := HB3.out.c1
                 have c2 := HB3.out.c2)
              | (go_at_call 30
                 refine (AK.out _ HB3.out.lo).mono ?_
                 rintro e w4 ⟨rfl, hb⟩
                 have HB4 := hid (HB3.out.low hb)
                 clear c1 c2 hb
                 have c1 := HB4.out.c1
                 have c2 := HB4.out.c2)
              | (go_at_call 14
                 refine (AN.out _ HB4.out.lo).mono ?_
                 rintro e w5 ⟨rfl, hb⟩
                 have HB5 := hid (HB4.out.low hb)
                 clear c1 c2 hb))
            exact ⟨⟨k + 1, by omega, by congr 1; omega, HB5⟩, by have := HSL.out; simp [intOf]; omega⟩
          · rw [e] at AK
            clear e hj
            generalize hsl : (k : Int) - 1 = sl at *
            have HSL := hid hsl
            clear hsl
            go_wp2_with (first
              | (go_at_call 31
                 refine (RS.out _ HB.out.lo).mono ?_
                 rintro e w3 ⟨rfl, hb⟩
                 have HB3 := hid (HB.out.low hb)
                 clear c1 c2 hb
                 have c1 := HB3.out.c1
                 have c2 := HB3.out.c2)
              | (go_at_call 30
                 refine (AK.out _ HB3.out.lo).mono ?_
                 rintro e w4 ⟨rfl, hb⟩
                 have HB4 := hid (HB3.out.low hb)
                 clear c1 c2 hb))
            exact ⟨⟨k + 1, by omega, by congr 1; omega, HB4⟩, by have := HSL.out; simp [intOf]; omega⟩
        · have hgt : ¬ ((k : Int) - 1 ≤ (N : Int)) := by omega
          go_wp2_with (go_at_call 31
                       refine (RS.out _ HB.out.lo).mono ?_
                       rintro e w3 ⟨rfl, hb⟩
                       have HB3 := hid (HB.out.low hb)
                       clear c1 c2 hb)
          rw [← HQ.out]
          exact ⟨rfl, HB3.out.lo⟩
end Go.Proofs.YtdhjoimiejdgbabDoor.L
