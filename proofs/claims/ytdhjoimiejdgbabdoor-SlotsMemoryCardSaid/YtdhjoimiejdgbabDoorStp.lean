import Derived.Test.YtdhjoimiejdgbabDoorBgn
import Derived.Test.YtdhjoimiejdgbabDoorCpd
import Derived.Laws.BitsLemmas
namespace Go.Proofs.YtdhjoimiejdgbabDoor.L
open Go.RowKit Bs Go.Maps
set_option linter.unusedVariables false
theorem i64_and3 (n : Int) : ∃ i : Nat, bits .and .i64 n 3 = (i : Int) ∧ i < 4 := by
  have h3 : (BitVec.ofInt 64 3).toNat = 2 ^ 2 - 1 := by decide
  have key : (BitVec.ofInt 64 n &&& BitVec.ofInt 64 3).toNat = (n % ((2 ^ 64 : Nat) : Int)).toNat % 2 ^ 2 := by
    rw [BitVec.toNat_and, BitVec.toNat_ofInt, h3, Nat.and_two_pow_sub_one_eq_mod]
  refine ⟨(n % 4).toNat, ?_, by omega⟩
  show IntKind.i64.wrap ((BitVec.ofInt 64 n &&& BitVec.ofInt 64 3).toNat : Nat) = _
  rw [key, IntKind.wrap_i64]
  omega
theorem sd_of {w0 W : World} {B : Nat} {G : List Nat} {st : Nat → St} {i : Nat} {pv v : Value} (hi : i < 4) (hW : Wh w0 W B G st) (hr : Re st) (hp : (st i).pv = pv) (hv : (st i).v = v) : Sd W pv (st i).m (st i).l (st i).F v (st i).d := by
  subst hp hv
  exact ⟨hW.tq i hi, hW.od i hi, (hr i hi).1⟩
set_option maxHeartbeats 8000000 in
set_option maxRecDepth 100000 in
theorem st_len (w0 w : World) (B : Nat) {G : List Nat} (st : Nat → St) (oa ot ov : Int) (s : ByteArray) (h : Wh w0 w B G st) (hr : Re st) :
    Calls Tryd.prog 16 #[.pointer (some ⟨B, 0, none⟩), .agg #[.int .i64 7, .int .i64 oa, .int .i64 ot, .string s, .int .i64 ov]] w fun e w' => e = .returned (.bool true) ∧ ∃ st', Wh w0 w' B G st' ∧ Re st' := by
  obtain ⟨i, ei, hi⟩ := i64_and3 oa
  obtain ⟨j, ej, hj⟩ := i64_and3 ot
  have W1 := hid (h.low ((Below.refl w.heap.size w).alloc (Nat.le_refl _) (.cells #[.int .i64 7, .int .i64 oa, .int .i64 ot, .string s, .int .i64 ov] 44)))
  have BO := hid (Bo.mk5 w 7 oa ot ov s 44)
  have HR := hid hr
  obtain ⟨b, hb⟩ := (h.tq i hi).form
  obtain ⟨va, vc, hv⟩ := own_len (h.od i hi)
  obtain ⟨c0, c1, c2⟩ := W1.out.cells hi
  rw [hb] at c0
  rw [hv] at c2
  have HV := hid hv
  have HBP := hid hb
  have o0 := BO.out.o0
  have o1 := BO.out.o1
  have o2 := BO.out.o2
  have o3 := BO.out.o3
  have o4 := BO.out.o4
  have hi4 : (i : Int) < 4 := by omega
  clear h hr hb hv
  generalize hQ : (fun (e : Ending) (w' : World) => e = .returned (.bool true) ∧ ∃ st', Wh w0 w' B G st' ∧ Re st') = Q
  have HQ := hid hQ
  clear hQ
  go_enter Tryd.func16, Tryd.ntmps16
  go_wp2_with fail
  generalize w.alloc (.cells #[.int .i64 7, .int .i64 oa, .int .i64 ot, .string s, .int .i64 ov] 44) = X1 at *
  go_quiet (fail)
  go_wp2_with fail
  have W2 := hid (W1.out.low (belowD X1 nq))
  have B2 := hid (BO.out.low (belowD X1 nq))
  have hw0 : w.heap.size < (X1.drewN nq).heap.size := B2.out.sz
  clear c0 c1 c2 o0 o1 o2 o3 o4
  generalize X1.drewN nq = X2 at *
  clear W1 BO
  obtain ⟨c0, c1, c2⟩ := W2.out.cells hi
  rw [HBP.out] at c0
  rw [HV.out] at c2
  have hB3 := W2.out.lt
  generalize (st i).mo = mo at *
  generalize hLe : (st i).d.length = L at *
  have HLE := hid hLe.symm
  clear hLe
  have o0 := B2.out.o0
  have o1 := B2.out.o1
  have o2 := B2.out.o2
  have o3 := B2.out.o3
  have o4 := B2.out.o4
  have SD := hid (sd_of hi W2.out HR.out HBP.out HV.out)
  go_region
  have BQ := hid ((Bq.mk1 X2 mo (.slice va L vc) 49).low (belowDr _))
  have BO3 := hid (B2.out.low (((Below.refl X2.heap.size X2).alloc (Nat.le_refl _) (.cells #[.int .i64 mo, .slice va L vc] 49)).drew))
  clear c0 c1 c2 o0 o1 o2 o3 o4
  generalize (X2.alloc (.cells #[.int .i64 mo, .slice va L vc] 49)).drew = X3 at *
  have t1 := BQ.out.c1
  have t2 := BQ.out.c2
  have o0 := BO3.out.o0
  have o1 := BO3.out.o1
  have o2 := BO3.out.o2
  have o3 := BO3.out.o3
  have o4 := BO3.out.o4
  have hdl : L ≤ 65536 := by have := SD.out.dl; rw [← HLE.out] at this; exact this
  have ok := SD.out.tq.ok
  have hsl := SD.out.re.slots ok
  have hsp : spanD (st i).d = (st i).l.length := SD.out.re.span ok.tr
  have hcn : cnt (st i).l = L := by rw [HLE.out]; exact SD.out.re.len.symm
  have hN : (st i).l.length ≤ 65536 := Nat.le_trans ok.le ok.mm
  have hit : ItD X2 va vc (st i).d := own_itemsD (by rw [← HLE.out]; exact SD.out.od)
  have LN := hid (fun W (hb : Below X2.heap.size X2 W) => (SD.out.tq.low hb).len)
  rw [hcn] at LN
  have SP := hid (fun W (hb : Below X2.heap.size X2 W) => (SD.out.tq.low hb).span)
  have RS := hid (fun W (hb : Below X2.heap.size X2 W) => spanL HLE.out (w := X2) (W := W) mo hit hdl hsl hb)
  rw [hsp] at RS
  generalize (st i).l.length = N at *
  clear hsl hsp hcn hit ok
  go_wp2_with fail
  go_region_held3 (fun X => X.cell? ⟨X2.heap.size, 0, none⟩ = some (.int .i64 mo) ∧ X.cell? ⟨X2.heap.size, 1, none⟩ = some (.slice va L vc))
    (first | exact ⟨t1, t2⟩ | exact T2 | exact T3 | exact T4)
    (first
      | (go_at_call 13; refine (LN.out _ BQ.out.lo.drew).mono ?_; rintro e w2 ⟨rfl, hb⟩; have Q2 := hid (BQ.out.low (belowV hb)); have T2 := And.intro Q2.out.c1 Q2.out.c2; clear hb)
      | (go_at_call 26; refine (SP.out _ Q2.out.lo).mono ?_; rintro e w3 ⟨rfl, hb⟩; have Q3 := hid (Q2.out.low hb); have T3 := And.intro Q3.out.c1 Q3.out.c2; clear hb)
      | (go_at_call 31; refine (RS.out _ Q3.out.lo).mono ?_; rintro e w4 ⟨rfl, hb⟩; have Q4 := hid (Q3.out.low hb); have T4 := And.intro Q4.out.c1 Q4.out.c2; clear hb))
  go_wp2_with fail
  rw [← HQ.out]
  exact ⟨rfl, st, W2.out.low Q4.out.lo, HR.out⟩
set_option maxHeartbeats 8000000 in
set_option maxRecDepth 100000 in
theorem st_names (w0 w : World) (B : Nat) {G : List Nat} (st : Nat → St) (oa ot ov : Int) (s : ByteArray) (h : Wh w0 w B G st) (hr : Re st) :
    Calls Tryd.prog 16 #[.pointer (some ⟨B, 0, none⟩), .agg #[.int .i64 8, .int .i64 oa, .int .i64 ot, .string s, .int .i64 ov]] w fun e w' => e = .returned (.bool true) ∧ ∃ st', Wh w0 w' B G st' ∧ Re st' := by
  obtain ⟨i, ei, hi⟩ := i64_and3 oa
  obtain ⟨j, ej, hj⟩ := i64_and3 ot
  have W1 := hid (h.low ((Below.refl w.heap.size w).alloc (Nat.le_refl _) (.cells #[.int .i64 8, .int .i64 oa, .int .i64 ot, .string s, .int .i64 ov] 44)))
  have BO := hid (Bo.mk5 w 8 oa ot ov s 44)
  have HR := hid hr
  obtain ⟨b, hb⟩ := (h.tq i hi).form
  obtain ⟨va, vc, hv⟩ := own_len (h.od i hi)
  obtain ⟨c0, c1, c2⟩ := W1.out.cells hi
  rw [hb] at c0
  rw [hv] at c2
  have HV := hid hv
  have HBP := hid hb
  have o0 := BO.out.o0
  have o1 := BO.out.o1
  have o2 := BO.out.o2
  have o3 := BO.out.o3
  have o4 := BO.out.o4
  have hi4 : (i : Int) < 4 := by omega
  clear h hr hb hv
  generalize hQ : (fun (e : Ending) (w' : World) => e = .returned (.bool true) ∧ ∃ st', Wh w0 w' B G st' ∧ Re st') = Q
  have HQ := hid hQ
  clear hQ
  go_enter Tryd.func16, Tryd.ntmps16
  go_wp2_with fail
  generalize w.alloc (.cells #[.int .i64 8, .int .i64 oa, .int .i64 ot, .string s, .int .i64 ov] 44) = X1 at *
  go_quiet (fail)
  go_wp2_with fail
  have W2 := hid (W1.out.low (belowD X1 nq))
  have B2 := hid (BO.out.low (belowD X1 nq))
  have hw0 : w.heap.size < (X1.drewN nq).heap.size := B2.out.sz
  clear c0 c1 c2 o0 o1 o2 o3 o4
  generalize X1.drewN nq = X2 at *
  clear W1 BO
  obtain ⟨c0, c1, c2⟩ := W2.out.cells hi
  rw [HBP.out] at c0
  rw [HV.out] at c2
  have hB3 := W2.out.lt
  generalize (st i).mo = mo at *
  generalize hLe : (st i).d.length = L at *
  have HLE := hid hLe.symm
  clear hLe
  have o0 := B2.out.o0
  have o1 := B2.out.o1
  have o2 := B2.out.o2
  have o3 := B2.out.o3
  have o4 := B2.out.o4
  have SD := hid (sd_of hi W2.out HR.out HBP.out HV.out)
  go_region
  have BQ := hid ((Bq.mk1 X2 mo (.slice va L vc) 49).low (belowDr _))
  have BO3 := hid (B2.out.low (((Below.refl X2.heap.size X2).alloc (Nat.le_refl _) (.cells #[.int .i64 mo, .slice va L vc] 49)).drew))
  clear c0 c1 c2 o0 o1 o2 o3 o4
  generalize (X2.alloc (.cells #[.int .i64 mo, .slice va L vc] 49)).drew = X3 at *
  have t1 := BQ.out.c1
  have t2 := BQ.out.c2
  have o0 := BO3.out.o0
  have o1 := BO3.out.o1
  have o2 := BO3.out.o2
  have o3 := BO3.out.o3
  have o4 := BO3.out.o4
  have hdl : L ≤ 65536 := by have := SD.out.dl; rw [← HLE.out] at this; exact this
  have ok := SD.out.tq.ok
  have hsl := SD.out.re.slots ok
  have hsp : spanD (st i).d = (st i).l.length := SD.out.re.span ok.tr
  have hcn : cnt (st i).l = L := by rw [HLE.out]; exact SD.out.re.len.symm
  have hN : (st i).l.length ≤ 65536 := Nat.le_trans ok.le ok.mm
  have hit : ItD X2 va vc (st i).d := own_itemsD (by rw [← HLE.out]; exact SD.out.od)
  have NM := hid (fun W (hb : Below X2.heap.size X2 W) => (SD.out.tq.low hb).names)
  have RN := hid (fun W (hb : Below X2.heap.size X2 W) => rnamesL mo va vc L (st i).d HLE.out W (SD.out.od.low hb) hdl)
  rw [SD.out.re.names] at RN
  have NL : Hid ((srt (nmL (st i).l)).length ≤ 65536) := hid (by rw [srt_len, nmL_len, hcn]; exact hdl)
  generalize srt (nmL (st i).l) = ss at *
  have TX := hid (fun (W : World) (a1 a2 : Option Addr) (c1 c2 b1 b2 : Nat) (o1 : OwnS W b1 (.slice a1 ss.length c1) ss) (o2 : OwnS W b2 (.slice a2 ss.length c2) ss) => texts_same a1 a2 c1 c2 ss W NL.out (items_of o1) (items_of o2))
  clear hsl hsp hcn hit ok hN
  go_wp2_with fail
  go_region_held3 (fun X => X.cell? ⟨X2.heap.size, 0, none⟩ = some (.int .i64 mo) ∧ X.cell? ⟨X2.heap.size, 1, none⟩ = some (.slice va L vc))
    (first | exact ⟨t1, t2⟩ | exact T5 | exact T6 | exact T7)
    (first
      | (go_at_call 12; refine (NM.out _ BQ.out.lo.drew).mono ?_; rintro e w5 ⟨v1, rfl, ho1, hb⟩; have B5 := hid (BQ.out.low (belowV hb)); have T5 := And.intro B5.out.c1 B5.out.c2; obtain ⟨n1, k1, e1⟩ := own_len ho1; subst e1; have O1 := hid ho1; clear hb ho1)
      | (go_at_call 17; refine (RN.out _ B5.out.lo).mono ?_; rintro e w6 ⟨v2, rfl, ho2, hb⟩; have B6 := hid (B5.out.low hb); have T6 := And.intro B6.out.c1 B6.out.c2; obtain ⟨n2, k2, e2⟩ := own_len ho2; subst e2; have O2 := hid ho2; have O1' := hid (own_low O1.out hb); clear hb ho2)
      | (go_at_call 11; refine (TX.out _ _ _ _ _ _ _ O1'.out O2.out).mono ?_; rintro e w7 ⟨rfl, nd, hw7⟩; have B7 := hid (B6.out.low (show Below w6.heap.size w6 w7 by rw [hw7]; exact belowD _ _)); have T7 := And.intro B7.out.c1 B7.out.c2; clear hw7))
  go_wp2_with fail
  rw [← HQ.out]
  exact ⟨rfl, st, W2.out.low B7.out.lo, HR.out⟩
set_option maxHeartbeats 8000000 in
set_option maxRecDepth 100000 in
theorem st_all (w0 w : World) (B : Nat) {G : List Nat} (st : Nat → St) (oa ot ov : Int) (s : ByteArray) (h : Wh w0 w B G st) (hr : Re st) :
    Calls Tryd.prog 16 #[.pointer (some ⟨B, 0, none⟩), .agg #[.int .i64 9, .int .i64 oa, .int .i64 ot, .string s, .int .i64 ov]] w fun e w' => e = .returned (.bool true) ∧ ∃ st', Wh w0 w' B G st' ∧ Re st' := by
  obtain ⟨i, ei, hi⟩ := i64_and3 oa
  obtain ⟨j, ej, hj⟩ := i64_and3 ot
  have W1 := hid (h.low ((Below.refl w.heap.size w).alloc (Nat.le_refl _) (.cells #[.int .i64 9, .int .i64 oa, .int .i64 ot, .string s, .int .i64 ov] 44)))
  have BO := hid (Bo.mk5 w 9 oa ot ov s 44)
  have HR := hid hr
  obtain ⟨b, hb⟩ := (h.tq i hi).form
  obtain ⟨va, vc, hv⟩ := own_len (h.od i hi)
  obtain ⟨c0, c1, c2⟩ := W1.out.cells hi
  rw [hb] at c0
  rw [hv] at c2
  have HV := hid hv
  have HBP := hid hb
  have o0 := BO.out.o0
  have o1 := BO.out.o1
  have o2 := BO.out.o2
  have o3 := BO.out.o3
  have o4 := BO.out.o4
  have hi4 : (i : Int) < 4 := by omega
  clear h hr hb hv
  generalize hQ : (fun (e : Ending) (w' : World) => e = .returned (.bool true) ∧ ∃ st', Wh w0 w' B G st' ∧ Re st') = Q
  have HQ := hid hQ
  clear hQ
  go_enter Tryd.func16, Tryd.ntmps16
  go_wp2_with fail
  generalize w.alloc (.cells #[.int .i64 9, .int .i64 oa, .int .i64 ot, .string s, .int .i64 ov] 44) = X1 at *
  go_quiet (fail)
  go_wp2_with fail
  have W2 := hid (W1.out.low (belowD X1 nq))
  have B2 := hid (BO.out.low (belowD X1 nq))
  have hw0 : w.heap.size < (X1.drewN nq).heap.size := B2.out.sz
  clear c0 c1 c2 o0 o1 o2 o3 o4
  generalize X1.drewN nq = X2 at *
  clear W1 BO
  obtain ⟨c0, c1, c2⟩ := W2.out.cells hi
  rw [HBP.out] at c0
  rw [HV.out] at c2
  have hB3 := W2.out.lt
  generalize (st i).mo = mo at *
  generalize hLe : (st i).d.length = L at *
  have HLE := hid hLe.symm
  clear hLe
  have o0 := B2.out.o0
  have o1 := B2.out.o1
  have o2 := B2.out.o2
  have o3 := B2.out.o3
  have o4 := B2.out.o4
  have SD := hid (sd_of hi W2.out HR.out HBP.out HV.out)
  go_region
  have BQ := hid ((Bq.mk1 X2 mo (.slice va L vc) 49).low (belowDr _))
  have BO3 := hid (B2.out.low (((Below.refl X2.heap.size X2).alloc (Nat.le_refl _) (.cells #[.int .i64 mo, .slice va L vc] 49)).drew))
  clear c0 c1 c2 o0 o1 o2 o3 o4
  generalize (X2.alloc (.cells #[.int .i64 mo, .slice va L vc] 49)).drew = X3 at *
  have t1 := BQ.out.c1
  have t2 := BQ.out.c2
  have o0 := BO3.out.o0
  have o1 := BO3.out.o1
  have o2 := BO3.out.o2
  have o3 := BO3.out.o3
  have o4 := BO3.out.o4
  have hdl : L ≤ 65536 := by have := SD.out.dl; rw [← HLE.out] at this; exact this
  have ok := SD.out.tq.ok
  have hsl := SD.out.re.slots ok
  have hsp : spanD (st i).d = (st i).l.length := SD.out.re.span ok.tr
  have hcn : cnt (st i).l = L := by rw [HLE.out]; exact SD.out.re.len.symm
  have hN : (st i).l.length ≤ 65536 := Nat.le_trans ok.le ok.mm
  have hit : ItD X2 va vc (st i).d := own_itemsD (by rw [← HLE.out]; exact SD.out.od)
  obtain ⟨n, hn⟩ : ∃ n : Int, n = min ov 66000 := ⟨_, rfl⟩
  have hn2 : n ≤ 66000 := by omega
  have hmin : min ov 66000 = n := hn.symm
  have TK := hid (fun W (hb : Below X2.heap.size X2 W) => (SD.out.tq.low hb).taken n hn2)
  have RB := hid (fun W (hb : Below X2.heap.size X2 W) => rbyslotL mo va vc L (st i).d HLE.out W (SD.out.od.low hb) hdl hsl)
  have BYS := hid (SD.out.re.bys_all ok.tr)
  have BDL : Hid ((bsD (st i).d (spanD (st i).d)).length ≤ 65536) := hid (Nat.le_trans (bsD_len _ _) (by rw [hsp]; exact hN))
  generalize bsD (st i).d (spanD (st i).d) = bd at *
  generalize tk (bs (st i).l) = tt at *
  obtain ⟨ps, hps⟩ : ∃ ps, ps = tt.take n.toNat := ⟨_, rfl⟩
  rw [← hps] at TK
  have RA := hid (fun (W : World) (a1 a2 : Option Addr) (c1 c2 b1 b2 : Nat) (o1 : OwnP W b1 (.slice a1 ps.length c1) ps) (o2 : W.ownsRow b2 77 3 (.slice a2 bd.length c2) bd.length (cellsD bd)) => rowsare_any a1 a2 c1 c2 _ _ ps bd n W rfl rfl (by rw [hps, BYS.out]) BDL.out hn2 (itemsP_of o1) (itemsE_of o2))
  clear hsl hsp hcn hit ok hN hps hn BYS
  go_wp2_with fail
  go_region_held3 (fun X => X.cell? ⟨X2.heap.size, 0, none⟩ = some (.int .i64 mo) ∧ X.cell? ⟨X2.heap.size, 1, none⟩ = some (.slice va L vc))
    (first | exact ⟨t1, t2⟩ | exact T5 | exact T6 | exact T7)
    (first
      | (go_at_call 33; refine (TK.out _ BQ.out.lo.drew).mono ?_; rintro e w8 ⟨v3, rfl, ho3, hb⟩; have B8 := hid (BQ.out.low (belowV hb)); have T5 := And.intro B8.out.c1 B8.out.c2; obtain ⟨n3, k3, e3⟩ := own_len ho3; subst e3; have O3 := hid ho3; clear hb ho3)
      | (go_at_call 34; refine (RB.out _ B8.out.lo).mono ?_; rintro e w9 ⟨v4, rfl, ho4, hb⟩; have B9 := hid (B8.out.low hb); have T6 := And.intro B9.out.c1 B9.out.c2; obtain ⟨n4, k4, e4⟩ := own_len ho4; subst e4; have O4 := hid ho4; have O3' := hid (own_low O3.out hb); clear hb ho4)
      | (go_at_call 32; refine (RA.out _ _ _ _ _ _ _ O3'.out O4.out).mono ?_; rintro e w10 ⟨rfl, nd, hw7⟩; have B10 := hid (B9.out.low (show Below w9.heap.size w9 w10 by rw [hw7]; exact belowD _ _)); have T7 := And.intro B10.out.c1 B10.out.c2; clear hw7))
  go_wp2_with fail
  rw [← HQ.out]
  exact ⟨rfl, st, W2.out.low B10.out.lo, HR.out⟩
set_option maxHeartbeats 8000000 in
set_option maxRecDepth 100000 in
theorem st_find (w0 w : World) (B : Nat) {G : List Nat} (st : Nat → St) (oa ot ov : Int) (s : ByteArray) (hs : s.size ≤ maxLen) (h : Wh w0 w B G st) (hr : Re st) :
    Calls Tryd.prog 16 #[.pointer (some ⟨B, 0, none⟩), .agg #[.int .i64 5, .int .i64 oa, .int .i64 ot, .string s, .int .i64 ov]] w fun e w' => e = .returned (.bool true) ∧ ∃ st', Wh w0 w' B G st' ∧ Re st' := by
  obtain ⟨i, ei, hi⟩ := i64_and3 oa
  obtain ⟨j, ej, hj⟩ := i64_and3 ot
  have W1 := hid (h.low ((Below.refl w.heap.size w).alloc (Nat.le_refl _) (.cells #[.int .i64 5, .int .i64 oa, .int .i64 ot, .string s, .int .i64 ov] 44)))
  have BO := hid (Bo.mk5 w 5 oa ot ov s 44)
  have HR := hid hr
  obtain ⟨b, hb⟩ := (h.tq i hi).form
  obtain ⟨va, vc, hv⟩ := own_len (h.od i hi)
  obtain ⟨c0, c1, c2⟩ := W1.out.cells hi
  rw [hb] at c0
  rw [hv] at c2
  have HV := hid hv
  have HBP := hid hb
  have o0 := BO.out.o0
  have o1 := BO.out.o1
  have o2 := BO.out.o2
  have o3 := BO.out.o3
  have o4 := BO.out.o4
  have hi4 : (i : Int) < 4 := by omega
  clear h hr hb hv
  generalize hQ : (fun (e : Ending) (w' : World) => e = .returned (.bool true) ∧ ∃ st', Wh w0 w' B G st' ∧ Re st') = Q
  have HQ := hid hQ
  clear hQ
  go_enter Tryd.func16, Tryd.ntmps16
  go_wp2_with fail
  generalize w.alloc (.cells #[.int .i64 5, .int .i64 oa, .int .i64 ot, .string s, .int .i64 ov] 44) = X1 at *
  go_quiet (fail)
  go_wp2_with fail
  have W2 := hid (W1.out.low (belowD X1 nq))
  have B2 := hid (BO.out.low (belowD X1 nq))
  have hw0 : w.heap.size < (X1.drewN nq).heap.size := B2.out.sz
  clear c0 c1 c2 o0 o1 o2 o3 o4
  generalize X1.drewN nq = X2 at *
  clear W1 BO
  obtain ⟨c0, c1, c2⟩ := W2.out.cells hi
  rw [HBP.out] at c0
  rw [HV.out] at c2
  have hB3 := W2.out.lt
  generalize (st i).mo = mo at *
  generalize hLe : (st i).d.length = L at *
  have HLE := hid hLe.symm
  clear hLe
  have o0 := B2.out.o0
  have o1 := B2.out.o1
  have o2 := B2.out.o2
  have o3 := B2.out.o3
  have o4 := B2.out.o4
  have SD := hid (sd_of hi W2.out HR.out HBP.out HV.out)
  go_region
  have BQ := hid ((Bq.mk1 X2 mo (.slice va L vc) 49).low (belowDr _))
  have BO3 := hid (B2.out.low (((Below.refl X2.heap.size X2).alloc (Nat.le_refl _) (.cells #[.int .i64 mo, .slice va L vc] 49)).drew))
  clear c0 c1 c2 o0 o1 o2 o3 o4
  generalize (X2.alloc (.cells #[.int .i64 mo, .slice va L vc] 49)).drew = X3 at *
  have t1 := BQ.out.c1
  have t2 := BQ.out.c2
  have o0 := BO3.out.o0
  have o1 := BO3.out.o1
  have o2 := BO3.out.o2
  have o3 := BO3.out.o3
  have o4 := BO3.out.o4
  have hdl : L ≤ 65536 := by have := SD.out.dl; rw [← HLE.out] at this; exact this
  have ok := SD.out.tq.ok
  have hsl := SD.out.re.slots ok
  have hsp : spanD (st i).d = (st i).l.length := SD.out.re.span ok.tr
  have hcn : cnt (st i).l = L := by rw [HLE.out]; exact SD.out.re.len.symm
  have hN : (st i).l.length ≤ 65536 := Nat.le_trans ok.le ok.mm
  have hit : ItD X2 va vc (st i).d := own_itemsD (by rw [← HLE.out]; exact SD.out.od)
  have RF := hid (fun W (hb : Below X2.heap.size X2 W) => findL HLE.out (w := X2) (W := W) mo s hit hdl hb)
  rcases SD.out.re.find s with ⟨hn, hf⟩ | ⟨k, hf, hk, h1, h2, h3, h4⟩
  · have FN := hid (fun W (hb : Below X2.heap.size X2 W) => (SD.out.tq.low hb).findNo s hs hn)
    rw [hf] at RF
    clear hsl hsp hcn hit ok hN hn hf
    go_wp2_with (first
      | (go_at_call 9; refine (FN.out _ BQ.out.lo).mono ?_; rintro e w5 ⟨rfl, hb⟩; have B5 := hid (BQ.out.low hb); have O5 := hid (BO3.out.low hb); clear t1 t2 o0 o1 o2 o3 o4 hb; have t1 := B5.out.c1; have t2 := B5.out.c2; have o3 := O5.out.o3; have o4 := O5.out.o4)
      | (go_at_call 29; refine (RF.out _ B5.out.lo).mono ?_; rintro e w6 ⟨rfl, hb⟩; have B6 := hid (B5.out.low hb); clear hb))
    rw [← HQ.out]
    exact ⟨rfl, st, W2.out.low B6.out.lo, HR.out⟩
  · have FY := hid (fun W (hb : Below X2.heap.size X2 W) => (SD.out.tq.low hb).findYes s h1 h2)
    rw [hf] at RF
    rw [h4] at FY
    have hkL : k < L := by rw [HLE.out]; exact hk
    have ROWS := hid (fun W (hb : Below X2.heap.size X2 W) => SD.out.od.low hb)
    rcases own_form SD.out.od with ⟨e0, h0⟩ | ⟨g, cap', e0, hle, hmx, hg⟩
    · omega
    injection e0 with e1 e2 e3
    clear e2 hle hmx
    subst e1 e3
    have SRC := hid (fun W (hb : Below X2.heap.size X2 W) => rowsD HLE.out (ROWS.out W hb) k hkL)
    clear hsl hsp hcn hit ok hN hf h1 h2 h3 h4 hk ROWS
    generalize ds (st i).d k = sl at *
    generalize dn (st i).d k = nmk at *
    generalize dl (st i).d k = vk at *
    go_wp2_with (first
      | (go_at_call 9; refine (FY.out _ BQ.out.lo).mono ?_; rintro e w5 ⟨rfl, hb⟩; have B5 := hid (BQ.out.low hb); have O5 := hid (BO3.out.low hb); clear t1 t2 o0 o1 o2 o3 o4 hb; have t1 := B5.out.c1; have t2 := B5.out.c2; have o3 := O5.out.o3; have o4 := O5.out.o4)
      | (go_at_call 29; refine (RF.out _ B5.out.lo).mono ?_; rintro e w6 ⟨rfl, hb⟩; have B6 := hid (B5.out.low hb); clear hb t1 t2; have t1 := B6.out.c1; have t2 := B6.out.c2; obtain ⟨r0, r1, r2⟩ := SRC.out _ B6.out.lo))
    rw [← HQ.out]
    exact ⟨rfl, st, W2.out.low B6.out.lo, HR.out⟩
set_option maxHeartbeats 8000000 in
set_option maxRecDepth 100000 in
theorem st_at (w0 w : World) (B : Nat) {G : List Nat} (st : Nat → St) (oa ot ov : Int) (s : ByteArray) (h : Wh w0 w B G st) (hr : Re st) :
    Calls Tryd.prog 16 #[.pointer (some ⟨B, 0, none⟩), .agg #[.int .i64 6, .int .i64 oa, .int .i64 ot, .string s, .int .i64 ov]] w fun e w' => e = .returned (.bool true) ∧ ∃ st', Wh w0 w' B G st' ∧ Re st' := by
  obtain ⟨i, ei, hi⟩ := i64_and3 oa
  obtain ⟨j, ej, hj⟩ := i64_and3 ot
  have W1 := hid (h.low ((Below.refl w.heap.size w).alloc (Nat.le_refl _) (.cells #[.int .i64 6, .int .i64 oa, .int .i64 ot, .string s, .int .i64 ov] 44)))
  have BO := hid (Bo.mk5 w 6 oa ot ov s 44)
  have HR := hid hr
  obtain ⟨b, hb⟩ := (h.tq i hi).form
  obtain ⟨va, vc, hv⟩ := own_len (h.od i hi)
  obtain ⟨c0, c1, c2⟩ := W1.out.cells hi
  rw [hb] at c0
  rw [hv] at c2
  have HV := hid hv
  have HBP := hid hb
  have o0 := BO.out.o0
  have o1 := BO.out.o1
  have o2 := BO.out.o2
  have o3 := BO.out.o3
  have o4 := BO.out.o4
  have hi4 : (i : Int) < 4 := by omega
  clear h hr hb hv
  generalize hQ : (fun (e : Ending) (w' : World) => e = .returned (.bool true) ∧ ∃ st', Wh w0 w' B G st' ∧ Re st') = Q
  have HQ := hid hQ
  clear hQ
  go_enter Tryd.func16, Tryd.ntmps16
  go_wp2_with fail
  generalize w.alloc (.cells #[.int .i64 6, .int .i64 oa, .int .i64 ot, .string s, .int .i64 ov] 44) = X1 at *
  go_quiet (fail)
  go_wp2_with fail
  have W2 := hid (W1.out.low (belowD X1 nq))
  have B2 := hid (BO.out.low (belowD X1 nq))
  have hw0 : w.heap.size < (X1.drewN nq).heap.size := B2.out.sz
  clear c0 c1 c2 o0 o1 o2 o3 o4
  generalize X1.drewN nq = X2 at *
  clear W1 BO
  obtain ⟨c0, c1, c2⟩ := W2.out.cells hi
  rw [HBP.out] at c0
  rw [HV.out] at c2
  have hB3 := W2.out.lt
  generalize (st i).mo = mo at *
  generalize hLe : (st i).d.length = L at *
  have HLE := hid hLe.symm
  clear hLe
  have o0 := B2.out.o0
  have o1 := B2.out.o1
  have o2 := B2.out.o2
  have o3 := B2.out.o3
  have o4 := B2.out.o4
  have SD := hid (sd_of hi W2.out HR.out HBP.out HV.out)
  go_region
  have BQ := hid ((Bq.mk1 X2 mo (.slice va L vc) 49).low (belowDr _))
  have BO3 := hid (B2.out.low (((Below.refl X2.heap.size X2).alloc (Nat.le_refl _) (.cells #[.int .i64 mo, .slice va L vc] 49)).drew))
  clear c0 c1 c2 o0 o1 o2 o3 o4
  generalize (X2.alloc (.cells #[.int .i64 mo, .slice va L vc] 49)).drew = X3 at *
  have t1 := BQ.out.c1
  have t2 := BQ.out.c2
  have o0 := BO3.out.o0
  have o1 := BO3.out.o1
  have o2 := BO3.out.o2
  have o3 := BO3.out.o3
  have o4 := BO3.out.o4
  have hdl : L ≤ 65536 := by have := SD.out.dl; rw [← HLE.out] at this; exact this
  have ok := SD.out.tq.ok
  have hsl := SD.out.re.slots ok
  have hsp : spanD (st i).d = (st i).l.length := SD.out.re.span ok.tr
  have hcn : cnt (st i).l = L := by rw [HLE.out]; exact SD.out.re.len.symm
  have hN : (st i).l.length ≤ 65536 := Nat.le_trans ok.le ok.mm
  have hit : ItD X2 va vc (st i).d := own_itemsD (by rw [← HLE.out]; exact SD.out.od)
  have RF := hid (fun W (hb : Below X2.heap.size X2 W) => atL HLE.out (w := X2) (W := W) mo ov hit hdl hb)
  rcases SD.out.re.at_ ov with ⟨hn, hf⟩ | ⟨k, hf, hk, h3, h1, h2, h4⟩
  · have FN := hid (fun W (hb : Below X2.heap.size X2 W) => (SD.out.tq.low hb).atNo ov hn)
    rw [hf] at RF
    clear hsl hsp hcn hit ok hN hn hf
    go_wp2_with (first
      | (go_at_call 14; refine (FN.out _ BQ.out.lo).mono ?_; rintro e w5 ⟨rfl, hb⟩; have B5 := hid (BQ.out.low hb); have O5 := hid (BO3.out.low hb); clear t1 t2 o0 o1 o2 o3 o4 hb; have t1 := B5.out.c1; have t2 := B5.out.c2; have o3 := O5.out.o3; have o4 := O5.out.o4)
      | (go_at_call 30; refine (RF.out _ B5.out.lo).mono ?_; rintro e w6 ⟨rfl, hb⟩; have B6 := hid (B5.out.low hb); clear hb))
    rw [← HQ.out]
    exact ⟨rfl, st, W2.out.low B6.out.lo, HR.out⟩
  · have FY := hid (fun W (hb : Below X2.heap.size X2 W) => (SD.out.tq.low hb).atYes (ds (st i).d k) h1)
    rw [hf] at RF
    rw [h4, h2, h3] at FY
    have hkL : k < L := by rw [HLE.out]; exact hk
    have ROWS := hid (fun W (hb : Below X2.heap.size X2 W) => SD.out.od.low hb)
    rcases own_form SD.out.od with ⟨e0, h0⟩ | ⟨g, cap', e0, hle, hmx, hg⟩
    · omega
    injection e0 with e1 e2 e3
    clear e2 hle hmx
    subst e1 e3
    have SRC := hid (fun W (hb : Below X2.heap.size X2 W) => rowsD HLE.out (ROWS.out W hb) k hkL)
    clear hsl hsp hcn hit ok hN hf h1 h2 h3 h4 hk ROWS
    generalize ds (st i).d k = sl at *
    generalize dn (st i).d k = nmk at *
    generalize dl (st i).d k = vk at *
    go_wp2_with (first
      | (go_at_call 14; refine (FY.out _ BQ.out.lo).mono ?_; rintro e w5 ⟨rfl, hb⟩; have B5 := hid (BQ.out.low hb); have O5 := hid (BO3.out.low hb); clear t1 t2 o0 o1 o2 o3 o4 hb; have t1 := B5.out.c1; have t2 := B5.out.c2; have o3 := O5.out.o3; have o4 := O5.out.o4)
      | (go_at_call 30; refine (RF.out _ B5.out.lo).mono ?_; rintro e w6 ⟨rfl, hb⟩; have B6 := hid (B5.out.low hb); clear hb t1 t2; have t1 := B6.out.c1; have t2 := B6.out.c2; obtain ⟨r0, r1, r2⟩ := SRC.out _ B6.out.lo))
    rw [← HQ.out]
    exact ⟨rfl, st, W2.out.low B6.out.lo, HR.out⟩
set_option maxHeartbeats 8000000 in
set_option maxRecDepth 100000 in
theorem st_ch1 (w0 w : World) (B : Nat) {G : List Nat} (st : Nat → St) (oa ot ov : Int) (s : ByteArray) (CH : ∀ (W : World) (i : Nat), i < 4 → Wh w0 W B G st → Calls Tryd.prog 28 #[.pointer (some ⟨B, 0, none⟩), .agg #[.int .i64 1, .int .i64 oa, .int .i64 ot, .string s, .int .i64 ov], .int .i64 (i : Int)] W fun e w' => e = .returned (.bool true) ∧ ∃ st', Wh w0 w' B G st' ∧ Re st') (h : Wh w0 w B G st) (hr : Re st) :
    Calls Tryd.prog 16 #[.pointer (some ⟨B, 0, none⟩), .agg #[.int .i64 1, .int .i64 oa, .int .i64 ot, .string s, .int .i64 ov]] w fun e w' => e = .returned (.bool true) ∧ ∃ st', Wh w0 w' B G st' ∧ Re st' := by
  obtain ⟨i, ei, hi⟩ := i64_and3 oa
  obtain ⟨j, ej, hj⟩ := i64_and3 ot
  have W1 := hid (h.low ((Below.refl w.heap.size w).alloc (Nat.le_refl _) (.cells #[.int .i64 1, .int .i64 oa, .int .i64 ot, .string s, .int .i64 ov] 44)))
  have BO := hid (Bo.mk5 w 1 oa ot ov s 44)
  have HR := hid hr
  obtain ⟨b, hb⟩ := (h.tq i hi).form
  obtain ⟨va, vc, hv⟩ := own_len (h.od i hi)
  obtain ⟨c0, c1, c2⟩ := W1.out.cells hi
  rw [hb] at c0
  rw [hv] at c2
  have HV := hid hv
  have HBP := hid hb
  have o0 := BO.out.o0
  have o1 := BO.out.o1
  have o2 := BO.out.o2
  have o3 := BO.out.o3
  have o4 := BO.out.o4
  have hi4 : (i : Int) < 4 := by omega
  clear h hr hb hv
  generalize hQ : (fun (e : Ending) (w' : World) => e = .returned (.bool true) ∧ ∃ st', Wh w0 w' B G st' ∧ Re st') = Q
  have HQ := hid hQ
  clear hQ
  go_enter Tryd.func16, Tryd.ntmps16
  go_wp2_with fail
  generalize w.alloc (.cells #[.int .i64 1, .int .i64 oa, .int .i64 ot, .string s, .int .i64 ov] 44) = X1 at *
  go_quiet (fail)
  go_wp2_with fail
  have W2 := hid (W1.out.low (belowD X1 nq))
  have B2 := hid (BO.out.low (belowD X1 nq))
  have hw0 : w.heap.size < (X1.drewN nq).heap.size := B2.out.sz
  clear c0 c1 c2 o0 o1 o2 o3 o4
  generalize X1.drewN nq = X2 at *
  clear W1 BO
  obtain ⟨c0, c1, c2⟩ := W2.out.cells hi
  rw [HBP.out] at c0
  rw [HV.out] at c2
  have hB3 := W2.out.lt
  generalize (st i).mo = mo at *
  generalize hLe : (st i).d.length = L at *
  have HLE := hid hLe.symm
  clear hLe
  have o0 := B2.out.o0
  have o1 := B2.out.o1
  have o2 := B2.out.o2
  have o3 := B2.out.o3
  have o4 := B2.out.o4
  have SD := hid (sd_of hi W2.out HR.out HBP.out HV.out)
  go_region
  have BQ := hid ((Bq.mk1 X2 mo (.slice va L vc) 49).low (belowDr _))
  have BO3 := hid (B2.out.low (((Below.refl X2.heap.size X2).alloc (Nat.le_refl _) (.cells #[.int .i64 mo, .slice va L vc] 49)).drew))
  clear c0 c1 c2 o0 o1 o2 o3 o4
  generalize (X2.alloc (.cells #[.int .i64 mo, .slice va L vc] 49)).drew = X3 at *
  have t1 := BQ.out.c1
  have t2 := BQ.out.c2
  have o0 := BO3.out.o0
  have o1 := BO3.out.o1
  have o2 := BO3.out.o2
  have o3 := BO3.out.o3
  have o4 := BO3.out.o4
  have hdl : L ≤ 65536 := by have := SD.out.dl; rw [← HLE.out] at this; exact this
  have W3 := hid (W2.out.low BQ.out.lo)
  have CW := hid (CH X3 i hi W3.out)
  clear CH
  go_wp2_with (go_at_call 28; refine CW.out.mono ?_; rintro e w5 ⟨rfl, hst⟩; have HS5 := hid hst; clear hst)
  rw [← HQ.out]
  exact ⟨rfl, HS5.out⟩
set_option maxHeartbeats 8000000 in
set_option maxRecDepth 100000 in
theorem st_ch2 (w0 w : World) (B : Nat) {G : List Nat} (st : Nat → St) (oa ot ov : Int) (s : ByteArray) (CH : ∀ (W : World) (i : Nat), i < 4 → Wh w0 W B G st → Calls Tryd.prog 28 #[.pointer (some ⟨B, 0, none⟩), .agg #[.int .i64 2, .int .i64 oa, .int .i64 ot, .string s, .int .i64 ov], .int .i64 (i : Int)] W fun e w' => e = .returned (.bool true) ∧ ∃ st', Wh w0 w' B G st' ∧ Re st') (h : Wh w0 w B G st) (hr : Re st) :
    Calls Tryd.prog 16 #[.pointer (some ⟨B, 0, none⟩), .agg #[.int .i64 2, .int .i64 oa, .int .i64 ot, .string s, .int .i64 ov]] w fun e w' => e = .returned (.bool true) ∧ ∃ st', Wh w0 w' B G st' ∧ Re st' := by
  obtain ⟨i, ei, hi⟩ := i64_and3 oa
  obtain ⟨j, ej, hj⟩ := i64_and3 ot
  have W1 := hid (h.low ((Below.refl w.heap.size w).alloc (Nat.le_refl _) (.cells #[.int .i64 2, .int .i64 oa, .int .i64 ot, .string s, .int .i64 ov] 44)))
  have BO := hid (Bo.mk5 w 2 oa ot ov s 44)
  have HR := hid hr
  obtain ⟨b, hb⟩ := (h.tq i hi).form
  obtain ⟨va, vc, hv⟩ := own_len (h.od i hi)
  obtain ⟨c0, c1, c2⟩ := W1.out.cells hi
  rw [hb] at c0
  rw [hv] at c2
  have HV := hid hv
  have HBP := hid hb
  have o0 := BO.out.o0
  have o1 := BO.out.o1
  have o2 := BO.out.o2
  have o3 := BO.out.o3
  have o4 := BO.out.o4
  have hi4 : (i : Int) < 4 := by omega
  clear h hr hb hv
  generalize hQ : (fun (e : Ending) (w' : World) => e = .returned (.bool true) ∧ ∃ st', Wh w0 w' B G st' ∧ Re st') = Q
  have HQ := hid hQ
  clear hQ
  go_enter Tryd.func16, Tryd.ntmps16
  go_wp2_with fail
  generalize w.alloc (.cells #[.int .i64 2, .int .i64 oa, .int .i64 ot, .string s, .int .i64 ov] 44) = X1 at *
  go_quiet (fail)
  go_wp2_with fail
  have W2 := hid (W1.out.low (belowD X1 nq))
  have B2 := hid (BO.out.low (belowD X1 nq))
  have hw0 : w.heap.size < (X1.drewN nq).heap.size := B2.out.sz
  clear c0 c1 c2 o0 o1 o2 o3 o4
  generalize X1.drewN nq = X2 at *
  clear W1 BO
  obtain ⟨c0, c1, c2⟩ := W2.out.cells hi
  rw [HBP.out] at c0
  rw [HV.out] at c2
  have hB3 := W2.out.lt
  generalize (st i).mo = mo at *
  generalize hLe : (st i).d.length = L at *
  have HLE := hid hLe.symm
  clear hLe
  have o0 := B2.out.o0
  have o1 := B2.out.o1
  have o2 := B2.out.o2
  have o3 := B2.out.o3
  have o4 := B2.out.o4
  have SD := hid (sd_of hi W2.out HR.out HBP.out HV.out)
  go_region
  have BQ := hid ((Bq.mk1 X2 mo (.slice va L vc) 49).low (belowDr _))
  have BO3 := hid (B2.out.low (((Below.refl X2.heap.size X2).alloc (Nat.le_refl _) (.cells #[.int .i64 mo, .slice va L vc] 49)).drew))
  clear c0 c1 c2 o0 o1 o2 o3 o4
  generalize (X2.alloc (.cells #[.int .i64 mo, .slice va L vc] 49)).drew = X3 at *
  have t1 := BQ.out.c1
  have t2 := BQ.out.c2
  have o0 := BO3.out.o0
  have o1 := BO3.out.o1
  have o2 := BO3.out.o2
  have o3 := BO3.out.o3
  have o4 := BO3.out.o4
  have hdl : L ≤ 65536 := by have := SD.out.dl; rw [← HLE.out] at this; exact this
  have W3 := hid (W2.out.low BQ.out.lo)
  have CW := hid (CH X3 i hi W3.out)
  clear CH
  go_wp2_with (go_at_call 28; refine CW.out.mono ?_; rintro e w5 ⟨rfl, hst⟩; have HS5 := hid hst; clear hst)
  rw [← HQ.out]
  exact ⟨rfl, HS5.out⟩
set_option maxHeartbeats 8000000 in
set_option maxRecDepth 100000 in
theorem st_ch3 (w0 w : World) (B : Nat) {G : List Nat} (st : Nat → St) (oa ot ov : Int) (s : ByteArray) (CH : ∀ (W : World) (i : Nat), i < 4 → Wh w0 W B G st → Calls Tryd.prog 28 #[.pointer (some ⟨B, 0, none⟩), .agg #[.int .i64 3, .int .i64 oa, .int .i64 ot, .string s, .int .i64 ov], .int .i64 (i : Int)] W fun e w' => e = .returned (.bool true) ∧ ∃ st', Wh w0 w' B G st' ∧ Re st') (h : Wh w0 w B G st) (hr : Re st) :
    Calls Tryd.prog 16 #[.pointer (some ⟨B, 0, none⟩), .agg #[.int .i64 3, .int .i64 oa, .int .i64 ot, .string s, .int .i64 ov]] w fun e w' => e = .returned (.bool true) ∧ ∃ st', Wh w0 w' B G st' ∧ Re st' := by
  obtain ⟨i, ei, hi⟩ := i64_and3 oa
  obtain ⟨j, ej, hj⟩ := i64_and3 ot
  have W1 := hid (h.low ((Below.refl w.heap.size w).alloc (Nat.le_refl _) (.cells #[.int .i64 3, .int .i64 oa, .int .i64 ot, .string s, .int .i64 ov] 44)))
  have BO := hid (Bo.mk5 w 3 oa ot ov s 44)
  have HR := hid hr
  obtain ⟨b, hb⟩ := (h.tq i hi).form
  obtain ⟨va, vc, hv⟩ := own_len (h.od i hi)
  obtain ⟨c0, c1, c2⟩ := W1.out.cells hi
  rw [hb] at c0
  rw [hv] at c2
  have HV := hid hv
  have HBP := hid hb
  have o0 := BO.out.o0
  have o1 := BO.out.o1
  have o2 := BO.out.o2
  have o3 := BO.out.o3
  have o4 := BO.out.o4
  have hi4 : (i : Int) < 4 := by omega
  clear h hr hb hv
  generalize hQ : (fun (e : Ending) (w' : World) => e = .returned (.bool true) ∧ ∃ st', Wh w0 w' B G st' ∧ Re st') = Q
  have HQ := hid hQ
  clear hQ
  go_enter Tryd.func16, Tryd.ntmps16
  go_wp2_with fail
  generalize w.alloc (.cells #[.int .i64 3, .int .i64 oa, .int .i64 ot, .string s, .int .i64 ov] 44) = X1 at *
  go_quiet (fail)
  go_wp2_with fail
  have W2 := hid (W1.out.low (belowD X1 nq))
  have B2 := hid (BO.out.low (belowD X1 nq))
  have hw0 : w.heap.size < (X1.drewN nq).heap.size := B2.out.sz
  clear c0 c1 c2 o0 o1 o2 o3 o4
  generalize X1.drewN nq = X2 at *
  clear W1 BO
  obtain ⟨c0, c1, c2⟩ := W2.out.cells hi
  rw [HBP.out] at c0
  rw [HV.out] at c2
  have hB3 := W2.out.lt
  generalize (st i).mo = mo at *
  generalize hLe : (st i).d.length = L at *
  have HLE := hid hLe.symm
  clear hLe
  have o0 := B2.out.o0
  have o1 := B2.out.o1
  have o2 := B2.out.o2
  have o3 := B2.out.o3
  have o4 := B2.out.o4
  have SD := hid (sd_of hi W2.out HR.out HBP.out HV.out)
  go_region
  have BQ := hid ((Bq.mk1 X2 mo (.slice va L vc) 49).low (belowDr _))
  have BO3 := hid (B2.out.low (((Below.refl X2.heap.size X2).alloc (Nat.le_refl _) (.cells #[.int .i64 mo, .slice va L vc] 49)).drew))
  clear c0 c1 c2 o0 o1 o2 o3 o4
  generalize (X2.alloc (.cells #[.int .i64 mo, .slice va L vc] 49)).drew = X3 at *
  have t1 := BQ.out.c1
  have t2 := BQ.out.c2
  have o0 := BO3.out.o0
  have o1 := BO3.out.o1
  have o2 := BO3.out.o2
  have o3 := BO3.out.o3
  have o4 := BO3.out.o4
  have hdl : L ≤ 65536 := by have := SD.out.dl; rw [← HLE.out] at this; exact this
  have W3 := hid (W2.out.low BQ.out.lo)
  have CW := hid (CH X3 i hi W3.out)
  clear CH
  go_wp2_with (go_at_call 28; refine CW.out.mono ?_; rintro e w5 ⟨rfl, hst⟩; have HS5 := hid hst; clear hst)
  rw [← HQ.out]
  exact ⟨rfl, HS5.out⟩
set_option maxHeartbeats 8000000 in
set_option maxRecDepth 100000 in
theorem st_ch4 (w0 w : World) (B : Nat) {G : List Nat} (st : Nat → St) (oa ot ov : Int) (s : ByteArray) (CH : ∀ (W : World) (i : Nat), i < 4 → Wh w0 W B G st → Calls Tryd.prog 28 #[.pointer (some ⟨B, 0, none⟩), .agg #[.int .i64 4, .int .i64 oa, .int .i64 ot, .string s, .int .i64 ov], .int .i64 (i : Int)] W fun e w' => e = .returned (.bool true) ∧ ∃ st', Wh w0 w' B G st' ∧ Re st') (h : Wh w0 w B G st) (hr : Re st) :
    Calls Tryd.prog 16 #[.pointer (some ⟨B, 0, none⟩), .agg #[.int .i64 4, .int .i64 oa, .int .i64 ot, .string s, .int .i64 ov]] w fun e w' => e = .returned (.bool true) ∧ ∃ st', Wh w0 w' B G st' ∧ Re st' := by
  obtain ⟨i, ei, hi⟩ := i64_and3 oa
  obtain ⟨j, ej, hj⟩ := i64_and3 ot
  have W1 := hid (h.low ((Below.refl w.heap.size w).alloc (Nat.le_refl _) (.cells #[.int .i64 4, .int .i64 oa, .int .i64 ot, .string s, .int .i64 ov] 44)))
  have BO := hid (Bo.mk5 w 4 oa ot ov s 44)
  have HR := hid hr
  obtain ⟨b, hb⟩ := (h.tq i hi).form
  obtain ⟨va, vc, hv⟩ := own_len (h.od i hi)
  obtain ⟨c0, c1, c2⟩ := W1.out.cells hi
  rw [hb] at c0
  rw [hv] at c2
  have HV := hid hv
  have HBP := hid hb
  have o0 := BO.out.o0
  have o1 := BO.out.o1
  have o2 := BO.out.o2
  have o3 := BO.out.o3
  have o4 := BO.out.o4
  have hi4 : (i : Int) < 4 := by omega
  clear h hr hb hv
  generalize hQ : (fun (e : Ending) (w' : World) => e = .returned (.bool true) ∧ ∃ st', Wh w0 w' B G st' ∧ Re st') = Q
  have HQ := hid hQ
  clear hQ
  go_enter Tryd.func16, Tryd.ntmps16
  go_wp2_with fail
  generalize w.alloc (.cells #[.int .i64 4, .int .i64 oa, .int .i64 ot, .string s, .int .i64 ov] 44) = X1 at *
  go_quiet (fail)
  go_wp2_with fail
  have W2 := hid (W1.out.low (belowD X1 nq))
  have B2 := hid (BO.out.low (belowD X1 nq))
  have hw0 : w.heap.size < (X1.drewN nq).heap.size := B2.out.sz
  clear c0 c1 c2 o0 o1 o2 o3 o4
  generalize X1.drewN nq = X2 at *
  clear W1 BO
  obtain ⟨c0, c1, c2⟩ := W2.out.cells hi
  rw [HBP.out] at c0
  rw [HV.out] at c2
  have hB3 := W2.out.lt
  generalize (st i).mo = mo at *
  generalize hLe : (st i).d.length = L at *
  have HLE := hid hLe.symm
  clear hLe
  have o0 := B2.out.o0
  have o1 := B2.out.o1
  have o2 := B2.out.o2
  have o3 := B2.out.o3
  have o4 := B2.out.o4
  have SD := hid (sd_of hi W2.out HR.out HBP.out HV.out)
  go_region
  have BQ := hid ((Bq.mk1 X2 mo (.slice va L vc) 49).low (belowDr _))
  have BO3 := hid (B2.out.low (((Below.refl X2.heap.size X2).alloc (Nat.le_refl _) (.cells #[.int .i64 mo, .slice va L vc] 49)).drew))
  clear c0 c1 c2 o0 o1 o2 o3 o4
  generalize (X2.alloc (.cells #[.int .i64 mo, .slice va L vc] 49)).drew = X3 at *
  have t1 := BQ.out.c1
  have t2 := BQ.out.c2
  have o0 := BO3.out.o0
  have o1 := BO3.out.o1
  have o2 := BO3.out.o2
  have o3 := BO3.out.o3
  have o4 := BO3.out.o4
  have hdl : L ≤ 65536 := by have := SD.out.dl; rw [← HLE.out] at this; exact this
  have W3 := hid (W2.out.low BQ.out.lo)
  have CW := hid (CH X3 i hi W3.out)
  clear CH
  go_wp2_with (go_at_call 28; refine CW.out.mono ?_; rintro e w5 ⟨rfl, hst⟩; have HS5 := hid hst; clear hst)
  rw [← HQ.out]
  exact ⟨rfl, HS5.out⟩
set_option maxHeartbeats 8000000 in
set_option maxRecDepth 100000 in
theorem st_copy (w0 w : World) (B : Nat) {G : List Nat} (st : Nat → St) (oa ot ov : Int) (s : ByteArray) (h : Wh w0 w B G st) (hr : Re st) :
    Calls Tryd.prog 16 #[.pointer (some ⟨B, 0, none⟩), .agg #[.int .i64 10, .int .i64 oa, .int .i64 ot, .string s, .int .i64 ov]] w fun e w' => e = .returned (.bool true) ∧ ∃ st', Wh w0 w' B G st' ∧ Re st' := by
  obtain ⟨i, ei, hi⟩ := i64_and3 oa
  obtain ⟨j, ej, hj⟩ := i64_and3 ot
  have W1 := hid (h.low ((Below.refl w.heap.size w).alloc (Nat.le_refl _) (.cells #[.int .i64 10, .int .i64 oa, .int .i64 ot, .string s, .int .i64 ov] 44)))
  have BO := hid (Bo.mk5 w 10 oa ot ov s 44)
  have HR := hid hr
  obtain ⟨b, hb⟩ := (h.tq i hi).form
  obtain ⟨va, vc, hv⟩ := own_len (h.od i hi)
  obtain ⟨c0, c1, c2⟩ := W1.out.cells hi
  rw [hb] at c0
  rw [hv] at c2
  have HV := hid hv
  have HBP := hid hb
  have o0 := BO.out.o0
  have o1 := BO.out.o1
  have o2 := BO.out.o2
  have o3 := BO.out.o3
  have o4 := BO.out.o4
  have hi4 : (i : Int) < 4 := by omega
  clear h hr hb hv
  generalize hQ : (fun (e : Ending) (w' : World) => e = .returned (.bool true) ∧ ∃ st', Wh w0 w' B G st' ∧ Re st') = Q
  have HQ := hid hQ
  clear hQ
  go_enter Tryd.func16, Tryd.ntmps16
  go_wp2_with fail
  generalize w.alloc (.cells #[.int .i64 10, .int .i64 oa, .int .i64 ot, .string s, .int .i64 ov] 44) = X1 at *
  go_quiet (fail)
  go_wp2_with fail
  have W2 := hid (W1.out.low (belowD X1 nq))
  have B2 := hid (BO.out.low (belowD X1 nq))
  have hw0 : w.heap.size < (X1.drewN nq).heap.size := B2.out.sz
  clear c0 c1 c2 o0 o1 o2 o3 o4
  generalize X1.drewN nq = X2 at *
  clear W1 BO
  obtain ⟨c0, c1, c2⟩ := W2.out.cells hi
  rw [HBP.out] at c0
  rw [HV.out] at c2
  have hB3 := W2.out.lt
  generalize (st i).mo = mo at *
  generalize hLe : (st i).d.length = L at *
  have HLE := hid hLe.symm
  clear hLe
  have o0 := B2.out.o0
  have o1 := B2.out.o1
  have o2 := B2.out.o2
  have o3 := B2.out.o3
  have o4 := B2.out.o4
  have SD := hid (sd_of hi W2.out HR.out HBP.out HV.out)
  go_region
  have BQ := hid ((Bq.mk1 X2 mo (.slice va L vc) 49).low (belowDr _))
  have BO3 := hid (B2.out.low (((Below.refl X2.heap.size X2).alloc (Nat.le_refl _) (.cells #[.int .i64 mo, .slice va L vc] 49)).drew))
  clear c0 c1 c2 o0 o1 o2 o3 o4
  generalize (X2.alloc (.cells #[.int .i64 mo, .slice va L vc] 49)).drew = X3 at *
  have t1 := BQ.out.c1
  have t2 := BQ.out.c2
  have o0 := BO3.out.o0
  have o1 := BO3.out.o1
  have o2 := BO3.out.o2
  have o3 := BO3.out.o3
  have o4 := BO3.out.o4
  have hdl : L ≤ 65536 := by have := SD.out.dl; rw [← HLE.out] at this; exact this
  have W3 := hid (W2.out.low BQ.out.lo)
  have CW := hid (copied_any w0 X3 B st W3.out HR.out i j hi hj)
  go_wp2_with (go_at_call 35; refine CW.out.mono ?_; rintro e w5 ⟨rfl, hst⟩; have HS5 := hid hst; clear hst)
  rw [← HQ.out]
  exact ⟨rfl, HS5.out⟩
set_option maxHeartbeats 8000000 in
set_option maxRecDepth 100000 in
theorem st_other (w0 w : World) (B : Nat) {G : List Nat} (st : Nat → St) (oa ot ov : Int) (s : ByteArray) (k : Int) (n1 : (k == 1) = false) (n2 : (k == 2) = false) (n3 : (k == 3) = false) (n4 : (k == 4) = false) (n5 : (k == 5) = false) (n6 : (k == 6) = false) (n7 : (k == 7) = false) (n8 : (k == 8) = false) (n9 : (k == 9) = false) (n10 : (k == 10) = false) (h : Wh w0 w B G st) (hr : Re st) :
    Calls Tryd.prog 16 #[.pointer (some ⟨B, 0, none⟩), .agg #[.int .i64 k, .int .i64 oa, .int .i64 ot, .string s, .int .i64 ov]] w fun e w' => e = .returned (.bool true) ∧ ∃ st', Wh w0 w' B G st' ∧ Re st' := by
  obtain ⟨i, ei, hi⟩ := i64_and3 oa
  obtain ⟨j, ej, hj⟩ := i64_and3 ot
  have W1 := hid (h.low ((Below.refl w.heap.size w).alloc (Nat.le_refl _) (.cells #[.int .i64 k, .int .i64 oa, .int .i64 ot, .string s, .int .i64 ov] 44)))
  have BO := hid (Bo.mk5 w k oa ot ov s 44)
  have HR := hid hr
  obtain ⟨b, hb⟩ := (h.tq i hi).form
  obtain ⟨va, vc, hv⟩ := own_len (h.od i hi)
  obtain ⟨c0, c1, c2⟩ := W1.out.cells hi
  rw [hb] at c0
  rw [hv] at c2
  have HV := hid hv
  have HBP := hid hb
  have o0 := BO.out.o0
  have o1 := BO.out.o1
  have o2 := BO.out.o2
  have o3 := BO.out.o3
  have o4 := BO.out.o4
  have hi4 : (i : Int) < 4 := by omega
  clear h hr hb hv
  generalize hQ : (fun (e : Ending) (w' : World) => e = .returned (.bool true) ∧ ∃ st', Wh w0 w' B G st' ∧ Re st') = Q
  have HQ := hid hQ
  clear hQ
  go_enter Tryd.func16, Tryd.ntmps16
  go_wp2_with fail
  generalize w.alloc (.cells #[.int .i64 k, .int .i64 oa, .int .i64 ot, .string s, .int .i64 ov] 44) = X1 at *
  go_quiet (fail)
  go_wp2_with fail
  have W2 := hid (W1.out.low (belowD X1 nq))
  have B2 := hid (BO.out.low (belowD X1 nq))
  have hw0 : w.heap.size < (X1.drewN nq).heap.size := B2.out.sz
  clear c0 c1 c2 o0 o1 o2 o3 o4
  generalize X1.drewN nq = X2 at *
  clear W1 BO
  obtain ⟨c0, c1, c2⟩ := W2.out.cells hi
  rw [HBP.out] at c0
  rw [HV.out] at c2
  have hB3 := W2.out.lt
  generalize (st i).mo = mo at *
  generalize hLe : (st i).d.length = L at *
  have HLE := hid hLe.symm
  clear hLe
  have o0 := B2.out.o0
  have o1 := B2.out.o1
  have o2 := B2.out.o2
  have o3 := B2.out.o3
  have o4 := B2.out.o4
  have SD := hid (sd_of hi W2.out HR.out HBP.out HV.out)
  go_region
  have BQ := hid ((Bq.mk1 X2 mo (.slice va L vc) 49).low (belowDr _))
  have BO3 := hid (B2.out.low (((Below.refl X2.heap.size X2).alloc (Nat.le_refl _) (.cells #[.int .i64 mo, .slice va L vc] 49)).drew))
  clear c0 c1 c2 o0 o1 o2 o3 o4
  generalize (X2.alloc (.cells #[.int .i64 mo, .slice va L vc] 49)).drew = X3 at *
  have t1 := BQ.out.c1
  have t2 := BQ.out.c2
  have o0 := BO3.out.o0
  have o1 := BO3.out.o1
  have o2 := BO3.out.o2
  have o3 := BO3.out.o3
  have o4 := BO3.out.o4
  have hdl : L ≤ 65536 := by have := SD.out.dl; rw [← HLE.out] at this; exact this
  go_wp2_with fail
  rw [← HQ.out]
  exact ⟨rfl, st, W2.out.low BQ.out.lo, HR.out⟩
end Go.Proofs.YtdhjoimiejdgbabDoor.L
