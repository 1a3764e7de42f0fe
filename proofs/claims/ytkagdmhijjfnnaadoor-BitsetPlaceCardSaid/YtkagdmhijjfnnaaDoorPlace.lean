import Derived.Test.YtkagdmhijjfnnaaDoorNew
namespace Go.Proofs.YtkagdmhijjfnnaaDoor
open Go.RowKit Bs
theorem xAt_alloc (w : World) (N : Int) (vA vB vC : Value) : XAt (w.alloc (.cells #[.int .i64 N, vA, vB, vC] 40)) w.heap.size N vA vB := ⟨by simp, by simp, by simp⟩
theorem below_alloc (w : World) (o : Obj) : Below w.heap.size w (w.alloc o) := (Below.refl _ _).alloc (Nat.le_refl _) _
/-- The beginning of a law over x: x is laid, awake is asked. -/
theorem place_begin (N : Int) (vA vB vC : Value) (w : World) (ht : Tab w) : Calls Tryd.prog 9 #[] (w.alloc (.cells #[.int .i64 N, vA, vB, vC] 40)) fun e w' => e = .returned (.bool true) ∧ XAt w' w.heap.size N vA vB ∧ Below w.heap.size w w' ∧ w.heap.size + 1 ≤ w'.heap.size := by
  have hb := below_alloc w (.cells #[.int .i64 N, vA, vB, vC] 40)
  refine (awake_any _ (ht.low hb ht.pos)).mono ?_
  rintro e w' ⟨rfl, h⟩
  exact ⟨rfl, (xAt_alloc w N vA vB vC).low h, belowT hb h, by have := h.size; simpa using this⟩
set_option maxRecDepth 100000 in
set_option maxHeartbeats 1000000 in
theorem place_out (N : Int) (vA vB vC : Value) (w : World) (ht : Tab w) (hN : ¬ (0 ≤ N ∧ N ≤ 65536)) :
    Calls Tryd.prog 8 #[.agg #[.int .i64 N, vA, vB, vC]] w fun e w' => e = .returned (.bool true) ∧ Below w.heap.size w w' := by
  have HN := hid hN
  have HT := hid ht
  clear hN ht
  go_enter Tryd.func8, Tryd.ntmps8
  go_wp2_with fail
  refine (place_begin N vA vB vC w HT.out).mono ?_
  rintro e w1 ⟨rfl, hx, hb, _⟩
  have hx0 := hx.c0
  have HB := hid hb
  clear hx hb
  go_wp2_with fail
  refine (sized_no _ _ HN.out).mono ?_
  rintro e w2 ⟨rfl, hww⟩
  subst hww
  go_wp2_with fail
  go_ret
  exact ⟨rfl, HB.out⟩
theorem all_four (w : World) (a b c d : Addr) : Calls Tryd.prog 15 #[.slice (some ⟨w.heap.size, 0, none⟩) 4 4] (w.alloc (.cells #[.pointer (some a), .pointer (some b), .pointer (some c), .pointer (some d)] 26)) fun e w' => e = .returned (.bool true) ∧ w' = w.alloc (.cells #[.pointer (some a), .pointer (some b), .pointer (some c), .pointer (some d)] 26) := by
  refine all_any w.heap.size 4 4 (fun j => match j with | 0 => a | 1 => b | 2 => c | _ => d) _ (by decide) ?_
  intro j hj
  match j, hj with
  | 0, _ => simp
  | 1, _ => simp
  | 2, _ => simp
  | 3, _ => simp
theorem grow_eq {w : World} {p q k : Nat} {S T : Nat → Bool} (h : SetAt w p q k S) (i : Nat) : ((S i || T i) && decide (i < k)) = (S i || (T i && decide (i < k))) := by
  cases a : S i
  · simp
  · have := h.bound i a
    simp [this]
theorem grow_fin {w : World} {p q k p' q' n : Nat} {S T : Nat → Bool} (h : SetAt w p q k S) (h' : SetAt w p' q' n T) (hk : k ≤ n) (i : Nat) :
    (((((((S i || T i) && decide (i < k)) || T i) && decide (i < n)) || ((((S i || T i) && decide (i < k)) || T i) && decide (i < n))) && decide (i < n)) && ((((((S i || T i) && decide (i < k)) || T i) && decide (i < n)) || ((((S i || T i) && decide (i < k)) || T i) && decide (i < n))) && decide (i < n))) = (S i || T i) := by
  cases a : S i
  · cases b : T i
    · simp
    · have := h'.bound i b
      simp [this]
  · have := h.bound i a
    have : i < n := by omega
    simp [*]
set_option maxRecDepth 100000 in
set_option maxHeartbeats 4000000 in
theorem place_in (n h : Nat) (vA vB vC : Value) (zA zB : List Int) (w : World) (ht : Tab w) (hn : n ≤ 65536) (hh : (n : Int) / 2 = (h : Int)) (iA : Ints w vA zA) (iB : Ints w vB zB)
    (rA : zA.length * 8 ≤ 140737488351232) (rB : zB.length * 8 ≤ 140737488351232) :
    Calls Tryd.prog 8 #[.agg #[.int .i64 n, vA, vB, vC]] w fun e w' => e = .returned (.bool true) ∧ Below w.heap.size w w' := by
  have HT := hid ht
  have HA := hid iA
  have HB := hid iB
  have hn0 : 0 ≤ (n : Int) := by omega
  have hn1 : (n : Int) ≤ 65536 := by omega
  have hh2 : h ≤ 65536 := by omega
  have HRA := hid rA
  have HRB := hid rB
  clear ht iA iB rA rB
  go_enter Tryd.func8, Tryd.ntmps8
  go_wp2_with fail
  refine (place_begin n vA vB vC w HT.out).mono ?_
  rintro e w1 ⟨rfl, hx, hb1, hs1⟩
  have hx0 := hx.c0
  have hx1 := hx.c1
  have hx2 := hx.c2
  have X1 := hid hx
  have B1 := hid hb1
  have S1 := hid hs1
  clear hx hb1 hs1
  go_wp2_with fail
  refine (sized_yes _ _ hn0 hn1).mono ?_
  rintro e w2 ⟨rfl, hww⟩
  subst hww
  go_wp2_with fail
  go_region_held3 (fun W => W.cell? ⟨w.heap.size, 0, none⟩ = some (.int .i64 n) ∧ W.cell? ⟨w.heap.size, 1, none⟩ = some vA ∧ W.cell? ⟨w.heap.size, 2, none⟩ = some vB)
    (first | exact ⟨hx0, hx1, hx2⟩ | exact ⟨xB.c0, xB.c1, xB.c2⟩ | exact ⟨xA.c0, xA.c1, xA.c2⟩)
    (first
      | (go_at_call_of 14 vA; refine (of_new n vA zA _ hn HRA.out ?_).mono ?_; exact HA.out.low B1.out.drew; rintro e w3 ⟨pa, qa, rfl, fA⟩; have xA := X1.out.drew.low fA.low)
      | (go_at_call_of 14 vB; refine (of_new n vB zB _ hn HRB.out ?_).mono ?_; exact (HB.out.low B1.out.drew).low fA.low; rintro e w4 ⟨pb, qb, rfl, fB⟩; have xB := xA.low fB.low))
  have bA : SetAt w4 pa qa n (sOf n zA) := fA.at'.low fB.low
  have bB : SetAt w4 pb qb n (sOf n zB) := fB.at'
  have b4 : Below w.heap.size w w4 := (belowT B1.out.drew fA.low).trans (fB.low.mono (Nat.le_trans B1.out.drew.size fA.low.size))
  have i4 : Ints w4 vA zA := HA.out.low b4
  have O4 : w.heap.size < pa ∧ w.heap.size < qa ∧ pa ≠ qb ∧ qa ≠ qb ∧ w.heap.size < pb ∧ w.heap.size < qb ∧ pb ≠ qa := by
    have h1 := S1.out
    have h2 := fA.hp
    have h3 := fA.hq
    have h4 := fB.hp
    have h5 := fB.hq
    have h6 := fA.at'.plt
    have h7 := fA.at'.qlt
    have h8 : w2.drew.heap.size = w2.heap.size := rfl
    omega
  have x1 := xB.c1
  have HbA := hid bA
  have HbB := hid bB
  have Hb4 := hid b4
  have Hi4 := hid i4
  have HO4 := hid O4
  have HX4 := hid xB
  clear bA bB b4 i4 O4 xB xA fA fB X1 S1 hx0 hx1 hx2
  go_wp2_with fail
  refine (of_new h vA zA _ hh2 HRA.out Hi4.out).mono ?_
  rintro e w5 ⟨ps, qs, rfl, fS⟩
  have FS := hid fS
  clear fS
  go_wp2_with fail
  refine (new_new h _ hh2).mono ?_
  rintro e w6 ⟨pr, qr, rfl, fR⟩
  have FR := hid fR
  clear fR
  go_wp2_with fail
  refine (all_four w6 _ _ _ _).mono ?_
  rintro e w7 ⟨rfl, hw7⟩
  have b67 : Below w6.heap.size w6 w7 := by rw [hw7]; exact below_alloc _ _
  have HB67 := hid b67
  clear hw7 b67
  go_wp2_with fail
  refine (num_any _ _).mono ?_
  rintro e w8 ⟨rfl, hww⟩
  subst hww
  go_wp2_with fail
  have r7 : SetAt w8 pr qr h (fun m => decide (m < 0)) := (FR.out.at'.low HB67.out).turn (fun i => by simp)
  have R7 := hid r7
  clear r7
  go_loopw [9] (fun i wr => ∃ k : Nat, k ≤ h ∧ i = .int .i64 k ∧ SetAt wr pr qr h (fun m => decide (m < k)) ∧ Chg qr w8 wr) (fun i _ => h - (intOf i).toNat)
  case atStart => exact ⟨0, Nat.zero_le _, rfl, R7.out, Chg.refl _ _⟩
  case round =>
    obtain ⟨k, hk, rfl, hset, hchg⟩ := hrel
    have HSET := hid hset
    have HCHG := hid hchg
    clear hset hchg
    by_cases hlt : k < h
    · go_wp2_with (go_at_call 39; refine (add_set k _ HSET.out hlt).mono ?_; rintro e w9 ⟨rfl, hs9, hg9⟩)
      go_roundw
      case rel => exact ⟨k + 1, by omega, by go_num, hs9.turn (fun i => by rw [Bool.eq_iff_iff]; simp; omega), HCHG.out.trans hg9⟩
      case measure => simp [intOf]; omega
    · have e : k = h := by omega
      subst e
      have o1 := FS.out.hp
      have o2 := FS.out.hq
      have o3 := FR.out.hp
      have o4 := FR.out.hq
      have o5 := HbB.out.plt
      have o6 := HbB.out.qlt
      have o7 := FS.out.at'.plt
      have o8 := FS.out.at'.qlt
      have o9 := FS.out.low.size
      have o10 := HX4.out.lt
      have sB : SetAt wr pb qb n (sOf n zB) := (((HbB.out.low FS.out.low).low FR.out.low).low HB67.out).keep HCHG.out (by omega) (by omega)
      have sS : SetAt wr ps qs k (sOf k zA) := ((FS.out.at'.low FR.out.low).low HB67.out).keep HCHG.out (by omega) (by omega)
      have xr : XAt wr w.heap.size n vA vB := (((HX4.out.low FS.out.low).low FR.out.low).low HB67.out).keep HCHG.out (by omega)
      have br : Below w.heap.size w wr := Chg.below (belowT (belowT (belowT Hb4.out FS.out.low) FR.out.low) HB67.out) HCHG.out (by omega) (belowT (belowT (belowT Hb4.out FS.out.low) FR.out.low) HB67.out).size
      have SB := hid sB
      have SS := hid sS
      have SR := HSET
      have XR := hid xr
      have BR := hid br
      clear o1 o2 o3 o4 o5 o6 o7 o8 o9 o10 sB sS xr br HSET HCHG FS FR R7 HB67 HbA HbB Hb4 Hi4 HO4 HX4 x1 hk hlt B1
      go_wp2_with fail
      refine (clone_new _ SB.out).mono ?_
      rintro e w9 ⟨pw, qw, rfl, f9⟩
      have F9 := hid f9
      clear f9
      go_wp2_with fail
      refine (clone_new _ (SS.out.low F9.out.low)).mono ?_
      rintro e w10 ⟨po, qo, rfl, f10⟩
      have F10 := hid f10
      clear f10
      go_wp2_with fail
      refine (clone_new _ ((SS.out.low F9.out.low).low F10.out.low)).mono ?_
      rintro e w11 ⟨pn, qn, rfl, f11⟩
      have F11 := hid f11
      clear f11
      go_wp2_with fail
      refine (clone_new _ (((SS.out.low F9.out.low).low F10.out.low).low F11.out.low)).mono ?_
      rintro e w12 ⟨pl, ql, rfl, f12⟩
      have b12 : Below wr.heap.size wr w12 := belowT (belowT (belowT F9.out.low F10.out.low) F11.out.low) f12.low
      have o1 := F9.out.hp
      have o2 := F9.out.hq
      have o3 := F10.out.hp
      have o4 := F10.out.hq
      have o5 := F11.out.hp
      have o6 := F11.out.hq
      have o7 := f12.hp
      have o8 := f12.hq
      have o9 := F9.out.at'.plt
      have o10 := F9.out.at'.qlt
      have o11 := F10.out.at'.plt
      have o12 := F10.out.at'.qlt
      have o13 := F11.out.at'.plt
      have o14 := F11.out.at'.qlt
      have o15 := SB.out.plt
      have o16 := SB.out.qlt
      have o17 := SS.out.plt
      have o18 := SS.out.qlt
      have o19 := SR.out.plt
      have o20 := SR.out.qlt
      have o21 := XR.out.lt
      have o22 := F9.out.low.size
      have o23 := F10.out.low.size
      have o24 := F11.out.low.size
      have sW : SetAt w12 pw qw n (sOf n zB) := ((F9.out.at'.low F10.out.low).low F11.out.low).low f12.low
      have sO : SetAt w12 po qo k (sOf k zA) := (F10.out.at'.low F11.out.low).low f12.low
      have sN : SetAt w12 pn qn k (sOf k zA) := F11.out.at'.low f12.low
      have sL : SetAt w12 pl ql k (sOf k zA) := f12.at'
      have O := hid (show w.heap.size < wr.heap.size ∧ pb < wr.heap.size ∧ qb < wr.heap.size ∧ ps < wr.heap.size ∧ qs < wr.heap.size ∧ pr < wr.heap.size ∧ qr < wr.heap.size ∧ wr.heap.size ≤ pw ∧ wr.heap.size ≤ qw ∧ pw < w9.heap.size ∧ qw < w9.heap.size ∧ w9.heap.size ≤ po ∧ w9.heap.size ≤ qo ∧ po < w10.heap.size ∧ qo < w10.heap.size ∧ w10.heap.size ≤ pn ∧ w10.heap.size ≤ qn ∧ pn < w11.heap.size ∧ qn < w11.heap.size ∧ w11.heap.size ≤ pl ∧ w11.heap.size ≤ ql ∧ wr.heap.size ≤ w9.heap.size ∧ w9.heap.size ≤ w10.heap.size ∧ w10.heap.size ≤ w11.heap.size from ⟨o21, o15, o16, o17, o18, o19, o20, o1, o2, o9, o10, o3, o4, o11, o12, o5, o6, o13, o14, o7, o8, o22, o23, o24⟩)
      have SB := hid (SB.out.low b12)
      have SS := hid (SS.out.low b12)
      have SR := hid (SR.out.low b12)
      have XR := hid (XR.out.low b12)
      have BR := hid (belowT BR.out b12)
      have SW := hid sW
      have SO := hid sO
      have SN := hid sN
      have SL := hid sL
      clear o1 o2 o3 o4 o5 o6 o7 o8 o9 o10 o11 o12 o13 o14 o15 o16 o17 o18 o19 o20 o21 o22 o23 o24 sW sO sN sL b12 f12 F9 F10 F11
      go_wp2_with fail
      refine (orwith_any _ SO.out SB.out (Or.inr (by have := O.out; omega))).mono ?_
      rintro e w13 ⟨rfl, s13, g13⟩
      have b13 := Chg.below BR.out g13 (by have := O.out; omega) BR.out.size
      have S13 := hid s13
      have SB13 := hid (SB.out.keep g13 (by have := O.out; omega) (by have := O.out; omega))
      have SS13 := hid (SS.out.keep g13 (by have := O.out; omega) (by have := O.out; omega))
      have SR13 := hid (SR.out.keep g13 (by have := O.out; omega) (by have := O.out; omega))
      have SW13 := hid (SW.out.keep g13 (by have := O.out; omega) (by have := O.out; omega))
      have SN13 := hid (SN.out.keep g13 (by have := O.out; omega) (by have := O.out; omega))
      have SL13 := hid (SL.out.keep g13 (by have := O.out; omega) (by have := O.out; omega))
      have XR13 := hid (XR.out.keep g13 (by have := O.out; omega))
      have B13 := hid b13
      clear s13 g13 b13 SB SS SR SW SN SL SO XR BR
      go_wp2_with fail
      refine (andwith_any _ SN13.out SB13.out (Or.inr (by have := O.out; omega))).mono ?_
      rintro e w14 ⟨rfl, s14, g14⟩
      have b14 := Chg.below B13.out g14 (by have := O.out; omega) B13.out.size
      have SN14 := hid s14
      have SO14 := hid (S13.out.keep g14 (by have := O.out; omega) (by have := O.out; omega))
      have SB14 := hid (SB13.out.keep g14 (by have := O.out; omega) (by have := O.out; omega))
      have SS14 := hid (SS13.out.keep g14 (by have := O.out; omega) (by have := O.out; omega))
      have SR14 := hid (SR13.out.keep g14 (by have := O.out; omega) (by have := O.out; omega))
      have SW14 := hid (SW13.out.keep g14 (by have := O.out; omega) (by have := O.out; omega))
      have SL14 := hid (SL13.out.keep g14 (by have := O.out; omega) (by have := O.out; omega))
      have XR14 := hid (XR13.out.keep g14 (by have := O.out; omega))
      have B14 := hid b14
      clear s14 g14 b14 SB13 SS13 SR13 SW13 SN13 SL13 S13 XR13 B13
      go_wp2_with fail
      refine (andnotwith_any _ SL14.out SB14.out (Or.inr (by have := O.out; omega))).mono ?_
      rintro e w15 ⟨rfl, s15, g15⟩
      have b15 := Chg.below B14.out g15 (by have := O.out; omega) B14.out.size
      have SL := hid s15
      have SO := hid (SO14.out.keep g15 (by have := O.out; omega) (by have := O.out; omega))
      have SN := hid (SN14.out.keep g15 (by have := O.out; omega) (by have := O.out; omega))
      have SB := hid (SB14.out.keep g15 (by have := O.out; omega) (by have := O.out; omega))
      have SS := hid (SS14.out.keep g15 (by have := O.out; omega) (by have := O.out; omega))
      have SR := hid (SR14.out.keep g15 (by have := O.out; omega) (by have := O.out; omega))
      have SW := hid (SW14.out.keep g15 (by have := O.out; omega) (by have := O.out; omega))
      have XR := hid (XR14.out.keep g15 (by have := O.out; omega))
      have BR := hid b15
      clear s15 g15 b15 SB14 SS14 SR14 SW14 SN14 SL14 SO14 XR14 B14
      go_wp2_with fail
      have x0 := XR.out.c0
      go_quiet ((first
        | (go_at_call_of 26 po; exact Calls.quiet_of_same (size_any _ (SO.out.drewN _)))
        | (go_at_call_of 26 pn; exact Calls.quiet_of_same (size_any _ (SN.out.drewN _)))
        | (go_at_call_of 26 pl; exact Calls.quiet_of_same (size_any _ (SL.out.drewN _)))
        | (go_at_call_of 26 pb; exact Calls.quiet_of_same (size_any _ (SB.out.drewN _)))
        | (go_at_call 18; exact Calls.quiet_of_same (equal_yes _ (SB.out.drewN _) (SW.out.drewN _) (fun _ => rfl)))))
      have SB1 := hid (SB.out.drewN nq)
      have SS1 := hid (SS.out.drewN nq)
      have SR1 := hid (SR.out.drewN nq)
      have SO1 := hid (SO.out.drewN nq)
      have SN1 := hid (SN.out.drewN nq)
      have SL1 := hid (SL.out.drewN nq)
      have XR1 := hid (XR.out.drewN nq)
      have BR1 := hid (below_drewN BR.out nq)
      clear SB SS SR SO SN SL SW XR BR x0
      generalize w15.drewN nq = W at SB1 SS1 SR1 SO1 SN1 SL1 XR1 BR1 ⊢
      go_wp2_with fail
      refine (and_new _ SB1.out SR1.out).mono ?_
      rintro e w16 ⟨p1, q1, rfl, f1⟩
      have F1 := hid f1
      clear f1
      go_wp2_with fail
      refine (or_new _ (SS1.out.low F1.out.low) F1.out.at').mono ?_
      rintro e w17 ⟨p2, q2, rfl, f2⟩
      have F2 := hid f2
      have BW := hid (belowT F1.out.low f2.low)
      clear f2
      go_wp2_with fail
      refine (equal_yes _ (SO1.out.low BW.out) F2.out.at' (fun i => ?_)).mono ?_
      · cases a : sOf k zA i
        · simp
        · have := SS1.out.bound i a
          simp [this]
      rintro e w18 ⟨rfl, hww⟩
      subst hww
      go_wp2_with fail
      refine (and_new _ (SS1.out.low BW.out) (SB1.out.low BW.out)).mono ?_
      rintro e w19 ⟨p3, q3, rfl, f3⟩
      have F3 := hid f3
      have BW3 := hid (belowT BW.out f3.low)
      clear f3
      go_wp2_with fail
      refine (equal_yes _ (SN1.out.low BW3.out) F3.out.at' (fun i => rfl)).mono ?_
      rintro e w20 ⟨rfl, hww⟩
      subst hww
      go_wp2_with fail
      refine (andnot_new _ (SS1.out.low BW3.out) (SB1.out.low BW3.out)).mono ?_
      rintro e w21 ⟨p4, q4, rfl, f4⟩
      have F4 := hid f4
      have BW4 := hid (belowT BW3.out f4.low)
      clear f4
      go_wp2_with fail
      refine (equal_yes _ (SL1.out.low BW4.out) F4.out.at' (fun i => rfl)).mono ?_
      rintro e w22 ⟨rfl, hww⟩
      subst hww
      have SB := hid (SB1.out.low BW4.out)
      have SS := hid (SS1.out.low BW4.out)
      have SR := hid (SR1.out.low BW4.out)
      have SO := hid (SO1.out.low BW4.out)
      have XR := hid (XR1.out.low BW4.out)
      have BR := hid (belowT BR1.out BW4.out)
      have x0 := XR.out.c0
      have QB := hid (show w.heap.size < po by have := O.out; omega)
      clear SB1 SS1 SR1 SO1 SN1 SL1 XR1 BR1 F1 F2 F3 F4 BW BW3 BW4
      go_wp2_with fail
      have HKN := hid (show k ≤ n by omega)
      go_region_held3 (fun W => W.cell? ⟨w.heap.size, 0, none⟩ = some (.int .i64 n))
        (first | exact x0 | exact xF.c0 | exact xE.c0 | exact xG.c0)
        (first
          | (go_at_call 43; refine (grow_any n _ SO.out.drew hn HKN.out).mono ?_; rintro e w23 ⟨rfl, s23, g23⟩; have xG := XR.out.drew.keep g23 (by have := QB.out; omega))
          | (go_at_call 13; refine (num_any _ _).mono ?_; rintro e w24 ⟨rfl, hww⟩; subst hww)
          | (go_at_call 26; refine (size_any _ s23).mono ?_; rintro e w25 ⟨rfl, hww⟩; subst hww)
          | (go_at_call 19; refine (and_new _ (SB.out.drew.keep g23 ?_ ?_) (SR.out.drew.keep g23 ?_ ?_)).mono ?_; (have := O.out; omega); (have := O.out; omega); (have := O.out; omega); (have := O.out; omega); rintro e w26 ⟨p5, q5, rfl, f5⟩; have xE := xG.low f5.low)
          | (go_at_call 17; refine (or_new _ ((SS.out.drew.keep g23 ?_ ?_).low f5.low) f5.at').mono ?_; (have := O.out; omega); (have := O.out; omega); rintro e w27 ⟨p6, q6, rfl, f6⟩; have xF := xE.low f6.low)
          | (go_at_call 18; refine (equal_yes _ ((s23.low f5.low).low f6.low) f6.at' ?_).mono ?_; exact grow_eq SS.out; rintro e w28 ⟨rfl, hww⟩; subst hww))
      have sO := (s23.low f5.low).low f6.low
      have l1 := SB.out.qlt
      have l2 := SB.out.plt
      have l3 := SS.out.qlt
      have l4 := SS.out.plt
      have l5 := XR.out.lt
      have sB := ((SB.out.drew.keep g23 (by have := O.out; omega) (by have := O.out; omega)).low f5.low).low f6.low
      have sS := ((SS.out.drew.keep g23 (by have := O.out; omega) (by have := O.out; omega)).low f5.low).low f6.low
      have bb := belowT (belowT (Chg.below BR.out.drew g23 (by have := QB.out; omega) BR.out.drew.size) f5.low) f6.low
      have L := hid (show qb < w22.heap.size ∧ pb < w22.heap.size ∧ qs < w22.heap.size ∧ ps < w22.heap.size ∧ w.heap.size < w22.heap.size from ⟨l1, l2, l3, l4, l5⟩)
      have GE := hid (grow_fin sS sB HKN.out)
      have SO2 := hid sO
      have SB2 := hid sB
      have SS2 := hid sS
      have X2 := hid xF
      have BB := hid bb
      clear sO sB sS bb l1 l2 l3 l4 l5 xF xE xG f5 f6 g23 s23 SB SS SR SO XR BR x0 QB
      go_wp2_with fail
      refine (orwith_any _ SO2.out SB2.out (Or.inr (by have := L.out; show w22.heap.size ≠ qb; omega))).mono ?_
      rintro e w30 ⟨rfl, s30, g30⟩
      have S30 := hid s30
      have SB30 := hid (SB2.out.keep g30 (by have := L.out; show pb ≠ w22.heap.size; omega) (by have := L.out; show qb ≠ w22.heap.size; omega))
      have SS30 := hid (SS2.out.keep g30 (by have := L.out; show ps ≠ w22.heap.size; omega) (by have := L.out; show qs ≠ w22.heap.size; omega))
      have X30 := hid (X2.out.keep g30 (by have := L.out; show w.heap.size ≠ w22.heap.size; omega))
      have B30 := hid (Chg.below BB.out g30 (by have := L.out; show w.heap.size ≤ w22.heap.size; omega) BB.out.size)
      clear s30 g30 SO2 SB2 SS2 X2 BB
      go_wp2_with fail
      refine (orwith_any _ S30.out S30.out (Or.inl rfl)).mono ?_
      rintro e w31 ⟨rfl, s31, g31⟩
      have S31 := hid s31
      have SB31 := hid (SB30.out.keep g31 (by have := L.out; show pb ≠ w22.heap.size; omega) (by have := L.out; show qb ≠ w22.heap.size; omega))
      have SS31 := hid (SS30.out.keep g31 (by have := L.out; show ps ≠ w22.heap.size; omega) (by have := L.out; show qs ≠ w22.heap.size; omega))
      have X31 := hid (X30.out.keep g31 (by have := L.out; show w.heap.size ≠ w22.heap.size; omega))
      have B31 := hid (Chg.below B30.out g31 (by have := L.out; show w.heap.size ≤ w22.heap.size; omega) B30.out.size)
      clear s31 g31 S30 SB30 SS30 X30 B30
      go_wp2_with fail
      refine (andwith_any _ S31.out S31.out (Or.inl rfl)).mono ?_
      rintro e w32 ⟨rfl, s32, g32⟩
      have S32 := hid (s32.turn GE.out)
      have SB32 := hid (SB31.out.keep g32 (by have := L.out; show pb ≠ w22.heap.size; omega) (by have := L.out; show qb ≠ w22.heap.size; omega))
      have SS32 := hid (SS31.out.keep g32 (by have := L.out; show ps ≠ w22.heap.size; omega) (by have := L.out; show qs ≠ w22.heap.size; omega))
      have X32 := hid (X31.out.keep g32 (by have := L.out; show w.heap.size ≠ w22.heap.size; omega))
      have B32 := hid (Chg.below B31.out g32 (by have := L.out; show w.heap.size ≤ w22.heap.size; omega) B31.out.size)
      clear s32 g32 S31 SB31 SS31 X31 B31
      go_wp2_with fail
      refine (or_new _ SS32.out SB32.out).mono ?_
      rintro e w33 ⟨p7, q7, rfl, f7⟩
      have F7 := hid f7
      clear f7
      go_wp2_with fail
      refine (equal_yes _ (S32.out.low F7.out.low) F7.out.at' (fun _ => rfl)).mono ?_
      rintro e w34 ⟨rfl, hww⟩
      subst hww
      have S34 := hid (S32.out.low F7.out.low)
      have X34 := hid (X32.out.low F7.out.low)
      have B34 := hid (belowT B32.out F7.out.low)
      clear S32 SB32 SS32 X32 B32 F7
      go_wp2_with fail
      refine (andnotwith_any _ S34.out S34.out (Or.inl rfl)).mono ?_
      rintro e w35 ⟨rfl, s35, g35⟩
      have S35 := hid s35
      have X35 := hid (X34.out.keep g35 (by have := L.out; show w.heap.size ≠ w22.heap.size; omega))
      have B35 := hid (Chg.below B34.out g35 (by have := L.out; show w.heap.size ≤ w22.heap.size; omega) B34.out.size)
      have x0 := X35.out.c0
      clear s35 g35 S34 X34 B34
      go_wp2_with fail
      go_quiet ((first
        | (go_at_call 26; exact Calls.quiet_of_same (size_any _ (S35.out.drewN _)))
        | (go_at_call 23; exact Calls.quiet_of_same (count_none _ (S35.out.drewN _) (fun _ => Bool.and_not_self _)))))
      go_wp2_with fail
      go_ret
      exact ⟨rfl, below_drewN B35.out _⟩
/-- BitsetPlace: the law answers true, whatever x. -/
theorem place_all (N : Int) (vA vB vC : Value) (zA zB : List Int) (w : World) (ht : Tab w) (iA : Ints w vA zA) (iB : Ints w vB zB) (rA : zA.length * 8 ≤ 140737488351232) (rB : zB.length * 8 ≤ 140737488351232) :
    Calls Tryd.prog 8 #[.agg #[.int .i64 N, vA, vB, vC]] w fun e w' => e = .returned (.bool true) ∧ Below w.heap.size w w' := by
  by_cases hN : 0 ≤ N ∧ N ≤ 65536
  · obtain ⟨n, rfl⟩ := Int.eq_ofNat_of_zero_le hN.1
    exact place_in n (n / 2) vA vB vC zA zB w ht (by omega) (by omega) iA iB rA rB
  · exact place_out N vA vB vC w ht hN
end Go.Proofs.YtkagdmhijjfnnaaDoor
