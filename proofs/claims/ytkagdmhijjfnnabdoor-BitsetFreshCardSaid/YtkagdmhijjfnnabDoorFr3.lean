import Derived.Test.YtkagdmhijjfnnabDoorFr2
namespace Go.Proofs.YtkagdmhijjfnnabDoor
open Go.RowKit Bs
set_option linter.unusedVariables false
theorem orwith_g {p q n : Nat} {v : Value} {q' n' : Nat} {S T : Nat → Bool} (w : World) (h : SetAt w p q n S) (h' : SO w v q' n' T) (ha : v = .pointer none ∨ q ≠ q') :
    Calls Tryd.prog 19 #[.pointer (some ⟨p, 0, none⟩), v] w fun e w' => e = .returned (.tuple #[]) ∧ SetAt w' p q n (fun i => (S i || T i) && decide (i < n)) ∧ Chg q w w' := by
  rcases ha with rfl | ha
  · rcases h' with ⟨a, b, c⟩ | ⟨p', a, c⟩
    · exact orwith_o (q' := q + 1) w h (Or.inl ⟨a, b, c⟩) (Or.inl (by omega))
    · cases a
  · exact orwith_o w h h' (Or.inl ha)
/-- What fresh leaves. -/
structure Cx (va vb : Value) (qa qb : Nat) (w w' : World) : Prop where
  os : w'.os = w.os
  tape : w'.tape = w.tape
  output : w'.output = w.output
  size : w.heap.size ≤ w'.heap.size
  block : ∀ k, k < w.heap.size → (va = .pointer none ∨ k ≠ qa) → (vb = .pointer none ∨ k ≠ qb) → w'.heap[k]? = w.heap[k]?
set_option maxRecDepth 100000 in
set_option maxHeartbeats 8000000 in
theorem fresh_any (kind : Nat) (hk : kind < 6) (i : Int) {va vb : Value} {qa na qb nb : Nat} {s : Bool} {A B : Nat → Bool} (w : World) (ht : Tab w) (hp : Pr w va qa na vb qb nb s A B) :
    Calls Tryd.prog 43 #[.int .i64 kind, va, vb, .int .i64 i] w fun e w' => e = .returned (.bool true) ∧ Tab w' ∧ Pr w' va qa na vb qb nb s A B ∧ Cx va vb qa qb w w' := by
  have HP := hid hp
  have HT := hid ht
  clear hp ht
  go_enter Tryd.func43, Tryd.ntmps43
  go_wp2_with fail
  refine (two_o kind hk _ HP.out.a HP.out.b).mono ?_
  rintro e w1 ⟨pc, qc, rfl, fc⟩
  have FC := hid fc
  clear fc
  go_wp2_with fail
  refine (two_o kind hk _ (HP.out.a.low FC.out.low) (HP.out.b.low FC.out.low)).mono ?_
  rintro e w2 ⟨pd, qd, rfl, fd⟩
  have FD := hid fd
  have C2 := hid (FC.out.at'.low FD.out.low)
  clear fd
  obtain ⟨N, hN⟩ : ∃ N, N = szK kind na nb := ⟨_, rfl⟩
  obtain ⟨K, hK⟩ : ∃ K, K = opK kind A B := ⟨_, rfl⟩
  rw [← hN, ← hK] at FC FD C2
  clear hN hK
  have B2 := hid (belowT FC.out.low FD.out.low)
  go_wp2_with fail
  refine (equal_o true _ C2.out.so FD.out.at'.so (by simp)).mono ?_
  rintro e w3 ⟨rfl, hww⟩
  subst hww
  go_wp2_with fail
  refine (size_any _ C2.out).mono ?_
  rintro e w4 ⟨rfl, hww⟩
  subst hww
  go_wp2_with fail
  refine (size_any _ FD.out.at').mono ?_
  rintro e w5 ⟨rfl, hww⟩
  subst hww
  go_wp2_with fail
  refine (members_o _ (HP.out.a.low B2.out) (HT.out.low B2.out HT.out.pos)).mono ?_
  rintro e w6 ⟨wA, lA, rfl, hA, mA, b6⟩
  have B6 := hid b6
  have HA := hid hA
  have MA := hid mA
  have B62 := hid (belowT B2.out b6)
  clear hA mA b6
  go_wp2_with fail
  refine (members_o _ (HP.out.b.low B62.out) (HT.out.low B62.out HT.out.pos)).mono ?_
  rintro e w7 ⟨wB, lB, rfl, hB, mB, b7⟩
  have B7 := hid b7
  have HB := hid hB
  have MB := hid mB
  have B72 := hid (belowT B62.out b7)
  have B75 := hid (belowT B6.out b7)
  clear hB mB b7
  go_wp2_with fail
  refine (members_o _ (C2.out.so.low B75.out) (HT.out.low B72.out HT.out.pos)).mono ?_
  rintro e w8 ⟨wC, lC, rfl, hC, mC, b8⟩
  have B8 := hid b8
  have B85 := hid (belowT B75.out b8)
  have B82 := hid (belowT B72.out b8)
  have HC := hid hC
  have MC := hid mC
  clear hC mC b8
  obtain ⟨x, hx⟩ : ∃ x : Fk, x = ⟨w, va, vb, qa, na, qb, nb, s, pc, qc, pd, qd, N, w5.heap.size, wA, wB, wC, lA, lB, lC⟩ := ⟨_, rfl⟩
  have F0 : Hid (Fs x w8 A B K K) := by
    have h1 := FC.out.hq
    have h2 := FD.out.hq
    have h3 := FC.out.low.size
    have h4 := C2.out.qlt
    have h5 := FD.out.at'.qlt
    have h6 := FC.out.at'.qlt
    have h7 := B6.out.size
    have h8 := B7.out.size
    rw [hx]
    exact ⟨HT.out.low B82.out HT.out.pos, HP.out.low B82.out, C2.out.low B85.out, FD.out.at'.low B85.out, HP.out.a.qlt, HP.out.b.qlt, h1, Nat.le_trans h3 h2, by show qc ≠ qd; omega, h4, h5,
      (HA.out.low (belowT B7.out B8.out)), (HB.out.low B8.out).mono h7, HC.out.mono (Nat.le_trans h7 h8), B82.out.os, B82.out.tape, B82.out.output, B82.out.size, fun k hk _ _ => B82.out.block k hk⟩
  have e1 : x.va = va := by rw [hx]
  have e2 : x.vb = vb := by rw [hx]
  have e3 : x.pc = pc := by rw [hx]
  have e4 : x.pd = pd := by rw [hx]
  have e5 : x.wA = wA := by rw [hx]
  have e6 : x.wB = wB := by rw [hx]
  have e7 : x.wC = wC := by rw [hx]
  have m1 : MsOf x.na A x.lA := by rw [hx]; exact MA.out
  have m2 : MsOf x.nb B x.lB := by rw [hx]; exact MB.out
  have m3 : MsOf x.N K x.lC := by rw [hx]; exact MC.out
  have sm : x.s = true → A = B := by rw [hx]; exact fun h => (HP.out.same h).2.2.2
  have ps : ∀ W A B, Pr W x.va x.qa x.na x.vb x.qb x.nb x.s A B → Pr W va qa na vb qb nb s A B := by rw [hx]; exact fun _ _ _ h => h
  have cx : ∀ W A B C D, Fs x W A B C D → Cx va vb qa qb w W := by rw [hx]; exact fun W A B C D h => ⟨h.os, h.tape, h.output, h.size, h.block⟩
  have PS := hid ps
  have CX := hid cx
  have SM := hid sm
  clear HP HT FC FD C2 B2 B6 B62 B7 B72 B75 B8 B82 B85 HA HB HC MA MB MC hx ps cx sm
  subst e1 e2 e3 e4 e5 e6 e7
  have M1 := hid m1
  have M2 := hid m2
  have M3 := hid m3
  have l1 : x.lA.length ≤ 65536 := Nat.le_trans m1.le F0.out.pr.a.hn
  have l2 : x.lB.length ≤ 65536 := Nat.le_trans m2.le F0.out.pr.b.hn
  have l3 : x.lC.length ≤ 65536 := Nat.le_trans m3.le F0.out.c.hn
  clear m1 m2 m3
  go_wp2_with fail
  refine (turn_set i _ F0.out.c).mono ?_
  rintro e u1 ⟨rfl, hs1, hg1⟩
  have E1 : Hid (Fs x u1 (A) (B) (tog x.N K i) (K)) := by
    have := F0.out.turnC (F0.out.tab.chg hg1 (F0.out.tab.ne F0.out.c)) hs1 hg1
    first | exact this | (rw [tog_tog] at this; exact this)
  clear hs1 hg1 F0
  go_wp2_with fail
  refine (members_o _ E1.out.pr.a E1.out.tab).mono ?_
  rintro e u2 ⟨v2, ms2, rfl, hl2, hm2, hb2⟩
  have em2 := hm2.one M1.out
  subst em2
  have H2 := hid hl2
  have G2 := hid (E1.out.low hb2)
  clear hl2 hm2 hb2 E1
  go_wp2_with fail
  refine (same_yes _ _ _ _ _ _ l1 H2.out G2.out.hA).mono ?_
  rintro e u2x ⟨rfl, m2, hww⟩
  have E2 : Hid (Fs x u2x (A) (B) (tog x.N K i) (K)) := by rw [hww]; exact G2.out.low (belowDrewN m2)
  clear hww G2 H2
  go_wp2_with fail
  refine (members_o _ E2.out.pr.b E2.out.tab).mono ?_
  rintro e u3 ⟨v3, ms3, rfl, hl3, hm3, hb3⟩
  have em3 := hm3.one M2.out
  subst em3
  have H3 := hid hl3
  have G3 := hid (E2.out.low hb3)
  clear hl3 hm3 hb3 E2
  go_wp2_with fail
  refine (same_yes _ _ _ _ _ _ l2 H3.out G3.out.hB).mono ?_
  rintro e u3x ⟨rfl, m3, hww⟩
  have E3 : Hid (Fs x u3x (A) (B) (tog x.N K i) (K)) := by rw [hww]; exact G3.out.low (belowDrewN m3)
  clear hww G3 H3
  go_wp2_with fail
  refine (members_o _ E3.out.d.so E3.out.tab).mono ?_
  rintro e u4 ⟨v4, ms4, rfl, hl4, hm4, hb4⟩
  have em4 := hm4.one M3.out
  subst em4
  have H4 := hid hl4
  have G4 := hid (E3.out.low hb4)
  clear hl4 hm4 hb4 E3
  go_wp2_with fail
  refine (same_yes _ _ _ _ _ _ l3 H4.out G4.out.hC).mono ?_
  rintro e u4x ⟨rfl, m4, hww⟩
  have E4 : Hid (Fs x u4x (A) (B) (tog x.N K i) (K)) := by rw [hww]; exact G4.out.low (belowDrewN m4)
  clear hww G4 H4
  go_wp2_with fail
  refine (turn_set i _ E4.out.c).mono ?_
  rintro e u5 ⟨rfl, hs5, hg5⟩
  have E5 : Hid (Fs x u5 (A) (B) (K) (K)) := by
    have := E4.out.turnC (E4.out.tab.chg hg5 (E4.out.tab.ne E4.out.c)) hs5 hg5
    first | exact this | (rw [tog_tog] at this; exact this)
  clear hs5 hg5 E4
  go_wp2_with fail
  refine (turn_g i _ E5.out.pr.a E5.out.tab).mono ?_
  rintro e u6 ⟨rfl, hs6, ht6, hg6⟩
  have E6 : Hid (Fs x u6 (tog x.na A i) (bif x.s then tog x.na A i else B) (K) (K)) := by
    have := E5.out.turnA ht6 hs6 hg6
    first | exact this | (rw [tog_tog, bif_back SM.out] at this; exact this) | (rw [tog_tog, bif_back (fun h => (SM.out h).symm)] at this; exact this)
  clear hs6 ht6 hg6 E5
  go_wp2_with fail
  refine (members_o _ E6.out.c.so E6.out.tab).mono ?_
  rintro e u7 ⟨v7, ms7, rfl, hl7, hm7, hb7⟩
  have em7 := hm7.one M3.out
  subst em7
  have H7 := hid hl7
  have G7 := hid (E6.out.low hb7)
  clear hl7 hm7 hb7 E6
  go_wp2_with fail
  refine (same_yes _ _ _ _ _ _ l3 H7.out G7.out.hC).mono ?_
  rintro e u7x ⟨rfl, m7, hww⟩
  have E7 : Hid (Fs x u7x (tog x.na A i) (bif x.s then tog x.na A i else B) (K) (K)) := by rw [hww]; exact G7.out.low (belowDrewN m7)
  clear hww G7 H7
  go_wp2_with fail
  refine (members_o _ E7.out.d.so E7.out.tab).mono ?_
  rintro e u8 ⟨v8, ms8, rfl, hl8, hm8, hb8⟩
  have em8 := hm8.one M3.out
  subst em8
  have H8 := hid hl8
  have G8 := hid (E7.out.low hb8)
  clear hl8 hm8 hb8 E7
  go_wp2_with fail
  refine (same_yes _ _ _ _ _ _ l3 H8.out G8.out.hC).mono ?_
  rintro e u8x ⟨rfl, m8, hww⟩
  have E8 : Hid (Fs x u8x (tog x.na A i) (bif x.s then tog x.na A i else B) (K) (K)) := by rw [hww]; exact G8.out.low (belowDrewN m8)
  clear hww G8 H8
  go_wp2_with fail
  refine (turn_g i _ E8.out.pr.a E8.out.tab).mono ?_
  rintro e u9 ⟨rfl, hs9, ht9, hg9⟩
  have E9 : Hid (Fs x u9 (A) (B) (K) (K)) := by
    have := E8.out.turnA ht9 hs9 hg9
    first | exact this | (rw [tog_tog, bif_back SM.out] at this; exact this) | (rw [tog_tog, bif_back (fun h => (SM.out h).symm)] at this; exact this)
  clear hs9 ht9 hg9 E8
  go_wp2_with fail
  refine (turn_g i _ E9.out.pr.b E9.out.tab).mono ?_
  rintro e u10 ⟨rfl, hs10, ht10, hg10⟩
  have E10 : Hid (Fs x u10 (bif x.s then tog x.nb B i else A) (tog x.nb B i) (K) (K)) := by
    have := E9.out.turnB ht10 hs10 hg10
    first | exact this | (rw [tog_tog, bif_back SM.out] at this; exact this) | (rw [tog_tog, bif_back (fun h => (SM.out h).symm)] at this; exact this)
  clear hs10 ht10 hg10 E9
  go_wp2_with fail
  refine (members_o _ E10.out.c.so E10.out.tab).mono ?_
  rintro e u11 ⟨v11, ms11, rfl, hl11, hm11, hb11⟩
  have em11 := hm11.one M3.out
  subst em11
  have H11 := hid hl11
  have G11 := hid (E10.out.low hb11)
  clear hl11 hm11 hb11 E10
  go_wp2_with fail
  refine (same_yes _ _ _ _ _ _ l3 H11.out G11.out.hC).mono ?_
  rintro e u11x ⟨rfl, m11, hww⟩
  have E11 : Hid (Fs x u11x (bif x.s then tog x.nb B i else A) (tog x.nb B i) (K) (K)) := by rw [hww]; exact G11.out.low (belowDrewN m11)
  clear hww G11 H11
  go_wp2_with fail
  refine (members_o _ E11.out.d.so E11.out.tab).mono ?_
  rintro e u12 ⟨v12, ms12, rfl, hl12, hm12, hb12⟩
  have em12 := hm12.one M3.out
  subst em12
  have H12 := hid hl12
  have G12 := hid (E11.out.low hb12)
  clear hl12 hm12 hb12 E11
  go_wp2_with fail
  refine (same_yes _ _ _ _ _ _ l3 H12.out G12.out.hC).mono ?_
  rintro e u12x ⟨rfl, m12, hww⟩
  have E12 : Hid (Fs x u12x (bif x.s then tog x.nb B i else A) (tog x.nb B i) (K) (K)) := by rw [hww]; exact G12.out.low (belowDrewN m12)
  clear hww G12 H12
  go_wp2_with fail
  refine (turn_g i _ E12.out.pr.b E12.out.tab).mono ?_
  rintro e u13 ⟨rfl, hs13, ht13, hg13⟩
  have E13 : Hid (Fs x u13 (A) (B) (K) (K)) := by
    have := E12.out.turnB ht13 hs13 hg13
    first | exact this | (rw [tog_tog, bif_back SM.out] at this; exact this) | (rw [tog_tog, bif_back (fun h => (SM.out h).symm)] at this; exact this)
  clear hs13 ht13 hg13 E12
  go_wp2_with fail
  refine (orwith_g _ E13.out.c E13.out.pr.a ?_).mono ?_
  · have := E13.out.gc
    rcases E13.out.fa with e | e
    · exact Or.inl e
    · exact Or.inr (by omega)
  rintro e u14 ⟨rfl, hs14, hg14⟩
  obtain ⟨C14, hC14⟩ : ∃ T, Fs x u14 A B T K := ⟨_, E13.out.turnC (E13.out.tab.chg hg14 (E13.out.tab.ne E13.out.c)) hs14 hg14⟩
  have E14 := hid hC14
  clear hs14 hg14 hC14 E13
  go_wp2_with fail
  refine (orwith_g _ E14.out.c E14.out.pr.b ?_).mono ?_
  · have := E14.out.gc
    rcases E14.out.fb with e | e
    · exact Or.inl e
    · exact Or.inr (by omega)
  rintro e u15 ⟨rfl, hs15, hg15⟩
  obtain ⟨C15, hC15⟩ : ∃ T, Fs x u15 A B T K := ⟨_, E14.out.turnC (E14.out.tab.chg hg15 (E14.out.tab.ne E14.out.c)) hs15 hg15⟩
  have E15 := hid hC15
  clear hs15 hg15 hC15 E14
  go_wp2_with fail
  refine (andnotwith_o _ E15.out.d E15.out.d.so (Or.inr rfl)).mono ?_
  rintro e u16 ⟨rfl, hs16, hg16⟩
  obtain ⟨D16, hD16⟩ : ∃ T, Fs x u16 A B C15 T := ⟨_, E15.out.turnD (E15.out.tab.chg hg16 (E15.out.tab.ne E15.out.d)) hs16 hg16⟩
  have E16 := hid hD16
  clear hs16 hg16 hD16 E15
  go_wp2_with fail
  refine (members_o _ E16.out.pr.a E16.out.tab).mono ?_
  rintro e u17 ⟨v17, ms17, rfl, hl17, hm17, hb17⟩
  have em17 := hm17.one M1.out
  subst em17
  have H17 := hid hl17
  have G17 := hid (E16.out.low hb17)
  clear hl17 hm17 hb17 E16
  go_wp2_with fail
  refine (same_yes _ _ _ _ _ _ l1 H17.out G17.out.hA).mono ?_
  rintro e u17x ⟨rfl, m17, hww⟩
  have E17 : Hid (Fs x u17x (A) (B) (C15) (D16)) := by rw [hww]; exact G17.out.low (belowDrewN m17)
  clear hww G17 H17
  go_wp2_with fail
  refine (members_o _ E17.out.pr.b E17.out.tab).mono ?_
  rintro e u18 ⟨v18, ms18, rfl, hl18, hm18, hb18⟩
  have em18 := hm18.one M2.out
  subst em18
  have H18 := hid hl18
  have G18 := hid (E17.out.low hb18)
  clear hl18 hm18 hb18 E17
  go_wp2_with fail
  refine (same_yes _ _ _ _ _ _ l2 H18.out G18.out.hB).mono ?_
  rintro e u18x ⟨rfl, m18, hww⟩
  have E18 : Hid (Fs x u18x (A) (B) (C15) (D16)) := by rw [hww]; exact G18.out.low (belowDrewN m18)
  clear hww G18 H18
  go_wp2_with fail
  go_ret
  exact ⟨rfl, E18.out.tab, PS.out _ _ _ E18.out.pr, CX.out _ _ _ _ _ E18.out⟩
end Go.Proofs.YtkagdmhijjfnnabDoor
