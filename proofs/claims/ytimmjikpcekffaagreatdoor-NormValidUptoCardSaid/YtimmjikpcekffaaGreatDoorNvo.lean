import Derived.Test.YtimmjikpcekffaaGreatDoorMgAM
import Derived.Test.YtimmjikpcekffaaGreatDoorMgAN
import Derived.Test.YtimmjikpcekffaaGreatDoorNvc
namespace Go.Proofs.YtimmjikpcekffaaGreatDoor.L
open Go.RowKit
set_option linter.unusedVariables false
set_option linter.unusedSimpArgs false
/-- A literal of a part, as the document takes it. -/
def RLq (pods : Bool) (ns : Int) (l : Ltr) : Prop := RLitP pods ns l.kd l.tk l.ts l.ty l.tl l.rl l.nu none l.tx.length 0 none l.nm.length 0 l.ok l.os l.oy l.ol l.of l.ky l.sl l.tx l.nm
theorem rlq (pods : Bool) (ns : Int) (l : Ltr) (xa : Option Addr) (xc : Nat) (na : Option Addr) (nc : Nat) : RLitP pods ns l.kd l.tk l.ts l.ty l.tl l.rl l.nu xa l.tx.length xc na l.nm.length nc l.ok l.os l.oy l.ol l.of l.ky l.sl l.tx l.nm ↔ RLq pods ns l := Iff.rfl
def RZq (l : Ltr) : Prop := RZeP l.kd l.tk l.ts l.ty l.tl l.rl l.nu none l.tx.length 0 none l.nm.length 0 l.ok l.os l.oy l.ol l.of l.ky l.sl
theorem rzq (l : Ltr) (xa : Option Addr) (xc : Nat) (na : Option Addr) (nc : Nat) : RZeP l.kd l.tk l.ts l.ty l.tl l.rl l.nu xa l.tx.length xc na l.nm.length nc l.ok l.os l.oy l.ol l.of l.ky l.sl ↔ RZq l := Iff.rfl
/-- A part that the document takes, whatever its kids are. -/
def RPq (pods : Bool) (ns : Int) (p : Pp) (m : Nat) : Prop :=
  decide (p.pk < 1) = false ∧ decide (5 < p.pk) = false ∧ p.ks.length ≤ m ∧ (p.pk == 3 || p.pk == 4) = decide (2 ≤ p.ks.length) ∧ ((p.pk == 3 || p.pk == 4) = false → p.ks.length = 0) ∧ ((p.pk == 5) = true → RLq pods ns p.l) ∧ ((p.pk == 5) = false → p.pn = false ∧ RZq p.l)
def ROk (pods : Bool) (ns : Int) (T : List Pp) (k : Nat) : Prop := RPq pods ns (pp T k) (frq T k).length ∧ (pp T k).ks = (frq T k).drop ((frq T k).length - (pp T k).ks.length)
def RTkP (pods : Bool) (ns : Int) (T : List Pp) : Prop := (∀ j, j < T.length → ROk pods ns T j) ∧ (frq T T.length).length = 1
theorem rlit_c (pods : Bool) (ns : Int) (p : Pp) (xa : Option Addr) (xc : Nat) (na : Option Addr) (nc : Nat) (w : World) (hg : GdQ p) (rx : RdS w xa p.l.tx) (rn : RdI w na p.l.nm) :
    Calls Tryz.prog 30 #[.agg #[.int .i64 p.l.kd, .int .i64 p.l.tk, .int .i64 p.l.ts, .string p.l.ty, .int .i64 p.l.tl, .int .i64 p.l.rl, .int .i64 p.l.nu, .slice xa p.l.tx.length xc, .slice na p.l.nm.length nc, .int .i64 p.l.ok, .int .i64 p.l.os, .string p.l.oy, .int .i64 p.l.ol, .int .i64 p.l.of, .string p.l.ky, .int .i64 p.l.sl], .bool pods, .int .i64 ns] w fun e w' => (∃ b, e = .returned (.bool b) ∧ (b = true ↔ RLq pods ns p.l)) ∧ Below w.heap.size w w' :=
  rlit_any pods ns p.l.kd p.l.tk p.l.ts p.l.ty p.l.tl p.l.rl p.l.nu xa p.l.tx.length xc na p.l.nm.length nc p.l.ok p.l.os p.l.oy p.l.ol p.l.of p.l.ky p.l.sl p.l.tx p.l.nm w hg.2.2.2.1 hg.2.2.2.2.1 hg.2.2.2.2.2.1 rfl rfl rx rn hg.2.1 hg.2.2.1 hg.2.2.2.2.2.2
theorem rzero_c (p : Pp) (xa : Option Addr) (xc : Nat) (na : Option Addr) (nc : Nat) (w : World) (hg : GdQ p) :
    Calls Tryz.prog 31 #[.agg #[.int .i64 p.l.kd, .int .i64 p.l.tk, .int .i64 p.l.ts, .string p.l.ty, .int .i64 p.l.tl, .int .i64 p.l.rl, .int .i64 p.l.nu, .slice xa p.l.tx.length xc, .slice na p.l.nm.length nc, .int .i64 p.l.ok, .int .i64 p.l.os, .string p.l.oy, .int .i64 p.l.ol, .int .i64 p.l.of, .string p.l.ky, .int .i64 p.l.sl]] w fun e w' => (∃ b, e = .returned (.bool b) ∧ (b = true ↔ RZq p.l)) ∧ Below w.heap.size w w' :=
  rzero_any p.l.kd p.l.tk p.l.ts p.l.ty p.l.tl p.l.rl p.l.nu xa p.l.tx.length xc na p.l.nm.length nc p.l.ok p.l.os p.l.oy p.l.ol p.l.of p.l.ky p.l.sl w hg.2.1 hg.2.2.1
theorem rgot (T : List Pp) (k m n h : Nat) (hm : m = (frq T k).length) (hn : n = (pp T k).ks.length) (hh : m = h + n) : (frq T k).drop ((frq T k).length - (pp T k).ks.length) = (frq T k).drop h := by
  rw [← hm, ← hn, show m - n = h by omega]
theorem ks_eq (A B : List Int) (h : A.length = B.length) (hj : ∀ j, j < A.length → A.getD j 0 = B.getD j 0) : A = B := by
  apply List.ext_getElem h
  intro i h1 h2
  have := hj i h1
  rw [List.getD_eq_getElem?_getD, List.getD_eq_getElem?_getD, List.getElem?_eq_getElem h1, List.getElem?_eq_getElem h2] at this
  exact this
set_option maxHeartbeats 16000000 in
set_option maxRecDepth 100000 in
theorem rlist_any (pods : Bool) (ns : Int) (a : Option Addr) (T : List Pp) (L cap : Nat) (hLe : L = T.length) (w : World) (hT : PQ w a T) (hG : GdP T) :
    Calls Tryz.prog 18 #[.slice a L cap, .bool pods, .int .i64 ns] w fun e w' => (∃ b, e = .returned (.bool b) ∧ (b = true ↔ RTkP pods ns T)) ∧ Below w.heap.size w w' := by
  obtain ⟨i3, hi, hz0, hz1i, hz2⟩ := info_parts info3
  have hL : L ≤ 17592186044000 := by rw [hLe]; exact hG.1
  have HT := hid hT
  have HL := hid hLe
  have HG := hid hG
  have HRL := hid rlit_c
  have HRZ := hid rzero_c
  clear hT hLe hG
  go_enter Tryz.func18, Tryz.ntmps18
  go_wp2_with fail
  go_loopw [7, 8] (fun v i wr => ∃ k : Nat, k ≤ L ∧ i = .int .i64 k ∧ Hid (Below w.heap.size w wr) ∧ Hid (OwnI wr w.heap.size v (frq T k)) ∧ Hid (∀ j, j < k → ROk pods ns T j)) (fun _ i _ => L - (intOf i).toNat)
  case atStart => exact ⟨0, Nat.zero_le _, rfl, hid (Below.refl _ _), hid (World.ownsRow_nil _ _ _ _), hid (fun j hj => by omega)⟩
  case round =>
    obtain ⟨k, hk, rfl, HB, OW, HE⟩ := hrel
    obtain ⟨va, vc, rfl⟩ := own_form OW.out
    have hfl := frq_len T k
    obtain ⟨m, hm⟩ : ∃ m, m = (frq T k).length := ⟨_, rfl⟩
    rw [← hm] at OW hfl ⊢
    have HM := hid hm
    clear hm
    by_cases hlt : k < L
    · rcases HT.out.low HB.out with h0 | ⟨b2, o2, rfl, hb2, hc2⟩
      · have := HL.out; omega
      obtain ⟨xa, xc, na, nc, ka, kc, c, rx, rn, rk⟩ := hc2 k (by rw [← HL.out]; exact hlt)
      have HGK := hid (HG.out.2 k (by rw [← HL.out]; exact hlt))
      obtain ⟨p, hp⟩ : ∃ p, p = pp T k := ⟨_, rfl⟩
      rw [← hp] at c rx rn rk HGK
      have HPT := hid hp
      clear hp hc2
      obtain ⟨cs, hcs⟩ : ∃ cs, cs = pvs p xa xc na nc ka kc := ⟨_, rfl⟩
      rw [← hcs] at c
      have hz9 : cs.length = 19 := by rw [hcs]; rfl
      have h1c : cs.toArray.all (·.oneCell') = true := by rw [hcs]; kernel_rfl
      have HCS := hid hcs
      have HC := hid c
      have RX := hid rx
      have RN := hid rn
      have RK := hid rk
      clear hcs c rx rn rk
      have g1 : (k : Int) < (L : Int) := by omega
      have g2 : (0 : Int) ≤ (k : Int) := by omega
      go_upto_region 5 with (fail)
      refine wp_region_lit ?_
      refine wpList_plain rfl fun K hK => ?_
      have HK := hid hK
      clear hK
      go_simp
      refine HK.out _ _ ?_
      clear HK
      try simp only [Act.put, List.setIfInBounds_toArray, List.set_cons_zero, List.set_cons_succ]
      refine wpList_plain rfl fun K hK => ?_
      have HK := hid hK
      clear hK
      go_simp
      refine HK.out _ _ ?_
      clear HK
      try simp only [Act.put, List.setIfInBounds_toArray, List.set_cons_zero, List.set_cons_succ]
      refine wpList_plain rfl fun K hK => ?_
      have HK := hid hK
      clear hK
      go_simp
      refine HK.out _ _ ?_
      clear HK
      try simp only [Act.put, List.setIfInBounds_toArray, List.set_cons_zero, List.set_cons_succ]
      refine wpList_load_mid rfl 51 _ rfl b2 (o2 + k * 19) rfl cs _ HC.out Tryz.underlying51 rfl (by rw [hz9]; exact infoPP) ?_
      try simp only [Act.put, List.setIfInBounds_toArray, List.set_cons_zero, List.set_cons_succ]
      refine wpList_plain rfl fun K hK => ?_
      have HK := hid hK
      clear hK
      go_simp
      refine HK.out _ _ ?_
      clear HK
      try simp only [Act.put, List.setIfInBounds_toArray, List.set_cons_zero, List.set_cons_succ]
      refine wpList_store_row rfl 51 _ _ rfl wr.heap.size cs.toArray rfl rfl 51 _ (heap_alloc_new wr _) (by simp only [List.size_toArray]; rw [hz9]; exact infoPP) (by simp only [List.size_toArray]; rw [hz9]; rfl) h1c ?_
      try simp only [Act.put, List.setIfInBounds_toArray, List.set_cons_zero, List.set_cons_succ]
      refine over_new (F := fun X => wpList _ _ _ _ _ X) ?_
      intro X nb nsz nc'
      obtain ⟨n, hn⟩ : ∃ n, n = p.ks.length := ⟨_, rfl⟩
      have HB19 := hid (show Bs X wr.heap.size [.int .i64 p.pk, .bool p.pn, .int .i64 p.l.kd, .int .i64 p.l.tk, .int .i64 p.l.ts, .string p.l.ty, .int .i64 p.l.tl, .int .i64 p.l.rl, .int .i64 p.l.nu, .slice xa p.l.tx.length xc, .slice na p.l.nm.length nc, .int .i64 p.l.ok, .int .i64 p.l.os, .string p.l.oy, .int .i64 p.l.ol, .int .i64 p.l.of, .string p.l.ky, .int .i64 p.l.sl, .slice ka n kc] by rw [hn]; have h := nc'; rw [HCS.out] at h; exact h)
      have HN := hid hn
      have HNB := hid nb
      have HNS := hid nsz
      clear nb nc' nsz h1c hn HC
      generalize hwr : wr.heap.size = bx at *
      have HWR := hid hwr
      clear hwr
      have HBX := hid (show Below w.heap.size w X from HB.out.trans (HNB.out.mono (by have h2 := HB.out.size; have h3 := HWR.out; omega)))
      have HRX := hid (show RdS X xa p.l.tx from RX.out.low HNB.out (by rw [HWR.out]; exact Nat.le_refl _))
      have HRN := hid (show RdI X na p.l.nm from RN.out.low HNB.out (by rw [HWR.out]; exact Nat.le_refl _))
      have HRK := hid (show RdI X ka p.ks from RK.out.low HNB.out (by rw [HWR.out]; exact Nat.le_refl _))
      have HOX := hid (show OwnI X w.heap.size (.slice va m vc) (frq T k) from own_low OW.out (by rw [HWR.out]; exact HNB.out))
      have hgn : n ≤ 140737488355328 := by rw [HN.out]; exact HGK.out.1
      have HNO := hid (fun (R : ¬ RPq pods ns p m) (h : RTkP pods ns T) => R (by rw [HPT.out, HM.out]; exact (h.1 k (by rw [← HL.out]; exact hlt)).1))
      have x0 := HB19.out.2 0 _ rfl
      have x1 := HB19.out.2 1 _ rfl
      have x2 := HB19.out.2 2 _ rfl
      have x3 := HB19.out.2 3 _ rfl
      have x4 := HB19.out.2 4 _ rfl
      have x5 := HB19.out.2 5 _ rfl
      have x6 := HB19.out.2 6 _ rfl
      have x7 := HB19.out.2 7 _ rfl
      have x8 := HB19.out.2 8 _ rfl
      have x9 := HB19.out.2 9 _ rfl
      have x10 := HB19.out.2 10 _ rfl
      have x11 := HB19.out.2 11 _ rfl
      have x12 := HB19.out.2 12 _ rfl
      have x13 := HB19.out.2 13 _ rfl
      have x14 := HB19.out.2 14 _ rfl
      have x15 := HB19.out.2 15 _ rfl
      have x16 := HB19.out.2 16 _ rfl
      have x17 := HB19.out.2 17 _ rfl
      have x18 := HB19.out.2 18 _ rfl
      have z19 := HB19.out.1
      cases e3 : (p.pk == 3)
      · cases e4 : (p.pk == 4)
        · cases lt : decide (p.pk < 1)
          · cases gt : decide (5 < p.pk)
            · by_cases hd : m < n
              · have d1 : decide ((m : Int) < (n : Int)) = true := by simp; omega
                go_wp2_with fail
                go_ret
                refine ⟨⟨_, rfl, fun h => (by cases h), fun h => absurd h (HNO.out (fun r => ?_))⟩, HBX.out⟩
                obtain ⟨r1, r2, r3, r4, r5, r6, r7⟩ := r
                rw [← HN.out] at r3
                omega
              · have d1 : decide ((m : Int) < (n : Int)) = false := by simp; omega
                by_cases hge : 2 ≤ n
                · have geq : decide ((2 : Int) ≤ (n : Int)) = true := by simp; omega
                  go_wp2_with fail
                  go_ret
                  refine ⟨⟨_, rfl, fun h => (by cases h), fun h => absurd h (HNO.out (fun r => ?_))⟩, HBX.out⟩
                  obtain ⟨r1, r2, r3, r4, r5, r6, r7⟩ := r
                  rw [← HN.out] at r4
                  simp [e3, e4] at r4
                  omega
                · by_cases hn0 : n = 0
                  · have gt0 : decide ((0 : Int) < (n : Int)) = false := by simp; omega
                    have gt0n : decide (0 < n) = false := by simp; omega
                    have geq : decide ((2 : Int) ≤ (n : Int)) = false := by simp; omega
                    have HN0 := hid hn0
                    clear hn0
                    cases e5 : (p.pk == 5)
                    · have e5n : (p.pk != 5) = true := by simp at e5; simp [e5]
                      cases hpn : p.pn
                      · rw [hpn] at x1
                        by_cases hzq : RZq p.l
                        · go_upto_region 14 with (go_at_call 31; refine (HRZ.out p xa xc na nc X HGK.out).mono ?_; rintro e w1 ⟨⟨bb, rfl, hbb⟩, hb⟩; obtain rfl : bb = true := hbb.2 hzq; have B1 := hid hb; clear hb hbb)
                          have HRP := hid (show RPq pods ns p m from ⟨lt, gt, (by rw [← HN.out]; omega), (by rw [← HN.out]; simp [e3, e4]; have := HN0.out; omega), fun _ => (by rw [← HN.out]; exact HN0.out), fun h => (by rw [e5] at h; cases h), fun _ => ⟨hpn, hzq⟩⟩)
                          obtain ⟨h, hh⟩ : ∃ h, m = h + n := ⟨m - n, by omega⟩
                          have hmn : (m : Int) - (n : Int) = (h : Int) := by omega
                          have HH := hid hh
                          have HW1 := hid (HB19.out.low B1.out)
                          have HB1 := hid (HBX.out.trans (B1.out.mono HBX.out.size))
                          have HO1 := hid (own_low HOX.out B1.out)
                          have HK1 := hid (show RdI w1 ka p.ks from HRK.out.low B1.out (Nat.le_refl _))
                          have y18 := HW1.out.2 18 _ rfl
                          have hhl : h ≤ 17592186044000 := by omega
                          clear hh
                          clear x0 x1 x2 x3 x4 x5 x6 x7 x8 x9 x10 x11 x12 x13 x14 x15 x16 x17 x18 z19
                          go_wp2_with fail
                          clear y18
                          go_loopw [13] (fun j wr2 => ∃ q : Nat, q ≤ n ∧ j = .int .i64 q ∧ Hid (Below w1.heap.size w1 wr2) ∧ Hid (∀ i, i < q → p.ks.getD i 0 = ((frq T k).drop h).getD i 0)) (fun j _ => n - (intOf j).toNat)
                          case atStart => exact ⟨0, Nat.zero_le _, rfl, hid (Below.refl _ _), hid (fun i hi => by omega)⟩
                          case round =>
                            obtain ⟨q, hq, rfl, HQB, HQE⟩ := hrel
                            have y18 := (HW1.out.low HQB.out).2 18 _ rfl
                            have hg1 : (q : Int) + 1 ≤ 140737488355329 := by omega
                            by_cases hqn : q < n
                            · have HOQ := own_low HO1.out HQB.out
                              have g5 : (q : Int) < (n : Int) := by omega
                              have g6 : (0 : Int) ≤ (q : Int) := by omega
                              have g7 : (h : Int) + (q : Int) < (m : Int) := by have := HH.out; omega
                              have g8 : (0 : Int) ≤ (h : Int) + (q : Int) := by omega
                              have g9 : ((h : Int) + (q : Int)).toNat = h + q := by omega
                              rcases HK1.out.low HQB.out (Nat.le_refl _) with h0 | ⟨bk, ok, rfl, hbk, hck⟩
                              · have := HN.out; omega
                              have ck := hck q (by rw [← HN.out]; exact hqn)
                              rcases (own_rd HOQ 0 (Nat.zero_le _)).2 with h0 | ⟨g, rfl, hgb, hgl, hgc, hgr, _⟩
                              · have := HM.out; have := HH.out; omega
                              have cg := hgr (h + q) (by rw [← HM.out]; have := HH.out; omega)
                              have HDR := hid (show ((frq T k).drop h).getD q 0 = (frq T k).getD (h + q) 0 by simp [List.getD_eq_getElem?_getD, List.getElem?_drop])
                              clear hck hgr HOQ hgc
                              obtain ⟨kv, hkv⟩ : ∃ kv, kv = p.ks.getD q 0 := ⟨_, rfl⟩
                              obtain ⟨fv, hfv⟩ : ∃ fv, fv = (frq T k).getD (h + q) 0 := ⟨_, rfl⟩
                              rw [← hkv] at ck
                              rw [← hfv] at cg
                              have HKV := hid hkv
                              have HFV := hid hfv
                              clear hkv hfv
                              cases hne : (kv != fv)
                              · go_wp2_with fail
                                go_quiet (fail)
                                go_wp2_with fail
                                refine ⟨⟨q + 1, by omega, by go_num, hid (below_drewN HQB.out nq), hid (fun i hi => ?_)⟩, by simp [intOf]; omega⟩
                                by_cases e : i = q
                                · rw [e, HDR.out, ← HFV.out, ← HKV.out]
                                  simpa using hne
                                · exact HQE.out i (by omega)
                              · go_wp2_with fail
                                go_quiet (fail)
                                go_wp2_with fail
                                go_ret
                                refine ⟨⟨_, rfl, fun h => (by cases h), fun h9 => ?_⟩, below_drewN (HB1.out.trans (HQB.out.mono HB1.out.size)) nq⟩
                                have h5 := (h9.1 k (by rw [← HL.out]; exact hlt)).2
                                rw [rgot T k m n h HM.out (by rw [HN.out, HPT.out]) HH.out, ← HPT.out] at h5
                                have h6 : kv = fv := by rw [HKV.out, HFV.out, ← HDR.out, ← h5]
                                simp [h6] at hne
                            · obtain rfl : n = q := by omega
                              have HKE := hid (show p.ks = (frq T k).drop h by
                                refine ks_eq _ _ ?_ ?_
                                · rw [List.length_drop, ← HM.out, ← HN.out]; have := HH.out; omega
                                · intro j hj; exact HQE.out j (by rw [HN.out]; exact hj))
                              have HOKK := hid (show ROk pods ns T k from ⟨by rw [← HPT.out, ← HM.out]; exact HRP.out, by rw [rgot T k m n h HM.out (by rw [HN.out, HPT.out]) HH.out, ← HPT.out]; exact HKE.out⟩)
                              have BX1 := hid (HB1.out.trans (HQB.out.mono HB1.out.size))
                              have O1 := hid (own_low HO1.out HQB.out)
                              have HFR := hid (show frq T (k + 1) = (frq T k).take h ++ [(k : Int)] by
                                show (frq T k).take ((frq T k).length - (pp T k).ks.length) ++ _ = _
                                rw [← HPT.out, ← HN.out, ← HM.out, show m - n = h by have := HH.out; omega])
                              have HHM := hid (show h ≤ m by have := HH.out; omega)
                              have HC0 := hid (show h = ((frq T k).take h).length by rw [List.length_take, ← HM.out]; have := HHM.out; omega)
                              have HRN := head_run (h := h) O1.out HM.out HHM.out
                              clear hq hg1
                              generalize hW : wr = W at *
                              clear hW
                              have bV := belowA W (.cells #[] 3)
                              have BV := hid (BX1.out.alloc BX1.out.size (.cells #[] 3))
                              have O2 := hid (own_low O1.out bV)
                              have N0 := hid (own_new0 W w.heap.size BX1.out.size)
                              clear bV
                              have RS := hid (own_rdI (own_take (show OwnI (W.alloc (.cells #[] 3)) w.heap.size (.slice va (frq T k).length vc) (frq T k) by rw [← HM.out]; exact O2.out) h (by rw [← HM.out]; exact HHM.out))).2
                              have HBD := hid (show ([] : List Int).length + ((frq T k).take h).length ≤ 17592186044000 by rw [← HC0.out]; simp; omega)
                              have HSZ := hid (show w.heap.size ≤ (W.alloc (.cells #[] 3)).heap.size from BV.out.size)
                              have hown : ∀ j, (Value.slice (some ⟨W.heap.size, 0, none⟩) 0 0).ownBlock = some j → w.heap.size ≤ j := by
                                intro j e
                                simp [Value.ownBlock] at e
                                have := BX1.out.size
                                omega
                              have HOB := hid hown
                              have hhm : h ≤ m := HHM.out
                              clear hown
                              go_wp2_with (at_builtin; refine append_src rfl _ _ rfl w.heap.size _ [] rfl N0.out va h vc ((frq T k).take h) HC0.out rfl RS.out.2 RS.out.1 HBD.out HSZ.out ?_)
                              intro v2 w3 o3 g3
                              (try rw [List.nil_append] at o3)
                              have B3 := hid (show Below w.heap.size w w3 from BV.out.grown g3 HSZ.out HOB.out)
                              have O3 := hid o3
                              obtain ⟨va3, vc3, rfl⟩ := own_form o3
                              rw [← HC0.out]
                              have own3 := hid (own_block o3)
                              have O4 : w3.ownsRow w.heap.size 3 1 (.slice va3 h vc3) h (((frq T k).take h).map (Value.int .i64)) := by
                                have := o3
                                unfold OwnI at this
                                rw [← HC0.out] at this
                                exact this
                              have O5 := hid O4
                              rw [← HC0.out] at own3
                              clear o3 g3 O4 O2 N0 O1 RS HRN
                              go_wp2_with (at_builtin; refine wpList_append_own _ rfl _ _ 29 rfl w.heap.size 3 i3 (.int .i64 0) 1 8 Tryz.underlying29 hi hz0 hz1i hz2 rfl (by decide) _ _ _ rfl (O5.out.alloc _) ⟨w3.heap.size, 0, none⟩ 1 1 [.int .i64 k] rfl rfl ?c1 ?c2 ?c3 ?c4 ?c5 ?_)
                              case c1 => exact cell_one_new _ _ _
                              case c2 => first | rfl | (intro x hx; simp at hx; subst hx; rfl)
                              case c3 => unfold maxLen; omega
                              case c4 => omega
                              case c5 => have := B3.out.size; simp; omega
                              intro v4 w4 hown' hgrow _
                              have B4 := hid (show Below w.heap.size w w4 from (B3.out.alloc B3.out.size _).grown hgrow (by have := B3.out.size; simp; omega) (fun j e => (own3.out j e).1))
                              have O6 := hid (show OwnI w4 w.heap.size v4 (frq T (k + 1)) by
                                rw [HFR.out]
                                unfold OwnI
                                rw [List.map_append, List.length_append, ← HC0.out, List.map_take]
                                exact hown')
                              clear hown' hgrow
                              go_wp2_with fail
                              refine ⟨⟨k + 1, by omega, by go_num, B4, O6, hid (fun j hj => ?_)⟩, by simp [intOf]; omega⟩
                              by_cases e : j = k
                              · rw [e]; exact HOKK.out
                              · exact HE.out j (by omega)
                        · go_upto_region 13 with (go_at_call 31; refine (HRZ.out p xa xc na nc X HGK.out).mono ?_; rintro e w1 ⟨⟨bb, rfl, hbb⟩, hb⟩; obtain rfl : bb = false := (by cases bb; exact rfl; exact absurd (hbb.1 rfl) hzq); have B1 := hid hb; clear hb hbb)
                          go_wp2_with fail
                          go_ret
                          refine ⟨⟨_, rfl, fun h => (by cases h), fun h => absurd h (HNO.out (fun r => ?_))⟩, (HBX.out.trans (B1.out.mono HBX.out.size))⟩
                          obtain ⟨r1, r2, r3, r4, r5, r6, r7⟩ := r
                          exact hzq (r7 e5).2
                      · rw [hpn] at x1
                        go_wp2_with fail
                        go_ret
                        refine ⟨⟨_, rfl, fun h => (by cases h), fun h => absurd h (HNO.out (fun r => ?_))⟩, HBX.out⟩
                        obtain ⟨r1, r2, r3, r4, r5, r6, r7⟩ := r
                        have h8 := (r7 e5).1
                        rw [hpn] at h8
                        cases h8
                    · have e5n : (p.pk != 5) = false := by simp at e5; simp [e5]
                      by_cases hlq : RLq pods ns p.l
                      · go_upto_region 14 with (go_at_call 30; refine (HRL.out pods ns p xa xc na nc X HGK.out HRX.out HRN.out).mono ?_; rintro e w1 ⟨⟨bb, rfl, hbb⟩, hb⟩; obtain rfl : bb = true := hbb.2 hlq; have B1 := hid hb; clear hb hbb)
                        have HRP := hid (show RPq pods ns p m from ⟨lt, gt, (by rw [← HN.out]; omega), (by rw [← HN.out]; simp [e3, e4]; have := HN0.out; omega), fun _ => (by rw [← HN.out]; exact HN0.out), fun _ => hlq, fun h => (by rw [e5] at h; cases h)⟩)
                        obtain ⟨h, hh⟩ : ∃ h, m = h + n := ⟨m - n, by omega⟩
                        have hmn : (m : Int) - (n : Int) = (h : Int) := by omega
                        have HH := hid hh
                        have HW1 := hid (HB19.out.low B1.out)
                        have HB1 := hid (HBX.out.trans (B1.out.mono HBX.out.size))
                        have HO1 := hid (own_low HOX.out B1.out)
                        have HK1 := hid (show RdI w1 ka p.ks from HRK.out.low B1.out (Nat.le_refl _))
                        have y18 := HW1.out.2 18 _ rfl
                        have hhl : h ≤ 17592186044000 := by omega
                        clear hh
                        clear x0 x1 x2 x3 x4 x5 x6 x7 x8 x9 x10 x11 x12 x13 x14 x15 x16 x17 x18 z19
                        go_wp2_with fail
                        clear y18
                        go_loopw [13] (fun j wr2 => ∃ q : Nat, q ≤ n ∧ j = .int .i64 q ∧ Hid (Below w1.heap.size w1 wr2) ∧ Hid (∀ i, i < q → p.ks.getD i 0 = ((frq T k).drop h).getD i 0)) (fun j _ => n - (intOf j).toNat)
                        case atStart => exact ⟨0, Nat.zero_le _, rfl, hid (Below.refl _ _), hid (fun i hi => by omega)⟩
                        case round =>
                          obtain ⟨q, hq, rfl, HQB, HQE⟩ := hrel
                          have y18 := (HW1.out.low HQB.out).2 18 _ rfl
                          have hg1 : (q : Int) + 1 ≤ 140737488355329 := by omega
                          by_cases hqn : q < n
                          · have HOQ := own_low HO1.out HQB.out
                            have g5 : (q : Int) < (n : Int) := by omega
                            have g6 : (0 : Int) ≤ (q : Int) := by omega
                            have g7 : (h : Int) + (q : Int) < (m : Int) := by have := HH.out; omega
                            have g8 : (0 : Int) ≤ (h : Int) + (q : Int) := by omega
                            have g9 : ((h : Int) + (q : Int)).toNat = h + q := by omega
                            rcases HK1.out.low HQB.out (Nat.le_refl _) with h0 | ⟨bk, ok, rfl, hbk, hck⟩
                            · have := HN.out; omega
                            have ck := hck q (by rw [← HN.out]; exact hqn)
                            rcases (own_rd HOQ 0 (Nat.zero_le _)).2 with h0 | ⟨g, rfl, hgb, hgl, hgc, hgr, _⟩
                            · have := HM.out; have := HH.out; omega
                            have cg := hgr (h + q) (by rw [← HM.out]; have := HH.out; omega)
                            have HDR := hid (show ((frq T k).drop h).getD q 0 = (frq T k).getD (h + q) 0 by simp [List.getD_eq_getElem?_getD, List.getElem?_drop])
                            clear hck hgr HOQ hgc
                            obtain ⟨kv, hkv⟩ : ∃ kv, kv = p.ks.getD q 0 := ⟨_, rfl⟩
                            obtain ⟨fv, hfv⟩ : ∃ fv, fv = (frq T k).getD (h + q) 0 := ⟨_, rfl⟩
                            rw [← hkv] at ck
                            rw [← hfv] at cg
                            have HKV := hid hkv
                            have HFV := hid hfv
                            clear hkv hfv
                            cases hne : (kv != fv)
                            · go_wp2_with fail
                              go_quiet (fail)
                              go_wp2_with fail
                              refine ⟨⟨q + 1, by omega, by go_num, hid (below_drewN HQB.out nq), hid (fun i hi => ?_)⟩, by simp [intOf]; omega⟩
                              by_cases e : i = q
                              · rw [e, HDR.out, ← HFV.out, ← HKV.out]
                                simpa using hne
                              · exact HQE.out i (by omega)
                            · go_wp2_with fail
                              go_quiet (fail)
                              go_wp2_with fail
                              go_ret
                              refine ⟨⟨_, rfl, fun h => (by cases h), fun h9 => ?_⟩, below_drewN (HB1.out.trans (HQB.out.mono HB1.out.size)) nq⟩
                              have h5 := (h9.1 k (by rw [← HL.out]; exact hlt)).2
                              rw [rgot T k m n h HM.out (by rw [HN.out, HPT.out]) HH.out, ← HPT.out] at h5
                              have h6 : kv = fv := by rw [HKV.out, HFV.out, ← HDR.out, ← h5]
                              simp [h6] at hne
                          · obtain rfl : n = q := by omega
                            have HKE := hid (show p.ks = (frq T k).drop h by
                              refine ks_eq _ _ ?_ ?_
                              · rw [List.length_drop, ← HM.out, ← HN.out]; have := HH.out; omega
                              · intro j hj; exact HQE.out j (by rw [HN.out]; exact hj))
                            have HOKK := hid (show ROk pods ns T k from ⟨by rw [← HPT.out, ← HM.out]; exact HRP.out, by rw [rgot T k m n h HM.out (by rw [HN.out, HPT.out]) HH.out, ← HPT.out]; exact HKE.out⟩)
                            have BX1 := hid (HB1.out.trans (HQB.out.mono HB1.out.size))
                            have O1 := hid (own_low HO1.out HQB.out)
                            have HFR := hid (show frq T (k + 1) = (frq T k).take h ++ [(k : Int)] by
                              show (frq T k).take ((frq T k).length - (pp T k).ks.length) ++ _ = _
                              rw [← HPT.out, ← HN.out, ← HM.out, show m - n = h by have := HH.out; omega])
                            have HHM := hid (show h ≤ m by have := HH.out; omega)
                            have HC0 := hid (show h = ((frq T k).take h).length by rw [List.length_take, ← HM.out]; have := HHM.out; omega)
                            have HRN := head_run (h := h) O1.out HM.out HHM.out
                            clear hq hg1
                            generalize hW : wr = W at *
                            clear hW
                            have bV := belowA W (.cells #[] 3)
                            have BV := hid (BX1.out.alloc BX1.out.size (.cells #[] 3))
                            have O2 := hid (own_low O1.out bV)
                            have N0 := hid (own_new0 W w.heap.size BX1.out.size)
                            clear bV
                            have RS := hid (own_rdI (own_take (show OwnI (W.alloc (.cells #[] 3)) w.heap.size (.slice va (frq T k).length vc) (frq T k) by rw [← HM.out]; exact O2.out) h (by rw [← HM.out]; exact HHM.out))).2
                            have HBD := hid (show ([] : List Int).length + ((frq T k).take h).length ≤ 17592186044000 by rw [← HC0.out]; simp; omega)
                            have HSZ := hid (show w.heap.size ≤ (W.alloc (.cells #[] 3)).heap.size from BV.out.size)
                            have hown : ∀ j, (Value.slice (some ⟨W.heap.size, 0, none⟩) 0 0).ownBlock = some j → w.heap.size ≤ j := by
                              intro j e
                              simp [Value.ownBlock] at e
                              have := BX1.out.size
                              omega
                            have HOB := hid hown
                            have hhm : h ≤ m := HHM.out
                            clear hown
                            go_wp2_with (at_builtin; refine append_src rfl _ _ rfl w.heap.size _ [] rfl N0.out va h vc ((frq T k).take h) HC0.out rfl RS.out.2 RS.out.1 HBD.out HSZ.out ?_)
                            intro v2 w3 o3 g3
                            (try rw [List.nil_append] at o3)
                            have B3 := hid (show Below w.heap.size w w3 from BV.out.grown g3 HSZ.out HOB.out)
                            have O3 := hid o3
                            obtain ⟨va3, vc3, rfl⟩ := own_form o3
                            rw [← HC0.out]
                            have own3 := hid (own_block o3)
                            have O4 : w3.ownsRow w.heap.size 3 1 (.slice va3 h vc3) h (((frq T k).take h).map (Value.int .i64)) := by
                              have := o3
                              unfold OwnI at this
                              rw [← HC0.out] at this
                              exact this
                            have O5 := hid O4
                            rw [← HC0.out] at own3
                            clear o3 g3 O4 O2 N0 O1 RS HRN
                            go_wp2_with (at_builtin; refine wpList_append_own _ rfl _ _ 29 rfl w.heap.size 3 i3 (.int .i64 0) 1 8 Tryz.underlying29 hi hz0 hz1i hz2 rfl (by decide) _ _ _ rfl (O5.out.alloc _) ⟨w3.heap.size, 0, none⟩ 1 1 [.int .i64 k] rfl rfl ?c1 ?c2 ?c3 ?c4 ?c5 ?_)
                            case c1 => exact cell_one_new _ _ _
                            case c2 => first | rfl | (intro x hx; simp at hx; subst hx; rfl)
                            case c3 => unfold maxLen; omega
                            case c4 => omega
                            case c5 => have := B3.out.size; simp; omega
                            intro v4 w4 hown' hgrow _
                            have B4 := hid (show Below w.heap.size w w4 from (B3.out.alloc B3.out.size _).grown hgrow (by have := B3.out.size; simp; omega) (fun j e => (own3.out j e).1))
                            have O6 := hid (show OwnI w4 w.heap.size v4 (frq T (k + 1)) by
                              rw [HFR.out]
                              unfold OwnI
                              rw [List.map_append, List.length_append, ← HC0.out, List.map_take]
                              exact hown')
                            clear hown' hgrow
                            go_wp2_with fail
                            refine ⟨⟨k + 1, by omega, by go_num, B4, O6, hid (fun j hj => ?_)⟩, by simp [intOf]; omega⟩
                            by_cases e : j = k
                            · rw [e]; exact HOKK.out
                            · exact HE.out j (by omega)
                      · go_upto_region 11 with (go_at_call 30; refine (HRL.out pods ns p xa xc na nc X HGK.out HRX.out HRN.out).mono ?_; rintro e w1 ⟨⟨bb, rfl, hbb⟩, hb⟩; obtain rfl : bb = false := (by cases bb; exact rfl; exact absurd (hbb.1 rfl) hlq); have B1 := hid hb; clear hb hbb)
                        go_wp2_with fail
                        go_ret
                        refine ⟨⟨_, rfl, fun h => (by cases h), fun h => absurd h (HNO.out (fun r => ?_))⟩, (HBX.out.trans (B1.out.mono HBX.out.size))⟩
                        obtain ⟨r1, r2, r3, r4, r5, r6, r7⟩ := r
                        exact hlq (r6 e5)
                  · have gt0 : decide ((0 : Int) < (n : Int)) = true := by simp; omega
                    have gt0n : decide (0 < n) = true := by simp; omega
                    have geq : decide ((2 : Int) ≤ (n : Int)) = false := by simp; omega
                    go_wp2_with fail
                    go_ret
                    refine ⟨⟨_, rfl, fun h => (by cases h), fun h => absurd h (HNO.out (fun r => ?_))⟩, HBX.out⟩
                    obtain ⟨r1, r2, r3, r4, r5, r6, r7⟩ := r
                    have h8 := r5 (by simp [e3, e4])
                    rw [← HN.out] at h8
                    omega
            · go_wp2_with fail
              go_ret
              refine ⟨⟨_, rfl, fun h => (by cases h), fun h => absurd h (HNO.out (fun r => ?_))⟩, HBX.out⟩
              obtain ⟨r1, r2, r3, r4, r5, r6, r7⟩ := r
              rw [gt] at r2
              cases r2
          · go_wp2_with fail
            go_ret
            refine ⟨⟨_, rfl, fun h => (by cases h), fun h => absurd h (HNO.out (fun r => ?_))⟩, HBX.out⟩
            obtain ⟨r1, r2, r3, r4, r5, r6, r7⟩ := r
            rw [lt] at r1
            cases r1
        · have lt : decide (p.pk < 1) = false := by simp at e4; simp [e4]
          have gt : decide (5 < p.pk) = false := by simp at e4; simp [e4]
          have e5 : (p.pk == 5) = false := by simp at e4; simp [e4]
          have e5n : (p.pk != 5) = true := by simp at e4; simp [e4]
          by_cases hd : m < n
          · have d1 : decide ((m : Int) < (n : Int)) = true := by simp; omega
            go_wp2_with fail
            go_ret
            refine ⟨⟨_, rfl, fun h => (by cases h), fun h => absurd h (HNO.out (fun r => ?_))⟩, HBX.out⟩
            obtain ⟨r1, r2, r3, r4, r5, r6, r7⟩ := r
            rw [← HN.out] at r3
            omega
          · have d1 : decide ((m : Int) < (n : Int)) = false := by simp; omega
            by_cases hge : 2 ≤ n
            · have geq : decide ((2 : Int) ≤ (n : Int)) = true := by simp; omega
              cases hpn : p.pn
              · rw [hpn] at x1
                by_cases hzq : RZq p.l
                · go_upto_region 14 with (go_at_call 31; refine (HRZ.out p xa xc na nc X HGK.out).mono ?_; rintro e w1 ⟨⟨bb, rfl, hbb⟩, hb⟩; obtain rfl : bb = true := hbb.2 hzq; have B1 := hid hb; clear hb hbb)
                  have HRP := hid (show RPq pods ns p m from ⟨lt, gt, by rw [← HN.out]; omega, by rw [← HN.out]; simp [e4]; omega, fun h => (by simp [e4] at h), fun h => (by rw [e5] at h; cases h), fun _ => ⟨hpn, hzq⟩⟩)
                  obtain ⟨h, hh⟩ : ∃ h, m = h + n := ⟨m - n, by omega⟩
                  have hmn : (m : Int) - (n : Int) = (h : Int) := by omega
                  have HH := hid hh
                  have HW1 := hid (HB19.out.low B1.out)
                  have HB1 := hid (HBX.out.trans (B1.out.mono HBX.out.size))
                  have HO1 := hid (own_low HOX.out B1.out)
                  have HK1 := hid (show RdI w1 ka p.ks from HRK.out.low B1.out (Nat.le_refl _))
                  have y18 := HW1.out.2 18 _ rfl
                  have hhl : h ≤ 17592186044000 := by omega
                  clear hh
                  clear x0 x1 x2 x3 x4 x5 x6 x7 x8 x9 x10 x11 x12 x13 x14 x15 x16 x17 x18 z19
                  go_wp2_with fail
                  clear y18
                  go_loopw [13] (fun j wr2 => ∃ q : Nat, q ≤ n ∧ j = .int .i64 q ∧ Hid (Below w1.heap.size w1 wr2) ∧ Hid (∀ i, i < q → p.ks.getD i 0 = ((frq T k).drop h).getD i 0)) (fun j _ => n - (intOf j).toNat)
                  case atStart => exact ⟨0, Nat.zero_le _, rfl, hid (Below.refl _ _), hid (fun i hi => by omega)⟩
                  case round =>
                    obtain ⟨q, hq, rfl, HQB, HQE⟩ := hrel
                    have y18 := (HW1.out.low HQB.out).2 18 _ rfl
                    have hg1 : (q : Int) + 1 ≤ 140737488355329 := by omega
                    by_cases hqn : q < n
                    · have HOQ := own_low HO1.out HQB.out
                      have g5 : (q : Int) < (n : Int) := by omega
                      have g6 : (0 : Int) ≤ (q : Int) := by omega
                      have g7 : (h : Int) + (q : Int) < (m : Int) := by have := HH.out; omega
                      have g8 : (0 : Int) ≤ (h : Int) + (q : Int) := by omega
                      have g9 : ((h : Int) + (q : Int)).toNat = h + q := by omega
                      rcases HK1.out.low HQB.out (Nat.le_refl _) with h0 | ⟨bk, ok, rfl, hbk, hck⟩
                      · have := HN.out; omega
                      have ck := hck q (by rw [← HN.out]; exact hqn)
                      rcases (own_rd HOQ 0 (Nat.zero_le _)).2 with h0 | ⟨g, rfl, hgb, hgl, hgc, hgr, _⟩
                      · have := HM.out; have := HH.out; omega
                      have cg := hgr (h + q) (by rw [← HM.out]; have := HH.out; omega)
                      have HDR := hid (show ((frq T k).drop h).getD q 0 = (frq T k).getD (h + q) 0 by simp [List.getD_eq_getElem?_getD, List.getElem?_drop])
                      clear hck hgr HOQ hgc
                      obtain ⟨kv, hkv⟩ : ∃ kv, kv = p.ks.getD q 0 := ⟨_, rfl⟩
                      obtain ⟨fv, hfv⟩ : ∃ fv, fv = (frq T k).getD (h + q) 0 := ⟨_, rfl⟩
                      rw [← hkv] at ck
                      rw [← hfv] at cg
                      have HKV := hid hkv
                      have HFV := hid hfv
                      clear hkv hfv
                      cases hne : (kv != fv)
                      · go_wp2_with fail
                        go_quiet (fail)
                        go_wp2_with fail
                        refine ⟨⟨q + 1, by omega, by go_num, hid (below_drewN HQB.out nq), hid (fun i hi => ?_)⟩, by simp [intOf]; omega⟩
                        by_cases e : i = q
                        · rw [e, HDR.out, ← HFV.out, ← HKV.out]
                          simpa using hne
                        · exact HQE.out i (by omega)
                      · go_wp2_with fail
                        go_quiet (fail)
                        go_wp2_with fail
                        go_ret
                        refine ⟨⟨_, rfl, fun h => (by cases h), fun h9 => ?_⟩, below_drewN (HB1.out.trans (HQB.out.mono HB1.out.size)) nq⟩
                        have h5 := (h9.1 k (by rw [← HL.out]; exact hlt)).2
                        rw [rgot T k m n h HM.out (by rw [HN.out, HPT.out]) HH.out, ← HPT.out] at h5
                        have h6 : kv = fv := by rw [HKV.out, HFV.out, ← HDR.out, ← h5]
                        simp [h6] at hne
                    · obtain rfl : n = q := by omega
                      have HKE := hid (show p.ks = (frq T k).drop h by
                        refine ks_eq _ _ ?_ ?_
                        · rw [List.length_drop, ← HM.out, ← HN.out]; have := HH.out; omega
                        · intro j hj; exact HQE.out j (by rw [HN.out]; exact hj))
                      have HOKK := hid (show ROk pods ns T k from ⟨by rw [← HPT.out, ← HM.out]; exact HRP.out, by rw [rgot T k m n h HM.out (by rw [HN.out, HPT.out]) HH.out, ← HPT.out]; exact HKE.out⟩)
                      have BX1 := hid (HB1.out.trans (HQB.out.mono HB1.out.size))
                      have O1 := hid (own_low HO1.out HQB.out)
                      have HFR := hid (show frq T (k + 1) = (frq T k).take h ++ [(k : Int)] by
                        show (frq T k).take ((frq T k).length - (pp T k).ks.length) ++ _ = _
                        rw [← HPT.out, ← HN.out, ← HM.out, show m - n = h by have := HH.out; omega])
                      have HHM := hid (show h ≤ m by have := HH.out; omega)
                      have HC0 := hid (show h = ((frq T k).take h).length by rw [List.length_take, ← HM.out]; have := HHM.out; omega)
                      have HRN := head_run (h := h) O1.out HM.out HHM.out
                      clear hq hg1
                      generalize hW : wr = W at *
                      clear hW
                      have bV := belowA W (.cells #[] 3)
                      have BV := hid (BX1.out.alloc BX1.out.size (.cells #[] 3))
                      have O2 := hid (own_low O1.out bV)
                      have N0 := hid (own_new0 W w.heap.size BX1.out.size)
                      clear bV
                      have RS := hid (own_rdI (own_take (show OwnI (W.alloc (.cells #[] 3)) w.heap.size (.slice va (frq T k).length vc) (frq T k) by rw [← HM.out]; exact O2.out) h (by rw [← HM.out]; exact HHM.out))).2
                      have HBD := hid (show ([] : List Int).length + ((frq T k).take h).length ≤ 17592186044000 by rw [← HC0.out]; simp; omega)
                      have HSZ := hid (show w.heap.size ≤ (W.alloc (.cells #[] 3)).heap.size from BV.out.size)
                      have hown : ∀ j, (Value.slice (some ⟨W.heap.size, 0, none⟩) 0 0).ownBlock = some j → w.heap.size ≤ j := by
                        intro j e
                        simp [Value.ownBlock] at e
                        have := BX1.out.size
                        omega
                      have HOB := hid hown
                      have hhm : h ≤ m := HHM.out
                      clear hown
                      go_wp2_with (at_builtin; refine append_src rfl _ _ rfl w.heap.size _ [] rfl N0.out va h vc ((frq T k).take h) HC0.out rfl RS.out.2 RS.out.1 HBD.out HSZ.out ?_)
                      intro v2 w3 o3 g3
                      (try rw [List.nil_append] at o3)
                      have B3 := hid (show Below w.heap.size w w3 from BV.out.grown g3 HSZ.out HOB.out)
                      have O3 := hid o3
                      obtain ⟨va3, vc3, rfl⟩ := own_form o3
                      rw [← HC0.out]
                      have own3 := hid (own_block o3)
                      have O4 : w3.ownsRow w.heap.size 3 1 (.slice va3 h vc3) h (((frq T k).take h).map (Value.int .i64)) := by
                        have := o3
                        unfold OwnI at this
                        rw [← HC0.out] at this
                        exact this
                      have O5 := hid O4
                      rw [← HC0.out] at own3
                      clear o3 g3 O4 O2 N0 O1 RS HRN
                      go_wp2_with (at_builtin; refine wpList_append_own _ rfl _ _ 29 rfl w.heap.size 3 i3 (.int .i64 0) 1 8 Tryz.underlying29 hi hz0 hz1i hz2 rfl (by decide) _ _ _ rfl (O5.out.alloc _) ⟨w3.heap.size, 0, none⟩ 1 1 [.int .i64 k] rfl rfl ?c1 ?c2 ?c3 ?c4 ?c5 ?_)
                      case c1 => exact cell_one_new _ _ _
                      case c2 => first | rfl | (intro x hx; simp at hx; subst hx; rfl)
                      case c3 => unfold maxLen; omega
                      case c4 => omega
                      case c5 => have := B3.out.size; simp; omega
                      intro v4 w4 hown' hgrow _
                      have B4 := hid (show Below w.heap.size w w4 from (B3.out.alloc B3.out.size _).grown hgrow (by have := B3.out.size; simp; omega) (fun j e => (own3.out j e).1))
                      have O6 := hid (show OwnI w4 w.heap.size v4 (frq T (k + 1)) by
                        rw [HFR.out]
                        unfold OwnI
                        rw [List.map_append, List.length_append, ← HC0.out, List.map_take]
                        exact hown')
                      clear hown' hgrow
                      go_wp2_with fail
                      refine ⟨⟨k + 1, by omega, by go_num, B4, O6, hid (fun j hj => ?_)⟩, by simp [intOf]; omega⟩
                      by_cases e : j = k
                      · rw [e]; exact HOKK.out
                      · exact HE.out j (by omega)
                · go_upto_region 13 with (go_at_call 31; refine (HRZ.out p xa xc na nc X HGK.out).mono ?_; rintro e w1 ⟨⟨bb, rfl, hbb⟩, hb⟩; obtain rfl : bb = false := (by cases bb; exact rfl; exact absurd (hbb.1 rfl) hzq); have B1 := hid hb; clear hb hbb)
                  go_wp2_with fail
                  go_ret
                  refine ⟨⟨_, rfl, fun h => (by cases h), fun h => absurd h (HNO.out (fun r => ?_))⟩, (HBX.out.trans (B1.out.mono HBX.out.size))⟩
                  obtain ⟨r1, r2, r3, r4, r5, r6, r7⟩ := r
                  exact hzq (r7 e5).2
              · rw [hpn] at x1
                go_wp2_with fail
                go_ret
                refine ⟨⟨_, rfl, fun h => (by cases h), fun h => absurd h (HNO.out (fun r => ?_))⟩, HBX.out⟩
                obtain ⟨r1, r2, r3, r4, r5, r6, r7⟩ := r
                have h8 := (r7 e5).1
                rw [hpn] at h8
                cases h8
            · have geq : decide ((2 : Int) ≤ (n : Int)) = false := by simp; omega
              go_wp2_with fail
              go_ret
              refine ⟨⟨_, rfl, fun h => (by cases h), fun h => absurd h (HNO.out (fun r => ?_))⟩, HBX.out⟩
              obtain ⟨r1, r2, r3, r4, r5, r6, r7⟩ := r
              rw [← HN.out] at r4
              simp [e4] at r4
              omega
      · have lt : decide (p.pk < 1) = false := by simp at e3; simp [e3]
        have gt : decide (5 < p.pk) = false := by simp at e3; simp [e3]
        have e5 : (p.pk == 5) = false := by simp at e3; simp [e3]
        have e5n : (p.pk != 5) = true := by simp at e3; simp [e3]
        by_cases hd : m < n
        · have d1 : decide ((m : Int) < (n : Int)) = true := by simp; omega
          go_wp2_with fail
          go_ret
          refine ⟨⟨_, rfl, fun h => (by cases h), fun h => absurd h (HNO.out (fun r => ?_))⟩, HBX.out⟩
          obtain ⟨r1, r2, r3, r4, r5, r6, r7⟩ := r
          rw [← HN.out] at r3
          omega
        · have d1 : decide ((m : Int) < (n : Int)) = false := by simp; omega
          by_cases hge : 2 ≤ n
          · have geq : decide ((2 : Int) ≤ (n : Int)) = true := by simp; omega
            cases hpn : p.pn
            · rw [hpn] at x1
              by_cases hzq : RZq p.l
              · go_upto_region 14 with (go_at_call 31; refine (HRZ.out p xa xc na nc X HGK.out).mono ?_; rintro e w1 ⟨⟨bb, rfl, hbb⟩, hb⟩; obtain rfl : bb = true := hbb.2 hzq; have B1 := hid hb; clear hb hbb)
                have HRP := hid (show RPq pods ns p m from ⟨lt, gt, by rw [← HN.out]; omega, by rw [← HN.out]; simp [e3]; omega, fun h => (by simp [e3] at h), fun h => (by rw [e5] at h; cases h), fun _ => ⟨hpn, hzq⟩⟩)
                obtain ⟨h, hh⟩ : ∃ h, m = h + n := ⟨m - n, by omega⟩
                have hmn : (m : Int) - (n : Int) = (h : Int) := by omega
                have HH := hid hh
                have HW1 := hid (HB19.out.low B1.out)
                have HB1 := hid (HBX.out.trans (B1.out.mono HBX.out.size))
                have HO1 := hid (own_low HOX.out B1.out)
                have HK1 := hid (show RdI w1 ka p.ks from HRK.out.low B1.out (Nat.le_refl _))
                have y18 := HW1.out.2 18 _ rfl
                have hhl : h ≤ 17592186044000 := by omega
                clear hh
                clear x0 x1 x2 x3 x4 x5 x6 x7 x8 x9 x10 x11 x12 x13 x14 x15 x16 x17 x18 z19
                go_wp2_with fail
                clear y18
                go_loopw [13] (fun j wr2 => ∃ q : Nat, q ≤ n ∧ j = .int .i64 q ∧ Hid (Below w1.heap.size w1 wr2) ∧ Hid (∀ i, i < q → p.ks.getD i 0 = ((frq T k).drop h).getD i 0)) (fun j _ => n - (intOf j).toNat)
                case atStart => exact ⟨0, Nat.zero_le _, rfl, hid (Below.refl _ _), hid (fun i hi => by omega)⟩
                case round =>
                  obtain ⟨q, hq, rfl, HQB, HQE⟩ := hrel
                  have y18 := (HW1.out.low HQB.out).2 18 _ rfl
                  have hg1 : (q : Int) + 1 ≤ 140737488355329 := by omega
                  by_cases hqn : q < n
                  · have HOQ := own_low HO1.out HQB.out
                    have g5 : (q : Int) < (n : Int) := by omega
                    have g6 : (0 : Int) ≤ (q : Int) := by omega
                    have g7 : (h : Int) + (q : Int) < (m : Int) := by have := HH.out; omega
                    have g8 : (0 : Int) ≤ (h : Int) + (q : Int) := by omega
                    have g9 : ((h : Int) + (q : Int)).toNat = h + q := by omega
                    rcases HK1.out.low HQB.out (Nat.le_refl _) with h0 | ⟨bk, ok, rfl, hbk, hck⟩
                    · have := HN.out; omega
                    have ck := hck q (by rw [← HN.out]; exact hqn)
                    rcases (own_rd HOQ 0 (Nat.zero_le _)).2 with h0 | ⟨g, rfl, hgb, hgl, hgc, hgr, _⟩
                    · have := HM.out; have := HH.out; omega
                    have cg := hgr (h + q) (by rw [← HM.out]; have := HH.out; omega)
                    have HDR := hid (show ((frq T k).drop h).getD q 0 = (frq T k).getD (h + q) 0 by simp [List.getD_eq_getElem?_getD, List.getElem?_drop])
                    clear hck hgr HOQ hgc
                    obtain ⟨kv, hkv⟩ : ∃ kv, kv = p.ks.getD q 0 := ⟨_, rfl⟩
                    obtain ⟨fv, hfv⟩ : ∃ fv, fv = (frq T k).getD (h + q) 0 := ⟨_, rfl⟩
                    rw [← hkv] at ck
                    rw [← hfv] at cg
                    have HKV := hid hkv
                    have HFV := hid hfv
                    clear hkv hfv
                    cases hne : (kv != fv)
                    · go_wp2_with fail
                      go_quiet (fail)
                      go_wp2_with fail
                      refine ⟨⟨q + 1, by omega, by go_num, hid (below_drewN HQB.out nq), hid (fun i hi => ?_)⟩, by simp [intOf]; omega⟩
                      by_cases e : i = q
                      · rw [e, HDR.out, ← HFV.out, ← HKV.out]
                        simpa using hne
                      · exact HQE.out i (by omega)
                    · go_wp2_with fail
                      go_quiet (fail)
                      go_wp2_with fail
                      go_ret
                      refine ⟨⟨_, rfl, fun h => (by cases h), fun h9 => ?_⟩, below_drewN (HB1.out.trans (HQB.out.mono HB1.out.size)) nq⟩
                      have h5 := (h9.1 k (by rw [← HL.out]; exact hlt)).2
                      rw [rgot T k m n h HM.out (by rw [HN.out, HPT.out]) HH.out, ← HPT.out] at h5
                      have h6 : kv = fv := by rw [HKV.out, HFV.out, ← HDR.out, ← h5]
                      simp [h6] at hne
                  · obtain rfl : n = q := by omega
                    have HKE := hid (show p.ks = (frq T k).drop h by
                      refine ks_eq _ _ ?_ ?_
                      · rw [List.length_drop, ← HM.out, ← HN.out]; have := HH.out; omega
                      · intro j hj; exact HQE.out j (by rw [HN.out]; exact hj))
                    have HOKK := hid (show ROk pods ns T k from ⟨by rw [← HPT.out, ← HM.out]; exact HRP.out, by rw [rgot T k m n h HM.out (by rw [HN.out, HPT.out]) HH.out, ← HPT.out]; exact HKE.out⟩)
                    have BX1 := hid (HB1.out.trans (HQB.out.mono HB1.out.size))
                    have O1 := hid (own_low HO1.out HQB.out)
                    have HFR := hid (show frq T (k + 1) = (frq T k).take h ++ [(k : Int)] by
                      show (frq T k).take ((frq T k).length - (pp T k).ks.length) ++ _ = _
                      rw [← HPT.out, ← HN.out, ← HM.out, show m - n = h by have := HH.out; omega])
                    have HHM := hid (show h ≤ m by have := HH.out; omega)
                    have HC0 := hid (show h = ((frq T k).take h).length by rw [List.length_take, ← HM.out]; have := HHM.out; omega)
                    have HRN := head_run (h := h) O1.out HM.out HHM.out
                    clear hq hg1
                    generalize hW : wr = W at *
                    clear hW
                    have bV := belowA W (.cells #[] 3)
                    have BV := hid (BX1.out.alloc BX1.out.size (.cells #[] 3))
                    have O2 := hid (own_low O1.out bV)
                    have N0 := hid (own_new0 W w.heap.size BX1.out.size)
                    clear bV
                    have RS := hid (own_rdI (own_take (show OwnI (W.alloc (.cells #[] 3)) w.heap.size (.slice va (frq T k).length vc) (frq T k) by rw [← HM.out]; exact O2.out) h (by rw [← HM.out]; exact HHM.out))).2
                    have HBD := hid (show ([] : List Int).length + ((frq T k).take h).length ≤ 17592186044000 by rw [← HC0.out]; simp; omega)
                    have HSZ := hid (show w.heap.size ≤ (W.alloc (.cells #[] 3)).heap.size from BV.out.size)
                    have hown : ∀ j, (Value.slice (some ⟨W.heap.size, 0, none⟩) 0 0).ownBlock = some j → w.heap.size ≤ j := by
                      intro j e
                      simp [Value.ownBlock] at e
                      have := BX1.out.size
                      omega
                    have HOB := hid hown
                    have hhm : h ≤ m := HHM.out
                    clear hown
                    go_wp2_with (at_builtin; refine append_src rfl _ _ rfl w.heap.size _ [] rfl N0.out va h vc ((frq T k).take h) HC0.out rfl RS.out.2 RS.out.1 HBD.out HSZ.out ?_)
                    intro v2 w3 o3 g3
                    (try rw [List.nil_append] at o3)
                    have B3 := hid (show Below w.heap.size w w3 from BV.out.grown g3 HSZ.out HOB.out)
                    have O3 := hid o3
                    obtain ⟨va3, vc3, rfl⟩ := own_form o3
                    rw [← HC0.out]
                    have own3 := hid (own_block o3)
                    have O4 : w3.ownsRow w.heap.size 3 1 (.slice va3 h vc3) h (((frq T k).take h).map (Value.int .i64)) := by
                      have := o3
                      unfold OwnI at this
                      rw [← HC0.out] at this
                      exact this
                    have O5 := hid O4
                    rw [← HC0.out] at own3
                    clear o3 g3 O4 O2 N0 O1 RS HRN
                    go_wp2_with (at_builtin; refine wpList_append_own _ rfl _ _ 29 rfl w.heap.size 3 i3 (.int .i64 0) 1 8 Tryz.underlying29 hi hz0 hz1i hz2 rfl (by decide) _ _ _ rfl (O5.out.alloc _) ⟨w3.heap.size, 0, none⟩ 1 1 [.int .i64 k] rfl rfl ?c1 ?c2 ?c3 ?c4 ?c5 ?_)
                    case c1 => exact cell_one_new _ _ _
                    case c2 => first | rfl | (intro x hx; simp at hx; subst hx; rfl)
                    case c3 => unfold maxLen; omega
                    case c4 => omega
                    case c5 => have := B3.out.size; simp; omega
                    intro v4 w4 hown' hgrow _
                    have B4 := hid (show Below w.heap.size w w4 from (B3.out.alloc B3.out.size _).grown hgrow (by have := B3.out.size; simp; omega) (fun j e => (own3.out j e).1))
                    have O6 := hid (show OwnI w4 w.heap.size v4 (frq T (k + 1)) by
                      rw [HFR.out]
                      unfold OwnI
                      rw [List.map_append, List.length_append, ← HC0.out, List.map_take]
                      exact hown')
                    clear hown' hgrow
                    go_wp2_with fail
                    refine ⟨⟨k + 1, by omega, by go_num, B4, O6, hid (fun j hj => ?_)⟩, by simp [intOf]; omega⟩
                    by_cases e : j = k
                    · rw [e]; exact HOKK.out
                    · exact HE.out j (by omega)
              · go_upto_region 13 with (go_at_call 31; refine (HRZ.out p xa xc na nc X HGK.out).mono ?_; rintro e w1 ⟨⟨bb, rfl, hbb⟩, hb⟩; obtain rfl : bb = false := (by cases bb; exact rfl; exact absurd (hbb.1 rfl) hzq); have B1 := hid hb; clear hb hbb)
                go_wp2_with fail
                go_ret
                refine ⟨⟨_, rfl, fun h => (by cases h), fun h => absurd h (HNO.out (fun r => ?_))⟩, (HBX.out.trans (B1.out.mono HBX.out.size))⟩
                obtain ⟨r1, r2, r3, r4, r5, r6, r7⟩ := r
                exact hzq (r7 e5).2
            · rw [hpn] at x1
              go_wp2_with fail
              go_ret
              refine ⟨⟨_, rfl, fun h => (by cases h), fun h => absurd h (HNO.out (fun r => ?_))⟩, HBX.out⟩
              obtain ⟨r1, r2, r3, r4, r5, r6, r7⟩ := r
              have h8 := (r7 e5).1
              rw [hpn] at h8
              cases h8
          · have geq : decide ((2 : Int) ≤ (n : Int)) = false := by simp; omega
            go_wp2_with fail
            go_ret
            refine ⟨⟨_, rfl, fun h => (by cases h), fun h => absurd h (HNO.out (fun r => ?_))⟩, HBX.out⟩
            obtain ⟨r1, r2, r3, r4, r5, r6, r7⟩ := r
            rw [← HN.out] at r4
            simp [e3] at r4
            omega
    · obtain rfl : k = L := by omega
      have HEV := HE.out
      cases hm1 : ((m : Int) == 1)
      · go_wp2_with fail
        go_ret
        refine ⟨⟨_, rfl, fun h => (by cases h), fun h => ?_⟩, HB.out⟩
        have h2 := h.2
        rw [← HL.out, ← HM.out] at h2
        simp [h2] at hm1
      · go_wp2_with fail
        go_ret
        refine ⟨⟨_, rfl, fun _ => ⟨fun j hj => HEV j (by rw [HL.out]; exact hj), ?_⟩, fun _ => rfl⟩, HB.out⟩
        rw [← HL.out, ← HM.out]
        simp at hm1
        omega
end Go.Proofs.YtimmjikpcekffaaGreatDoor.L
