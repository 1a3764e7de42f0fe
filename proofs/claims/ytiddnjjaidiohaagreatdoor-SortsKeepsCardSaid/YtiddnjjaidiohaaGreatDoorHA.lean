import Derived.Test.YtiddnjjaidiohaaGreatDoorMgAF
import Derived.Laws.OwnMore
import Derived.Laws.MakeOwn
import Derived.Deep.CutRange
namespace Go.Proofs.YtiddnjjaidiohaaGreatDoor.L
open Go.RowKit
set_option linter.unusedVariables false
theorem own_set {W : World} {base g L cap : Nat} {zs : List Int} (h : OwnI W base (.slice (some ⟨g, 0, none⟩) L cap) zs) (hL : L = zs.length) (x : Nat) (v : Int) :
    OwnI (W.setCell ⟨g, x, none⟩ (.int .i64 v)) base (.slice (some ⟨g, 0, none⟩) L cap) (zs.set x v) ∧ W.grownBy (W.setCell ⟨g, x, none⟩ (.int .i64 v)) (some g) := by
  subst hL
  have := World.ownsRow.stored h x (.int .i64 v)
  refine ⟨?_, this.2⟩
  unfold OwnI
  rw [List.length_set, List.map_set]
  exact this.1
theorem own_cell {W : World} {base g L cap : Nat} {zs : List Int} (h : OwnI W base (.slice (some ⟨g, 0, none⟩) L cap) zs) (hL : L = zs.length) (j : Nat) (hj : j < L) : W.cell? ⟨g, j, none⟩ = some (.int .i64 (zs.getD j 0)) ∧ W.frozen? ⟨g, j, none⟩ = false := by
  subst hL
  refine ⟨?_, World.ownsRow.frozenAt h j⟩
  rw [World.ownsRow.cellAt h j (by omega), List.getElem?_map, List.getElem?_eq_getElem hj, List.getD_eq_getElem?_getD, List.getElem?_eq_getElem hj]
  rfl
theorem make_ints (n : Nat) (hn : n ≤ 1000) (w : World) : (Instr.makeSlice 58 (.int .i64 (n : Int)) (.int .i64 (n : Int))).run Tryz.prog w = .ok (.slice (some ⟨w.heap.size, 0, none⟩) n n) (w.alloc (.cells (madeCells #[.int .i64 0] n) 3)) := by
  obtain ⟨i, hi, hz, hs, hb⟩ := info_parts info3
  have h := run_makeSlice (P := Tryz.prog) w 58 3 i (.int .i64 0) Tryz.underlying58 hi hz .i64 .i64 n n (by omega) (by omega) (by rw [hs]; omega) (by rw [hb]; omega) (by omega)
  rw [hs] at h
  simpa [Value.cells] using h
theorem own_made (w : World) (n base : Nat) (hn : n ≤ 1000) (hb : base ≤ w.heap.size) : OwnI (w.alloc (.cells (madeCells #[.int .i64 0] n) 3)) base (.slice (some ⟨w.heap.size, 0, none⟩) n n) (List.replicate n 0) := by
  have h := World.ownsRow_lit (base := base) (e := 3) (size := 1) w (madeCells #[.int .i64 0] n) n hb (by unfold maxLen; omega) (by rw [size_madeCells]; simp)
  unfold OwnI
  rw [List.length_replicate, List.map_replicate, ← toList_madeCells_one]
  exact h
theorem opB_eq (k : Int) : opB k = (k == 3 || k == 8 || k == 9 || k == 20 || k == 19) := by
  unfold opB
  rw [Bool.eq_iff_iff]
  split <;> simp_all <;> omega
theorem own_mono {W : World} {base base' : Nat} {v : Value} {zs : List Int} (h : OwnI W base v zs) (hb : base' ≤ base) : OwnI W base' v zs := by
  refine ⟨h.1, ?_⟩
  rcases h.2 with e | ⟨g, cap, cur, e, hg, r⟩
  · exact .inl e
  · exact .inr ⟨g, cap, cur, e, Nat.le_trans hb hg, r⟩
theorem inn_cons (T : List Pt) (i : Nat) (x : Int) (ks n : List Int) : inn T i (x :: ks) n = inn T i ks (n.set x.toNat (n.getD i 0 + btw (pt T i).kind (pt T x.toNat).kind)) := rfl
set_option maxHeartbeats 16000000 in
set_option maxRecDepth 100000 in
theorem rnests_any (a : Option Addr) (T : List Pt) (cap : Nat) (w : World) (hT : PL w a T) (h1 : 1 ≤ T.length) (hL : T.length ≤ 1000) (hok : Ok0 T) :
    Calls Tryz.prog 29 #[.agg #[.slice a T.length cap]] w fun e w' => ∃ v, e = .returned v ∧ OwnI w' w.heap.size v (nests T) ∧ Below w.heap.size w w' := by
  obtain ⟨L, hLe⟩ : ∃ L, L = T.length := ⟨_, rfl⟩
  have HT := hid hT
  have HL := hid hLe
  have HOK := hid hok
  have HBR := hid rbr_any
  rw [← hLe] at h1 hL ⊢
  have HX0 := hid (Boxed.new w 26 (.slice a L cap))
  have HB0 := hid (belowA w (.cells #[.slice a L cap] 26))
  have HS0 := hid (show (w.alloc (.cells #[.slice a L cap] 26)).heap.size = w.heap.size + 1 by simp)
  have MK := fun W => make_ints L hL W
  have HLI : ((L : Int) - 1) = ((L - 1 : Nat) : Int) := by omega
  clear hT hLe hok
  go_enter Tryz.func29, Tryz.ntmps29
  go_upto_region 2 with (fail)
  have HTX := hid (HT.out.low HB0.out)
  generalize hXe : w.alloc (.cells #[.slice a L cap] 26) = X at *
  clear hXe
  have OV := hid (own_made X L X.heap.size hL (Nat.le_refl _))
  have BV := hid (belowA X (.cells (madeCells #[.int .i64 0] L) 3))
  generalize hVe : X.alloc (.cells (madeCells #[.int .i64 0] L) 3) = V at *
  clear hVe MK
  rw [HS0.out] at OV BV
  have xt := (show Boxed V w.heap.size 26 (.slice a L cap) from (BV.out.block _ (by omega)).trans HX0.out).cell
  go_wp2_with fail
  have HWG := hid (show w.heap.size < w.heap.size + 1 by omega)
  generalize hge : w.heap.size + 1 = g at *
  have HGE := hid hge
  clear hge xt
  go_loopw [4] (fun i wr => ∃ (k : Nat) (ns : List Int), k ≤ L ∧ i = .int .i64 ((k : Int) - 1) ∧ Hid (Below g X wr) ∧ Hid (OwnI wr g (.slice (some ⟨g, 0, none⟩) L L) ns) ∧ Hid (ns.length = L) ∧ Hid (Sm L ns) ∧ Hid (nsts T k ns = nests T)) (fun i _ => (intOf i + 1).toNat)
  case atStart =>
    refine ⟨L, List.replicate L 0, Nat.le_refl _, by rw [HLI], BV, OV, hid (by simp), hid (fun j hj => ?_), hid (by rw [HL.out]; rfl)⟩
    have : (List.replicate L (0 : Int)).getD j 0 = 0 := by
      rw [List.getD_eq_getElem?_getD]
      by_cases h : j < L
      · simp [h]
      · simp [h]
    rw [this]
    rw [List.length_replicate] at hj
    omega
  case round =>
    obtain ⟨k, ns, hk, rfl, HB, OW, HLN, HSM, HNS⟩ := hrel
    have xt := (show Boxed wr w.heap.size 26 (.slice a L cap) from (HB.out.block _ HWG.out).trans HX0.out).cell
    cases k with
    | zero =>
      rw [show (((0 : Nat) : Int) - 1) = -1 from rfl]
      go_wp2_with fail
      go_ret
      refine ⟨_, rfl, own_mono (show OwnI wr g _ (nests T) by rw [← HNS.out]; exact OW.out) (by have := HGE.out; omega), HB0.out.trans ((show Below X.heap.size X wr by rw [HS0.out]; exact HB.out).mono HB0.out.size)⟩
    | succ i =>
      have hki : (((i + 1 : Nat) : Int) - 1) = (i : Int) := by omega
      rw [hki]
      clear hki
      have r2 := HTX.out.low (show Below X.heap.size X wr by rw [HS0.out]; exact HB.out)
      rcases r2 with h0 | ⟨b2, o2, rfl, hb2, hc2⟩
      · have := HL.out; omega
      obtain ⟨ka, kc, q0, _, _, q3, rk⟩ := hc2 i (by rw [← HL.out]; omega)
      have HC2 := hid hc2
      have HOKI := hid (HOK.out i (by rw [← HL.out]; omega))
      obtain ⟨kd, hkd⟩ : ∃ kd, kd = (pt T i).kind := ⟨_, rfl⟩
      obtain ⟨ks, hks⟩ : ∃ ks, ks = (pt T i).kids := ⟨_, rfl⟩
      rw [← hkd] at q0
      rw [← hks] at q3 rk
      obtain ⟨n, hn⟩ : ∃ n, n = ks.length := ⟨_, rfl⟩
      rw [← hn] at q3
      have HKD := hid hkd
      have HKS := hid hks
      have HN := hid hn
      have RK := hid rk
      have hn1 : n ≤ 1000 := by
        have h1 := HOKI.out.many
        have h2 := fre_len T i
        rw [← hks, ← hn] at h1
        omega
      clear hc2 hkd hks hn rk
      have g1 : (i : Int) < (L : Int) := by omega
      have g2 : (0 : Int) ≤ (i : Int) := by omega
      go_upto_region 7 with (fail)
      go_cut [5, 45] from 18 to 89 (fun s5 s45 wx => s5 = .int .i64 kd ∧ s45 = .bool (opB kd) ∧ wx = wr)
      case first =>
        go_wp2_with fail
        all_goals
          go_meet
          case rel =>
            refine ⟨?_, ?_, rfl⟩
            · first | rfl | simp_all
            · first | (rw [opB_eq]; done) | (rw [opB_eq]; simp_all)
      case rest =>
      obtain ⟨e5, e0, e1⟩ := hcut
      subst e5
      subst e0
      replace e1 := e1.symm
      subst e1
      go_upto_if 45 with fail
      obtain ⟨rd, hrd⟩ : ∃ rd : Int, rd = (if opB kd then 1 else 0) := ⟨_, rfl⟩
      have hrb : 0 ≤ rd ∧ rd ≤ 1 := by rw [hrd]; split <;> omega
      have HRD := hid hrd
      clear hrd
      go_cut [6] from 18 to 89 (fun s6 wx => s6 = .int .i64 rd ∧ wx = wr)
      case first =>
        cases ho : opB kd
        · go_wp2_with fail
          go_meet
          case rel => exact ⟨by rw [HRD.out, ho]; rfl, rfl⟩
        · go_wp2_with fail
          go_meet
          case rel => exact ⟨by rw [HRD.out, ho]; rfl, rfl⟩
      case rest =>
      obtain ⟨e0, e1⟩ := hcut
      subst e0
      replace e1 := e1.symm
      subst e1
      go_wp2_with fail
      clear q0 q3 xt hb2
      go_loopw [7] (fun j wx => ∃ (jn : Nat) (ms : List Int), jn ≤ n ∧ j = .int .i64 jn ∧ Hid (Below g X wx) ∧ Hid (OwnI wx g (.slice (some ⟨g, 0, none⟩) L L) ms) ∧ Hid (ms.length = L) ∧ Hid (Sm L ms) ∧ Hid (inn T i (ks.drop jn) ms = inn T i ks ns)) (fun j _ => n - (intOf j).toNat)
      case atStart => exact ⟨0, ns, Nat.zero_le _, rfl, HB, OW, HLN, HSM, hid rfl⟩
      case round =>
        obtain ⟨jn, ms, hjn, rfl, HB2, OW2, HLN2, HSM2, HIN2⟩ := hrel
        have xt := (show Boxed wr w.heap.size 26 (.slice (some ⟨b2, o2, none⟩) L cap) from (HB2.out.block _ HWG.out).trans HX0.out).cell
        have r2 := HTX.out.low (show Below X.heap.size X wr by rw [HS0.out]; exact HB2.out)
        rcases r2 with h0 | ⟨b2', o2', e2, hb2, hc2⟩
        · have := HL.out; omega
        cases e2
        obtain ⟨ka', kc', _, _, _, q3, rk'⟩ := hc2 i (by rw [← HL.out]; omega)
        rw [← HKS.out, ← HN.out] at q3
        by_cases hlt : jn < n
        · rw [← HKS.out] at rk'
          rcases rk' with h0 | ⟨b1, o1, rfl, hb1, hc1⟩
          · have := HN.out; omega
          have p0 := hc1 jn (by rw [← HN.out]; exact hlt)
          have hmem : ks.getD jn 0 ∈ ks := getD_mem (by rw [← HN.out]; exact hlt)
          have hx := HOKI.out.lt (x := ks.getD jn 0) (by rw [← HKS.out]; exact hmem)
          obtain ⟨z, hz⟩ : ∃ z : Nat, ks.getD jn 0 = z := ⟨(ks.getD jn 0).toNat, by omega⟩
          rw [hz] at p0 hx
          have HZ := hid hz
          obtain ⟨_, _, k0, _⟩ := hc2 z (by rw [← HL.out]; omega)
          obtain ⟨kk, hkk⟩ : ∃ kk, kk = (pt T z).kind := ⟨_, rfl⟩
          rw [← hkk] at k0
          have HKK := hid hkk
          obtain ⟨u, hu⟩ : ∃ u, u = ms.getD i 0 := ⟨_, rfl⟩
          have c1 := (own_cell OW2.out HLN2.out.symm i (by omega)).1
          have c2 := (own_cell OW2.out HLN2.out.symm z (by omega)).1
          have f2 := (own_cell OW2.out HLN2.out.symm z (by omega)).2
          obtain ⟨v0, hv0⟩ : ∃ v0, v0 = ms.getD z 0 := ⟨_, rfl⟩
          rw [← hu] at c1
          rw [← hv0] at c2
          have hub := HSM2.out i (by rw [HLN2.out]; omega)
          rw [← hu] at hub
          have hu0 : 0 ≤ u := hub.1
          have hu1 : u ≤ 2000 := by omega
          have HU := hid hu
          have hzi : z < i := by omega
          have HJ1 := hid (show jn + 1 ≤ n by omega)
          have HJ2 := hid (show n - (jn + 1) < n - jn by omega)
          have HLK := hid (show ks.drop jn = (z : Int) :: ks.drop (jn + 1) by
            rw [List.drop_eq_getElem_cons (by rw [← HN.out]; exact hlt)]
            have hz2 := HZ.out
            rw [List.getD_eq_getElem?_getD, List.getElem?_eq_getElem (by rw [← HN.out]; exact hlt)] at hz2
            rw [← hz2]
            rfl)
          clear hc1 hc2 hmem hx hz hkk hu hv0 hub
          have g3 : (jn : Int) < (n : Int) := by omega
          have g4 : (0 : Int) ≤ (jn : Int) := by omega
          have g5 : (z : Int) < (L : Int) := by omega
          have g6 : (0 : Int) ≤ (z : Int) := by omega
          go_upto_region 14 with (fail)
          have S1 := own_set OW2.out HLN2.out.symm z (u + rd)
          have hgz : g ≤ wr.heap.size := by have h1 := HB2.out.size; have h2 := HS0.out; omega
          have HB3 := hid (show Below g X (wr.setCell ⟨g, z, none⟩ (.int .i64 (u + rd))) from HB2.out.grown S1.2 hgz (fun j e => by cases e; exact Nat.le_refl _))
          have O3 := hid S1.1
          have HL3 := hid (show L = (ms.set z (u + rd)).length by rw [List.length_set, HLN2.out])
          clear S1 hgz c1 c2 f2 xt k0 q3 p0
          generalize wr.setCell ⟨g, z, none⟩ (.int .i64 (u + rd)) = W1 at *
          have xt := (show Boxed W1 w.heap.size 26 (.slice (some ⟨b2, o2, none⟩) L cap) from (HB3.out.block _ HWG.out).trans HX0.out).cell
          have r3 := HTX.out.low (show Below X.heap.size X W1 by rw [HS0.out]; exact HB3.out)
          rcases r3 with h0 | ⟨b3', o3', e3, hb3, hc3⟩
          · have := HL.out; omega
          cases e3
          obtain ⟨_, _, k0, _⟩ := hc3 z (by rw [← HL.out]; omega)
          rw [← HKK.out] at k0
          have HBT := hid (show btw kd kk = rd + (if brB kd kk then 1 else 0) by rw [HRD.out]; rfl)
          have hbt := btw_le kd kk
          have FIN := fun (v : Int) (hv : v = u + btw kd kk) => show inn T i (ks.drop (jn + 1)) (ms.set z v) = inn T i ks ns by
            rw [← HIN2.out, HLK.out, inn_cons, Int.toNat_natCast, ← HU.out, ← HKD.out, ← HKK.out, hv]
          have HSS := fun (v : Int) (hv : v = u + btw kd kk) => show Sm L (ms.set z v) from HSM2.out.set (by rw [HLN2.out]; omega) hzi (by rw [← HU.out]; omega)
          have HFI := hid FIN
          have HSF := hid HSS
          clear hc3 hbt FIN HSS
          cases hbr : brB kd kk
          · have HBRR := hid hbr
            go_wp2_with (go_at_call 52; refine (HBR.out _ _ _).mono ?_; rw [HBRR.out]; rintro e w1 ⟨rfl, hww⟩; have hw2 := hww.symm; clear hww; subst hw2)
            have hv : u + rd = u + btw kd kk := by rw [HBT.out, HBRR.out]; simp
            refine ⟨⟨jn + 1, ms.set z (u + rd), HJ1.out, by go_num, HB3, O3, hid HL3.out.symm, hid (HSF.out _ hv), hid (HFI.out _ hv)⟩, ?_⟩
            have h2 := HJ2.out
            have h3 := HJ1.out
            simp [intOf]
            omega
          · have HBRR := hid hbr
            have c3 := (own_cell O3.out HL3.out z (by omega)).1
            have f3 := (own_cell O3.out HL3.out z (by omega)).2
            have ev : (ms.set z (u + rd)).getD z 0 = u + rd := by rw [List.getD_eq_getElem?_getD, List.getElem?_set_self (by rw [HLN2.out]; omega)]; rfl
            rw [ev] at c3
            clear ev
            go_wp2_with (go_at_call 52; refine (HBR.out _ _ _).mono ?_; rw [HBRR.out]; rintro e w1 ⟨rfl, hww⟩; have hw2 := hww.symm; clear hww; subst hw2)
            have S4 := own_set O3.out HL3.out z (u + rd + 1)
            rw [List.set_set] at S4
            have hgz : g ≤ W1.heap.size := by have h1 := HB3.out.size; have h2 := HS0.out; omega
            have HB4 := hid (show Below g X (W1.setCell ⟨g, z, none⟩ (.int .i64 (u + rd + 1))) from HB3.out.grown S4.2 hgz (fun j e => by cases e; exact Nat.le_refl _))
            have hv : u + rd + 1 = u + btw kd kk := by rw [HBT.out, HBRR.out]; simp; omega
            refine ⟨⟨jn + 1, ms.set z (u + rd + 1), HJ1.out, by go_num, HB4, hid S4.1, hid (by rw [List.length_set]; exact HLN2.out), hid (HSF.out _ hv), hid (HFI.out _ hv)⟩, ?_⟩
            have h2 := HJ2.out
            have h3 := HJ1.out
            simp [intOf]
            omega
        · obtain rfl : jn = n := by omega
          go_wp2_with fail
          refine ⟨⟨i, ms, by omega, rfl, HB2, OW2, HLN2, HSM2, hid ?_⟩, ?_⟩
          · rw [← HNS.out]
            have h5 := HIN2.out
            rw [HN.out, List.drop_length] at h5
            show nsts T i ms = nsts T i (inn T i (pt T i).kids ns)
            rw [← HKS.out, ← h5]
            rfl
          · simp only [intOf]
            omega
end Go.Proofs.YtiddnjjaidiohaaGreatDoor.L
