import Derived.Test.YtiddnjjaidiohaaGreatDoorMgAO
namespace Go.Proofs.YtiddnjjaidiohaaGreatDoor.L
open Go.RowKit
set_option linter.unusedVariables false
/-- A fault, as the document tells it. -/
def fO : Option (Nat × Int) → Int × Int
  | none => (0, 0)
  | some e => ((e.1 : Int), e.2)
def fa (o : Option (Nat × Int)) : Value := .agg #[.int .i64 (fO o).1, .int .i64 (fO o).2, .int .i64 0]
theorem rc3 {W : World} {N : Nat} {a b c : Value} {t : TypeId} (h : W.heap[N]? = some (.cells #[a, b, c] t (0, 0))) : (W.cell? ⟨N, 0, none⟩ = some a ∧ W.cell? ⟨N, 1, none⟩ = some b ∧ W.cell? ⟨N, 2, none⟩ = some c) ∧ (W.frozen? ⟨N, 0, none⟩ = false ∧ W.frozen? ⟨N, 1, none⟩ = false ∧ W.frozen? ⟨N, 2, none⟩ = false) :=
  ⟨⟨cell_of_row _ _ 0 _ _ _ h, cell_of_row _ _ 1 _ _ _ h, cell_of_row _ _ 2 _ _ _ h⟩, by simp [World.frozen?, h]⟩
theorem rc2 {W : World} {N : Nat} {a b : Value} {t : TypeId} (h : W.heap[N]? = some (.cells #[a, b] t (0, 0))) : (W.cell? ⟨N, 0, none⟩ = some a ∧ W.cell? ⟨N, 1, none⟩ = some b) ∧ (W.frozen? ⟨N, 0, none⟩ = false ∧ W.frozen? ⟨N, 1, none⟩ = false) :=
  ⟨⟨cell_of_row _ _ 0 _ _ _ h, cell_of_row _ _ 1 _ _ _ h⟩, by simp [World.frozen?, h]⟩
/-- What compared has laid when it asks. -/
structure Cpd (w W : World) (r p g8 g9 : Nat) (part : Array Value) (u1 s1 u2 s2 : Int) : Prop where
  res : W.heap[r]? = some (.cells #[.int .i64 0, .int .i64 0, .int .i64 0] 33 (0, 0))
  prt : W.heap[p]? = some (.cells part 60 (0, 0))
  one : W.heap[g8]? = some (.cells #[.int .i64 u1, .int .i64 s1] 47 (0, 0))
  two : W.heap[g9]? = some (.cells #[.int .i64 u2, .int .i64 s2] 47 (0, 0))
  low : Below w.heap.size w W
  lo : w.heap.size ≤ r
theorem Cpd.below {w W W' : World} {r p g8 g9 : Nat} {part : Array Value} {u1 s1 u2 s2 : Int} (h : Cpd w W r p g8 g9 part u1 s1 u2 s2) (hb : Below W.heap.size W W') : Cpd w W' r p g8 g9 part u1 s1 u2 s2 :=
  ⟨(hb.block _ (lt_blk h.res)).trans h.res, (hb.block _ (lt_blk h.prt)).trans h.prt, (hb.block _ (lt_blk h.one)).trans h.one, (hb.block _ (lt_blk h.two)).trans h.two, bchS h.low hb, h.lo⟩
theorem Cpd.fin {w W : World} {r p g8 g9 : Nat} {part : Array Value} {u1 s1 u2 s2 : Int} (h : Cpd w W r p g8 g9 part u1 s1 u2 s2) (x y z : Value) : Below w.heap.size w (((W.setCell ⟨r, 0, none⟩ x).setCell ⟨r, 1, none⟩ y).setCell ⟨r, 2, none⟩ z) :=
  ((h.low.setCell (p := ⟨r, 0, none⟩) h.lo x).setCell (p := ⟨r, 1, none⟩) h.lo y).setCell (p := ⟨r, 2, none⟩) h.lo z
def rtC : Code → Code
  | .seq _ b => b
  | c => c
def hdC : Code → Code
  | .seq a _ => a
  | c => c
end Go.Proofs.YtiddnjjaidiohaaGreatDoor.L
namespace Go.Proofs.YtiddnjjaidiohaaGreatDoor.L
open Go.RowKit
set_option linter.unusedVariables false
/-- The sort of a set, as the document tells it. -/
def stD (T : List Pt) (ks : List Int) : Int := if ks.length = 0 then 6 else match alO (fun j => (pt T j).kind) (pt T (ks.getD 0 0).toNat).kind ks with
  | some _ => 0
  | none => if (pt T (ks.getD 0 0).toNat).kind = 11 then 4 else 5
set_option maxHeartbeats 16000000 in
set_option maxRecDepth 100000 in
theorem rset_any (a : Option Addr) (T : List Pt) (cap t : Nat) (w : World) (hT : PL w a T) (ht : t < T.length) (hL : T.length ≤ 1000) (hin : ∀ x, x ∈ (pt T t).kids → 0 ≤ x ∧ x < (t : Int)) (hl : (pt T t).kids.length ≤ 1000) :
    Calls Tryz.prog 36 #[.agg #[.slice a T.length cap], .int .i64 (t : Int)] w fun e w' => e = .returned (.tuple #[.int .i64 (stD T (pt T t).kids), fa (alO (fun j => (pt T j).kind) (pt T ((pt T t).kids.getD 0 0).toNat).kind (pt T t).kids)]) ∧ Below w.heap.size w w' := by
  rcases hT with h0 | ⟨b2, o2, rfl, hb2, hc2⟩
  · omega
  obtain ⟨ka, kc, q0, q1, q2, q3, rk⟩ := hc2 t ht
  have HC2 := hid (fun j hj => let ⟨ka, kc, q0, _⟩ := hc2 j hj; q0)
  obtain ⟨kd, hkd⟩ : ∃ kd, kd = (pt T t).kind := ⟨_, rfl⟩
  obtain ⟨tx, htx⟩ : ∃ tx, tx = (pt T t).text := ⟨_, rfl⟩
  obtain ⟨nu, hnu⟩ : ∃ nu, nu = (pt T t).num := ⟨_, rfl⟩
  obtain ⟨ks, hks⟩ : ∃ ks, ks = (pt T t).kids := ⟨_, rfl⟩
  rw [← hkd] at q0
  rw [← htx] at q1
  rw [← hnu] at q2
  rw [← hks] at q3 rk hl hin ⊢
  obtain ⟨m, hm⟩ : ∃ m, m = ks.length := ⟨_, rfl⟩
  rw [← hm] at q3 hl
  obtain ⟨L, hLe⟩ : ∃ L, L = T.length := ⟨_, rfl⟩
  rw [← hLe] at hL ht HC2 ⊢
  have HL := hid hLe
  have HM := hid hm
  have HIN := hid hin
  have RK := hid rk
  have HB2L := hid hb2
  have HB0 := hid (belowA w (.cells #[.slice (some ⟨b2, o2, none⟩) L cap] 26))
  have HX0 := hid (heap_alloc_new w (.cells #[.slice (some ⟨b2, o2, none⟩) L cap] 26))
  have HB1 := hid (bchS HB0.out (belowA (w.alloc (.cells #[.slice (some ⟨b2, o2, none⟩) L cap] 26)) (.cells #[.int .i64 0, .int .i64 0, .int .i64 0] 33)))
  have HX1 := hid (heap_alloc_new (w.alloc (.cells #[.slice (some ⟨b2, o2, none⟩) L cap] 26)) (.cells #[.int .i64 0, .int .i64 0, .int .i64 0] 33))
  have HS1 := hid (show (w.alloc (.cells #[.slice (some ⟨b2, o2, none⟩) L cap] 26)).heap.size = w.heap.size + 1 by simp)
  rw [HS1.out] at HX1
  have HXT := hid ((belowA (w.alloc (.cells #[.slice (some ⟨b2, o2, none⟩) L cap] 26)) (.cells #[.int .i64 0, .int .i64 0, .int .i64 0] 33)).block _ (lt_blk HX0.out) |>.trans HX0.out)
  have g5 : (t : Int) < (L : Int) := by omega
  have g6 : (0 : Int) ≤ (t : Int) := by omega
  have ht4 : ((t : Int) * 4).toNat = t * 4 := by omega
  clear hm hLe hin rk hc2 hkd htx hnu hks
  go_enter Tryz.func36, Tryz.ntmps36
  go_upto_region 1 with (fail)
  generalize (w.alloc (.cells #[.slice (some ⟨b2, o2, none⟩) L cap] 26)).alloc (.cells #[.int .i64 0, .int .i64 0, .int .i64 0] 33) = X at *
  have x0 := cell_of_one HXT.out
  replace q0 := (HB1.out.cell (p := ⟨b2, o2 + t * 4, none⟩) hb2).trans q0
  replace q1 := (HB1.out.cell (p := ⟨b2, o2 + t * 4 + 1, none⟩) hb2).trans q1
  replace q2 := (HB1.out.cell (p := ⟨b2, o2 + t * 4 + 2, none⟩) hb2).trans q2
  replace q3 := (HB1.out.cell (p := ⟨b2, o2 + t * 4 + 3, none⟩) hb2).trans q3
  have HBP := hid (belowA X (.cells #[.int .i64 kd, .string tx, .int .i64 nu, .slice ka m kc] 60))
  have HXP := hid (heap_alloc_new X (.cells #[.int .i64 kd, .string tx, .int .i64 nu, .slice ka m kc] 60))
  go_upto_region 2 with (fail)
  clear q0 q1 q2 q3 x0
  generalize X.alloc (.cells #[.int .i64 kd, .string tx, .int .i64 nu, .slice ka m kc] 60) = Y at *
  have HBY := hid (bchS HB1.out HBP.out)
  have HTY := hid ((HBP.out.block _ (lt_blk HXT.out)).trans HXT.out)
  have HRY := hid ((HBP.out.block _ (lt_blk HX1.out)).trans HX1.out)
  have HKY := hid (fun j hj => (HBY.out.cell (p := ⟨b2, o2 + j * 4, none⟩) HB2L.out).trans (HC2.out j hj))
  have HIY := hid (RK.out.low HBY.out (Nat.le_refl _))
  have x0 := cell_of_one HTY.out
  have ⟨z0, z1, z2, z3⟩ := cells4 HXP.out
  have ⟨⟨r0, r1, r2⟩, ⟨f0, f1, f2⟩⟩ := rc3 HRY.out
  generalize X.heap.size = pb at *
  by_cases hm0 : m = 0
  · subst hm0
    have HE := hid (show ks = [] from List.length_eq_zero_iff.1 HM.out.symm)
    go_wp2_with fail
    (try simp only [Exit.inBlock, Exit.then])
    refine bodyPost_ret (res_xf rfl _ _ (w.heap.size + 1) _ _ _ _ rfl rfl (heap_set3 HRY.out _ _ _)) rfl ⟨?_, ?_⟩
    · rw [HE.out]
      rfl
    · exact ((HBY.out.setCell (p := ⟨w.heap.size + 1, 0, none⟩) (Nat.le_succ _) _).setCell (p := ⟨w.heap.size + 1, 1, none⟩) (Nat.le_succ _) _).setCell (p := ⟨w.heap.size + 1, 2, none⟩) (Nat.le_succ _) _
  · have hm1 : (m : Int) ≠ 0 := by omega
    have hm2 : ((m : Int) == 0) = false := by simpa using hm1
    rcases HIY.out with h0 | ⟨b1, o1, e0, hb1, hc1⟩
    · have := HM.out; omega
    subst e0
    have HC1 := hid hc1
    have hx : ∀ k, k < m → ∃ x : Nat, ks.getD k 0 = x ∧ x < L := fun k hk => by
      have hkn : k < ks.length := by rw [← HM.out]; exact hk
      have hmem : ks.getD k 0 ∈ ks := by rw [List.getD_eq_getElem?_getD, List.getElem?_eq_getElem hkn]; exact List.getElem_mem hkn
      have := HIN.out _ hmem
      exact ⟨(ks.getD k 0).toNat, by omega, by omega⟩
    have HXX := hid hx
    obtain ⟨x, hx1, hx2⟩ := hx 0 (by omega)
    have p0 := hc1 0 (by rw [← HM.out]; omega)
    rw [hx1] at p0
    have t0 := HKY.out x hx2
    obtain ⟨k0, hk0⟩ : ∃ k0, k0 = (pt T x).kind := ⟨_, rfl⟩
    rw [← hk0] at t0
    have HK0 := hid (show (pt T (ks.getD 0 0).toNat).kind = k0 by rw [hx1, hk0]; rfl)
    have g1 : (x : Int) < (L : Int) := by omega
    have g2 : (0 : Int) ≤ (x : Int) := by omega
    have g3 : ((x : Int) * 4).toNat = x * 4 := by omega
    have g4 : (0 : Int) < (m : Int) := by omega
    have g4n : 0 < m := by omega
    rw [Nat.add_zero] at p0
    clear hx hc1 hk0 hx1
    go_upto_region 4 with (fail)
    go_quiet (fail)
    have HQ := hid (show Below Y.heap.size Y (Y.drewN nq) from below_drewN (Below.refl _ _) nq)
    generalize Y.drewN nq = Z at *
    clear x0 z0 z1 z2 z3 r0 r1 r2 f0 f1 f2 p0 t0 g1 g2 g3
    go_wp2_with fail
    go_loopw [8] (fun i wr => ∃ k : Nat, k ≤ m ∧ i = .int .i64 (k : Int) ∧ Hid (Below Y.heap.size Y wr) ∧ Hid (alO (fun j => (pt T j).kind) k0 (ks.drop k) = alO (fun j => (pt T j).kind) k0 ks)) (fun i _ => m - (intOf i).toNat)
    case atStart => exact ⟨0, Nat.zero_le _, rfl, HQ, hid rfl⟩
    case round =>
      obtain ⟨k, hk, rfl, HB, HA⟩ := hrel
      have HZT := hid ((HB.out.block _ (lt_blk HTY.out)).trans HTY.out)
      have HZP := hid ((HB.out.block _ (lt_blk HXP.out)).trans HXP.out)
      have HZR := hid ((HB.out.block _ (lt_blk HRY.out)).trans HRY.out)
      have HBB := hid (bchS HBY.out HB.out)
      have x0 := cell_of_one HZT.out
      have ⟨z0, z1, z2, z3⟩ := cells4 HZP.out
      have ⟨⟨r0, r1, r2⟩, ⟨f0, f1, f2⟩⟩ := rc3 HZR.out
      by_cases hkm : k < m
      · obtain ⟨y, hy1, hy2⟩ := HXX.out k hkm
        have hkn : k < ks.length := by rw [← HM.out]; exact hkm
        have p0 := (HB.out.cell (p := ⟨b1, o1 + k, none⟩) hb1).trans (HC1.out k hkn)
        rw [hy1] at p0
        have t0 := (HB.out.cell (p := ⟨b2, o2 + y * 4, none⟩) (Nat.lt_of_lt_of_le HB2L.out HBY.out.size)).trans (HKY.out y hy2)
        obtain ⟨ky, hky⟩ : ∃ ky, ky = (pt T y).kind := ⟨_, rfl⟩
        rw [← hky] at t0
        have HD := hid (show ks.drop k = (y : Int) :: ks.drop (k + 1) by
          rw [List.drop_eq_getElem_cons hkn]
          have hz2 := hy1
          rw [List.getD_eq_getElem?_getD, List.getElem?_eq_getElem hkn] at hz2
          rw [← hz2]
          rfl)
        have HAS := hid (show alO (fun j => (pt T j).kind) k0 (ks.drop k) = if ky = k0 then alO (fun j => (pt T j).kind) k0 (ks.drop (k + 1)) else some (146, (y : Int)) by rw [HD.out, hky]; rfl)
        have HK1 := hid (show k + 1 ≤ m by omega)
        have g1 : (y : Int) < (L : Int) := by omega
        have g2 : (0 : Int) ≤ (y : Int) := by omega
        have g3 : ((y : Int) * 4).toNat = y * 4 := by omega
        have g7 : (k : Int) < (m : Int) := by omega
        have g8 : (0 : Int) ≤ (k : Int) := by omega
        clear hky hy1 hkn
        by_cases hkk : ky = k0
        · subst hkk
          have HA2 := hid (show alO (fun j => (pt T j).kind) ky (ks.drop (k + 1)) = alO (fun j => (pt T j).kind) ky ks by rw [← HA.out, HAS.out, if_pos rfl])
          go_upto_region 8 with (fail)
          go_quiet (fail)
          go_wp2_with fail
          refine ⟨⟨k + 1, HK1.out, by go_num, hid (below_drewN HB.out _), HA2⟩, ?_⟩
          have h3 := HK1.out
          simp [intOf]
          omega
        · have hne : (ky != k0) = true := by simpa using hkk
          have HA2 := hid (show alO (fun j => (pt T j).kind) k0 ks = some (146, (y : Int)) by rw [← HA.out, HAS.out, if_neg hkk])
          clear hkk
          go_upto_region 8 with (fail)
          go_quiet (fail)
          have HQ2 := hid (show Below wr.heap.size wr (wr.drewN nq) from below_drewN (Below.refl _ _) nq)
          generalize wr.drewN nq = U at *
          have HUP := hid ((HQ2.out.block _ (lt_blk HZP.out)).trans HZP.out)
          have HUR := hid ((HQ2.out.block _ (lt_blk HZR.out)).trans HZR.out)
          have p5 := (HQ2.out.cell (p := ⟨b1, o1 + k, none⟩) (Nat.lt_of_lt_of_le hb1 HB.out.size)).trans p0
          have HBU := hid (bchS HBB.out HQ2.out)
          clear x0 z0 z1 z2 z3 r0 r1 r2 f0 f1 f2 p0 t0 g1 g2 g3
          have ⟨z0, z1, z2, z3⟩ := cells4 HUP.out
          have ⟨⟨r0, r1, r2⟩, ⟨f0, f1, f2⟩⟩ := rc3 HUR.out
          go_upto_region 9 with (fail)
          go_region
          go_wp2_with fail
          (try simp only [Exit.inBlock, Exit.then])
          have hl0 : ¬ ks.length = 0 := by rw [← HM.out]; omega
          refine bodyPost_ret (res_xf rfl _ _ (w.heap.size + 1) _ _ _ _ rfl rfl (show (World.drew _).heap[w.heap.size + 1]? = _ from heap_set3 HUR.out _ _ _)) rfl ⟨?_, ?_⟩
          · unfold stD
            rw [HK0.out, HA2.out, if_neg hl0]
            rfl
          · exact (((HBU.out.setCell (p := ⟨w.heap.size + 1, 0, none⟩) (Nat.le_succ _) _).setCell (p := ⟨w.heap.size + 1, 1, none⟩) (Nat.le_succ _) _).setCell (p := ⟨w.heap.size + 1, 2, none⟩) (Nat.le_succ _) _).drew
      · obtain rfl : k = m := by omega
        have HAN := hid (show alO (fun j => (pt T j).kind) k0 ks = none by rw [← HA.out, HM.out, List.drop_length]; rfl)
        have hl0 : ¬ ks.length = 0 := by rw [← HM.out]; omega
        by_cases h11 : k0 = 11
        · subst h11
          go_wp2_with fail
          (try simp only [Exit.inBlock, Exit.then])
          refine bodyPost_ret (res_xf rfl _ _ (w.heap.size + 1) _ _ _ _ rfl rfl (heap_set3 HZR.out _ _ _)) rfl ⟨?_, ?_⟩
          · unfold stD
            rw [HK0.out, HAN.out, if_neg hl0]
            rfl
          · exact ((HBB.out.setCell (p := ⟨w.heap.size + 1, 0, none⟩) (Nat.le_succ _) _).setCell (p := ⟨w.heap.size + 1, 1, none⟩) (Nat.le_succ _) _).setCell (p := ⟨w.heap.size + 1, 2, none⟩) (Nat.le_succ _) _
        · have h12 : (k0 == 11) = false := by simpa using h11
          have HH := hid h11
          clear h11
          go_wp2_with fail
          (try simp only [Exit.inBlock, Exit.then])
          refine bodyPost_ret (res_xf rfl _ _ (w.heap.size + 1) _ _ _ _ rfl rfl (heap_set3 HZR.out _ _ _)) rfl ⟨?_, ?_⟩
          · unfold stD
            rw [HK0.out, HAN.out, if_neg hl0]
            simp only [if_neg HH.out]
            rfl
          · exact ((HBB.out.setCell (p := ⟨w.heap.size + 1, 0, none⟩) (Nat.le_succ _) _).setCell (p := ⟨w.heap.size + 1, 1, none⟩) (Nat.le_succ _) _).setCell (p := ⟨w.heap.size + 1, 2, none⟩) (Nat.le_succ _) _
end Go.Proofs.YtiddnjjaidiohaaGreatDoor.L
