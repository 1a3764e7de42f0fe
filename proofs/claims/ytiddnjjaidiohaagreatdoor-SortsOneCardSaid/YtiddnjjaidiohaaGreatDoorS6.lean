import Derived.Test.YtiddnjjaidiohaaGreatDoorS5
namespace Go.Proofs.YtiddnjjaidiohaaGreatDoor.L
open Go.RowKit
set_option linter.unusedVariables false
set_option maxHeartbeats 8000000 in
set_option maxRecDepth 100000 in
theorem so_13 (pa : Option Addr) (pn pc gt n : Nat) (so si : Nat → Int) (tx : ByteArray) (nu : Int) (ka : Option Addr) (ks : List Int) (kc : Nat) (w : World) (hm : ks.length ≠ 0) (hl : ks.length ≤ 1000) (hn : n ≤ 1000) (hy : TyR w gt n so si) (hk : RdI w ka ks) (hin : ∀ x, x ∈ ks → 0 ≤ x ∧ x < n) :
    Calls Tryz.prog 61 #[.agg #[.slice pa pn pc, .slice (some ⟨gt, 0, none⟩) n n], .agg #[.int .i64 13, .string tx, .int .i64 nu, .slice ka ks.length kc]] w fun e w' => e = .returned (.int .i64 (setO (so (ks.getD 0 0).toNat))) ∧ Below w.heap.size w w' := by
  obtain ⟨m, hmm⟩ : ∃ m, m = ks.length := ⟨_, rfl⟩
  have HM := hid hmm
  have HY := hid hy
  have HK := hid hk
  have HIN := hid hin
  have HSE := hid setof_any
  rw [← hmm] at hm hl ⊢
  have hm0 : ((m : Int) == 0) = false := by simp; omega
  clear hy hk hin hmm
  have HB0 := hid (belowA w (.cells #[.slice pa pn pc, .slice (some ⟨gt, 0, none⟩) n n] 87))
  have HX0 := hid (heap_alloc_new w (.cells #[.slice pa pn pc, .slice (some ⟨gt, 0, none⟩) n n] 87))
  go_enter Tryz.func61, Tryz.ntmps61
  go_upto_region 1 with (fail)
  generalize hY : w.alloc (.cells #[.slice pa pn pc, .slice (some ⟨gt, 0, none⟩) n n] 87) = Y at *
  have HS0 := hid (show Y.heap.size = w.heap.size + 1 by rw [← hY]; simp)
  clear hY
  have HB1 := hid (belowA Y (.cells #[.int .i64 13, .string tx, .int .i64 nu, .slice ka m kc] 60))
  have HX1 := hid (heap_alloc_new Y (.cells #[.int .i64 13, .string tx, .int .i64 nu, .slice ka m kc] 60))
  have HXW := hid ((HB1.out.block _ (lt_blk HX0.out)).trans HX0.out)
  generalize Y.alloc (.cells #[.int .i64 13, .string tx, .int .i64 nu, .slice ka m kc] 60) = V at *
  rw [HS0.out] at HX1
  have HB := hid (show Below w.heap.size w V from bchS HB0.out HB1.out)
  generalize hpb : w.heap.size + 1 = pb at *
  clear hpb
  have ⟨x0, x1, x2, x3⟩ := cells4 HX1.out
  have ⟨y0, y1⟩ := cellsW HXW.out
  rcases HK.out.low HB.out (Nat.le_refl _) with h0 | ⟨b1, o1, e0, hb1, hc1⟩
  · have := HM.out; omega
  subst e0
  have h0n : 0 < ks.length := by rw [← HM.out]; omega
  have p0 := hc1 0 h0n
  rw [Nat.add_zero] at p0
  have hmem : ks.getD 0 0 ∈ ks := by rw [List.getD_eq_getElem?_getD, List.getElem?_eq_getElem h0n]; exact List.getElem_mem _
  have hx := HIN.out _ hmem
  obtain ⟨x, hxe⟩ : ∃ x : Nat, ks.getD 0 0 = x := ⟨(ks.getD 0 0).toNat, by omega⟩
  have HXE := hid hxe
  rw [hxe] at p0 hx
  have t1 := ((HY.out.low HB.out).2 x (by omega)).1
  have g1 : (0 : Int) < (m : Int) := by omega
  have g3 : (x : Int) < (n : Int) := by omega
  have g4 : (0 : Int) ≤ (x : Int) := by omega
  have hx2 : ((x : Int) * 2).toNat = x * 2 := by omega
  obtain ⟨s, hs⟩ : ∃ s, s = so x := ⟨_, rfl⟩
  rw [← hs] at t1
  have HRES := hid (show setO (so (ks.getD 0 0).toNat) = setO s by rw [hxe, Int.toNat_natCast, hs])
  clear hc1 hmem hx hxe hs hb1 h0n
  go_upto_region 17 with (fail)
  go_quiet ((go_at_call 83; exact Calls.quiet_of_same (HSE.out _ _)))
  go_wp2_with fail
  go_ret
  refine ⟨?_, below_drewN HB.out _⟩
  rw [HRES.out]
  rfl
end Go.Proofs.YtiddnjjaidiohaaGreatDoor.L
