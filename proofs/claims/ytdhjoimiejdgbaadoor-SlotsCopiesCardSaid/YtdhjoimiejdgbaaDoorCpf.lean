import Derived.Test.YtdhjoimiejdgbaaDoorRen
namespace Go.Proofs.YtdhjoimiejdgbaaDoor.L
open Go.RowKit Bs Go.Maps
set_option linter.unusedVariables false
theorem alloc_old (w : World) (o : Obj) {r : Nat} (h : r < w.heap.size) : (w.alloc o).heap[r]? = w.heap[r]? := ((Below.refl w.heap.size w).alloc (Nat.le_refl _) o).block r h
theorem run_neq_fn (w : World) (f : Fn) (a b : Array Value) : (binOp .neq 70 (.func f a b) .nilFunc).run Tryd.prog w = .ok (.bool true) w := by
  have h : ∀ d, (Op.equalIn (d + 1) 70 (.func f a b) .nilFunc).run Tryd.prog w = .ok false w := fun d => by
    simp [Op.equalIn, run_underlying Tryd.underlying70]
  simp only [binOp]
  simp [show Op.equal 70 (.func f a b) .nilFunc = Op.equalIn (9999 + 1) 70 (.func f a b) .nilFunc from rfl, h 9999]
set_option maxHeartbeats 8000000 in
set_option maxRecDepth 100000 in
theorem copy_fn (p m : Nat) (l : List Rw) (F : List Nat) (w : World) (h : Tb w p m l F) (Cb : Nat) (hcb : Boxed w Cb 84 (.slice none 0 0)) : Calls Tryd.prog 45 #[.pointer (some ⟨p, 0, none⟩), .func (.func 46) #[] #[.pointer (some ⟨Cb, 0, none⟩)]] w fun e w' => ∃ p' F' base cv, e = .returned (.pointer (some ⟨p', 0, none⟩)) ∧ Tb w' p' m (rnK l l.length) F' ∧ (∀ k ∈ F', w.heap.size ≤ k) ∧ Cl w' base Cb cv (clK l l.length) ∧ w.heap.size ≤ base ∧ Bx [Cb] w.heap.size w w' := by
  obtain ⟨mb, rs, ks, D, ws, h1, h2, hF⟩ := h
  clear hF
  have hmf : ∀ (fn : Fn) (first cap : Array Value) (w : World), (Instr.makeFunc fn first cap).run Tryd.prog w = .ok (.func fn first cap) w := fun _ _ _ _ => rfl
  have hll : l.length ≤ 65536 := Nat.le_trans h2.ok.le h2.ok.mm
  have hwl : ws.length ≤ 65536 := Nat.le_trans h2.wl (by decide)
  have TM := hid (fun W (hb : Below w.heap.size w W) => h1.frame (fun k hk => hb.block k (h1.lt k hk)))
  have CM := hid (fun W (hb : Below w.heap.size w W) => cloneM mb 65536 D W (TM.out W hb).hm)
  have CR := hid (fun W (hb : Below w.heap.size w W) => cloneR rs l W (TM.out W hb).hr hll)
  have CK := hid (fun W (hb : Below w.heap.size w W) => cloneK ks ws W (TM.out W hb).hk hwl)
  have CC := hid (fun W (hb : Below w.heap.size w W) => And.intro (TM.out W hb).c0 (And.intro (TM.out W hb).c1 (And.intro (TM.out W hb).c2 (TM.out W hb).c3)))
  have HC := hid h2
  obtain ⟨ra, rc, hrs⟩ := own_len h1.hr
  obtain ⟨ka, kc, hks⟩ := own_len h1.hk
  subst hrs hks
  have HCB := hid hcb
  have HCL := hid hcb.lt
  clear h1 h2 TM hll hwl hcb
  have B0 := hid ((Below.refl w.heap.size w).alloc (Nat.le_refl _) (.cells #[.pointer none] 30))
  have Z0 : w.heap.size < (w.alloc (.cells #[.pointer none] 30)).heap.size := by simp
  obtain ⟨t0, t1, t2, t3⟩ := CC.out _ B0.out
  have bc : (w.alloc (.cells #[.pointer none] 30)).heap[w.heap.size]? = some (.cells #[.pointer none] 30) := heap_alloc_new w _
  have HBC := hid bc
  clear bc
  generalize hQ : (fun e w' => ∃ p' F' base cv, e = Ending.returned (.pointer (some ⟨p', 0, none⟩)) ∧ Tb w' p' m (rnK l l.length) F' ∧ (∀ k ∈ F', w.heap.size ≤ k) ∧ Cl w' base Cb cv (clK l l.length) ∧ w.heap.size ≤ base ∧ Bx [Cb] w.heap.size w w') = Q
  have HQ := hid hQ
  clear hQ
  generalize hln : l.length = ln at *
  generalize hwn : ws.length = wn at *
  have HLN := hid hln
  have HWN := hid hwn
  clear hln hwn
  go_enter_defers Tryd.func45, Tryd.ntmps45
  go_wp2_with fail
  generalize w.alloc (.cells #[.pointer none] 30) = W at *
  go_region_held3 (fun X => X.cell? ⟨p, 0, none⟩ = some (.int .i64 (m : Int)) ∧ X.cell? ⟨p, 1, none⟩ = some (.map (some mb)) ∧ X.cell? ⟨p, 2, none⟩ = some (.slice ra ln rc) ∧ X.cell? ⟨p, 3, none⟩ = some (.slice ka wn kc))
    (first | exact ⟨t0, t1, t2, t3⟩ | exact T1.out | exact T2.out | exact T3.out | exact CC.out _ (B3.out.alloc B3.out.size _) | exact CC.out _ ((below_set1 B3.out _ _ _ (Nat.le_refl _)).alloc (below_set1 B3.out _ _ _ (Nat.le_refl _)).size _) | go_keep)
    (first
      | (go_at_call 79; refine (CM.out _ B0.out.drew).mono ?_; rintro e w1 ⟨rfl, hm1, hb1⟩; have X1 := hid ((hb1.block w.heap.size Z0).trans HBC.out); have Z1 : w.heap.size < w1.heap.size := Nat.lt_of_lt_of_le Z0 hb1.size; have B1 := hid (B0.out.trans ((belowU hb1).mono B0.out.size)); have T1 := hid (CC.out _ B1.out); have M1 := hid hm1; have D1 := hid hb1; clear hm1 hb1)
      | (go_at_call 80; refine (CR.out _ B1.out).mono ?_; rintro e w2 ⟨v2, rfl, hr2, hb2⟩; obtain ⟨a2, c2, hv2⟩ := own_len hr2; subst hv2; have X2 := hid ((hb2.block w.heap.size Z1).trans X1.out); have Z2 : w.heap.size < w2.heap.size := Nat.lt_of_lt_of_le Z1 hb2.size; have B2 := hid (B1.out.trans (hb2.mono B1.out.size)); have T2 := hid (CC.out _ B2.out); have R2 := hid hr2; have D2 := hid hb2; clear hr2 hb2)
      | (go_at_call 81; refine (CK.out _ B2.out).mono ?_; rintro e w3 ⟨v3, rfl, hk3, hb3⟩; obtain ⟨a3, c3, hv3⟩ := own_len hk3; subst hv3; have X3 := hid ((hb3.block w.heap.size Z2).trans X2.out); have Z3 : w.heap.size < w3.heap.size := Nat.lt_of_lt_of_le Z2 hb3.size; have s5 : w3.cell? ⟨w.heap.size, 0, none⟩ = some (.pointer none) := (by rw [cell_of_row w3 w.heap.size 0 _ _ _ X3.out]; rfl); have s6 : w3.frozen? ⟨w.heap.size, 0, none⟩ = false := frozen_of_row w3 w.heap.size 0 _ _ X3.out; have B3 := hid (B2.out.trans (hb3.mono B2.out.size)); have T3 := hid (CC.out _ B3.out); have K3 := hid hk3; have D3 := hid hb3; clear hk3 hb3))
  have PB : Hid (∀ W2 : World, (∀ k, k ≠ w.heap.size → W2.heap[k]? = ((w3.setCell ⟨w.heap.size, 0, none⟩ (.pointer (some ⟨w3.heap.size, 0, none⟩))).alloc (Obj.cells #[.int .i64 (m : Int), .map (some W.heap.size), .slice a2 ln c2, .slice a3 wn c3] 122)).heap[k]?) → Tm W2 w3.heap.size m W.heap.size (.slice a2 ln c2) (.slice a3 wn c3) D l ws ∧ ∀ k ∈ fp w3.heap.size W.heap.size (.slice a2 ln c2) (.slice a3 wn c3), w.heap.size < k) := hid (fun W2 hW => by
    have e3 : ∀ k, k ≠ w.heap.size → k < w3.heap.size → W2.heap[k]? = w3.heap[k]? := fun k hk hlt => by
      rw [hW k hk, alloc_old _ _ (by simpa using hlt), set_other _ _ hk]
    have zM := owns_lt M1.out
    have d1 : W.heap.size < w1.heap.size := zM
    have d2 := D2.out.size
    have d3 := D3.out.size
    have eM : W2.heap[W.heap.size]? = w1.heap[W.heap.size]? := by
      rw [e3 _ (by omega) (by omega), D3.out.block _ (by omega), D2.out.block _ d1]
    have eR : ∀ g, (Value.slice a2 ln c2).ownBlock = some g → w1.heap.size ≤ g ∧ W2.heap[g]? = w2.heap[g]? := fun g hg => by
      have := R2.out.lt g hg
      exact ⟨this.1, by rw [e3 g (by omega) (by omega), D3.out.block g this.2]⟩
    have eK : ∀ g, (Value.slice a3 wn c3).ownBlock = some g → w2.heap.size ≤ g ∧ W2.heap[g]? = w3.heap[g]? := fun g hg => by
      have := K3.out.lt g hg
      exact ⟨this.1, e3 g (by omega) this.2⟩
    refine ⟨⟨?_, owns_stays M1.out eM, ?_, ?_⟩, fun k hk => ?_⟩
    · rw [hW _ (by omega)]
      have := heap_alloc_new (w3.setCell ⟨w.heap.size, 0, none⟩ (.pointer (some ⟨w3.heap.size, 0, none⟩))) (Obj.cells #[.int .i64 (m : Int), .map (some W.heap.size), .slice a2 ln c2, .slice a3 wn c3] 122)
      simpa using this
    · unfold OwnR
      rw [HLN.out]
      exact own_stays (own_mono1 R2.out (Nat.zero_le _)) (fun g hg => (eR g hg).2)
    · unfold OwnK
      rw [HWN.out]
      exact own_stays (own_mono1 K3.out (Nat.zero_le _)) (fun g hg => (eK g hg).2)
    · unfold fp at hk
      simp at hk
      rcases hk with rfl | rfl | hk | hk
      · omega
      · omega
      · have := (eR k hk).1; omega
      · have := (eK k hk).1; omega)
  have TX := hid (PB.out ((w3.setCell ⟨w.heap.size, 0, none⟩ (.pointer (some ⟨w3.heap.size, 0, none⟩))).alloc (Obj.cells #[.int .i64 (m : Int), .map (some W.heap.size), .slice a2 ln c2, .slice a3 wn c3] 122)) (fun _ _ => rfl))
  clear PB
  have BX := hid ((below_set1 B3.out w.heap.size 0 (.pointer (some ⟨w3.heap.size, 0, none⟩)) (Nat.le_refl _)).alloc (below_set1 B3.out _ _ _ (Nat.le_refl _)).size (Obj.cells #[.int .i64 (m : Int), .map (some W.heap.size), .slice a2 ln c2, .slice a3 wn c3] 122))
  have xb : ((w3.setCell ⟨w.heap.size, 0, none⟩ (.pointer (some ⟨w3.heap.size, 0, none⟩))).alloc (Obj.cells #[.int .i64 (m : Int), .map (some W.heap.size), .slice a2 ln c2, .slice a3 wn c3] 122)).heap[w.heap.size]? = some (.cells #[.pointer (some ⟨w3.heap.size, 0, none⟩)] 30) := by
    rw [alloc_old _ _ (by simpa using Z3), set_block _ X3.out]
    rfl
  have BCB := hid (show Boxed ((w3.setCell ⟨w.heap.size, 0, none⟩ (.pointer (some ⟨w3.heap.size, 0, none⟩))).alloc (Obj.cells #[.int .i64 (m : Int), .map (some W.heap.size), .slice a2 ln c2, .slice a3 wn c3] 122)) Cb 84 (.slice none 0 0) from (BX.out.block Cb HCL.out).trans HCB.out)
  have hnq := run_neq_fn
  have ZX : w3.heap.size < ((w3.setCell ⟨w.heap.size, 0, none⟩ (.pointer (some ⟨w3.heap.size, 0, none⟩))).alloc (Obj.cells #[.int .i64 (m : Int), .map (some W.heap.size), .slice a2 ln c2, .slice a3 wn c3] 122)).heap.size := by simp
  clear CM CR CK CC T1 T2 T3 t0 t1 t2 t3 s5 s6 M1 D1 R2 D2 K3 D3 X1 X2 X3
  generalize (w3.setCell ⟨w.heap.size, 0, none⟩ (.pointer (some ⟨w3.heap.size, 0, none⟩))).alloc (Obj.cells #[.int .i64 (m : Int), .map (some W.heap.size), .slice a2 ln c2, .slice a3 wn c3] 122) = X at *
  have xc : X.cell? ⟨w.heap.size, 0, none⟩ = some (.pointer (some ⟨w3.heap.size, 0, none⟩)) := (by rw [cell_of_row X w.heap.size 0 _ _ _ xb]; rfl)
  have xf : X.frozen? ⟨w.heap.size, 0, none⟩ = false := frozen_of_row X w.heap.size 0 _ _ xb
  have XB := hid xb
  have RW := hid (renew_any Cb w3.heap.size m W.heap.size (.slice a2 ln c2) (.slice a3 wn c3) D l ws X TX.out.1 HC.out BCB.out)
  clear xb
  go_wp2_with (go_at_call 82; refine RW.out.mono ?_; rintro e w5 ⟨rfl, hT5, ⟨cv, hC5⟩, hB5⟩; have T5 := hid hT5; have C5 := hid hC5; have B5 := hid hB5; have X5 := hid ((hB5.block w.heap.size (show w.heap.size < X.heap.size by omega) (fun c => by
    rcases List.mem_cons.1 c with e | e
    · have := HCL.out; omega
    · have := TX.out.2 w.heap.size (by unfold fp; simp at e; simp [e])
      omega)).trans XB.out); clear hT5 hC5 hB5; have xc5 : w5.cell? ⟨w.heap.size, 0, none⟩ = some (.pointer (some ⟨w3.heap.size, 0, none⟩)) := (by rw [cell_of_row w5 w.heap.size 0 _ _ _ X5.out]; rfl); have xf5 : w5.frozen? ⟨w.heap.size, 0, none⟩ = false := frozen_of_row w5 w.heap.size 0 _ _ X5.out)
  refine leaves_cons (f := 78) (args := #[.pointer (some ⟨w.heap.size, 0, none⟩)]) (by simp) (by simp [go_sem]) ?_
  refine (catch_idle ⟨w.heap.size, 0, none⟩ _).mono ?_
  rintro e u' w'' ⟨rfl, rfl, rfl⟩
  have T6 : Tm (w5.setCell ⟨w.heap.size, 0, none⟩ (.pointer (some ⟨w3.heap.size, 0, none⟩))) w3.heap.size m W.heap.size (.slice a2 ln c2) (.slice a3 wn c3) D (rnK l l.length) ws := T5.out.frame (fun k hk => set_other _ _ (show k ≠ w.heap.size from fun e => by have := TX.out.2 k hk; omega))
  have C6 : Cl (w5.setCell ⟨w.heap.size, 0, none⟩ (.pointer (some ⟨w3.heap.size, 0, none⟩))) X.heap.size Cb cv (clK l l.length) := ⟨(set_other _ _ (show Cb ≠ w.heap.size by have := HCL.out; omega)).trans C5.out.bx, own_stays C5.out.ow (fun g hg => set_other _ _ (show g ≠ w.heap.size from fun e => by have := (C5.out.ow.lt g hg).1; omega))⟩
  have B6 : Bx [Cb] w.heap.size w (w5.setCell ⟨w.heap.size, 0, none⟩ (.pointer (some ⟨w3.heap.size, 0, none⟩))) := ((Bx.of BX.out).trans (B5.out.mono (by omega) (fun k hk => by
    rcases List.mem_cons.1 hk with e | e
    · left; simp [e]
    · right
      have := TX.out.2 k (by unfold fp; simp at e; simp [e])
      omega))).setCell (p := ⟨w.heap.size, 0, none⟩) (Or.inr (Nat.le_refl _)) _
  have q3 : (w5.setCell ⟨w.heap.size, 0, none⟩ (.pointer (some ⟨w3.heap.size, 0, none⟩))).cell? ⟨w.heap.size, 0, none⟩ = some (.pointer (some ⟨w3.heap.size, 0, none⟩)) := by
    rw [cell_of_row _ w.heap.size 0 _ _ _ (set_block _ X5.out)]
    rfl
  simp [Leaves, settle, results, Tryd.results45, go_sem, q3]
  rw [← HQ.out]
  rw [HLN.out] at T6 C6
  exact ⟨_, _, X.heap.size, cv, rfl, ⟨_, _, _, _, _, T6, rnK_cp HC.out _, rfl⟩, fun k hk => Nat.le_of_lt (TX.out.2 k hk), C6, by omega, B6⟩
end Go.Proofs.YtdhjoimiejdgbaaDoor.L
