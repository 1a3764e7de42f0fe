import Derived.Test.YtdhjoimiejdgbabDoorMgJ
import Derived.Lib.SliceRun
import Derived.Test.YtdhjoimiejdgbabDoorLayC
import Derived.Defers
import Derived.Recover
import Derived.Tactics2
import Derived.Laws.Pointers
import Derived.Deep.RegionHeld3
namespace Go.Proofs.YtdhjoimiejdgbabDoor.L
open Go.RowKit Bs Go.Maps Go.Shelf
set_option linter.unusedVariables false
theorem cellsR_one : ∀ l : List Rw, ∀ u ∈ cellsR l, u.oneCell' = true
  | [], u, h => by cases h
  | x :: l, u, h => by
    rw [cellsR_cons] at h
    rcases List.mem_cons.1 h with rfl | h
    · rfl
    · rcases List.mem_cons.1 h with rfl | h
      · rfl
      · exact cellsR_one l u h
theorem wrow_one (l : List Nat) : ∀ u ∈ wrow l, u.oneCell' = true := fun u h => by
  obtain ⟨x, _, rfl⟩ := List.mem_map.1 h
  rfl
set_option maxHeartbeats 4000000 in
set_option maxRecDepth 100000 in
theorem cloneR (v : Value) (l : List Rw) (w : World) (h : OwnR w v l) (hl : l.length ≤ 65536) : Calls Tryd.prog 62 #[v] w fun e w' => ∃ v', e = .returned v' ∧ w'.ownsRow w.heap.size 65 2 v' l.length (cellsR l) ∧ Below w.heap.size w w' := by
  obtain ⟨i0, hi, hz0, hz1, hz2⟩ := info_parts infoR
  have q28 : ∀ (w : World) (a : Option Addr) (n c n' c' : Nat), (binOp .eql 58 (.slice a n c) (.slice none n' c')).run Tryd.prog w = .ok (.bool a.isNone) w := fun w a n c n' c' => Lib.run_eql_slice_nil w _ _ a n c n' c' Tryd.underlying58
  rcases own_form h with ⟨rfl, h0⟩ | ⟨g, cap, rfl, hle, hmx, hlt⟩
  · have hnil : l = [] := List.length_eq_zero_iff.1 h0
    subst hnil
    go_enter Tryd.func62, Tryd.ntmps62
    go_wp2
    go_ret
    exact ⟨_, rfl, ⟨rfl, Or.inl ⟨rfl, rfl⟩⟩, Below.refl _ _⟩
  · have HC := hid (fun W (hb : Below w.heap.size w W) => (own_stays h (fun k hk => hb.block k (h.lt k hk).2)).cells (g := g) rfl)
    have CL := hid (cellsR_len l)
    clear h
    generalize hn : l.length = n at *
    clear hle hmx hlt hn
    go_enter Tryd.func62, Tryd.ntmps62
    go_wp2_with (at_builtin; refine wpList_append_own _ rfl _ _ 58 rfl w.heap.size 65 i0 (.agg #[.string ByteArray.empty, .int .i64 0]) 2 24 Tryd.underlying58 hi hz0 hz1 hz2 rfl (by decide) _ 0 [] rfl (World.ownsRow_made w #[] 0 (Nat.le_refl _) (Nat.zero_le _) rfl) ⟨g, 0, none⟩ n cap (cellsR l) rfl (by rw [CL.out]) (HC.out _ ((Below.refl _ w).alloc (Nat.le_refl _) _)) (cellsR_one l) (by unfold maxLen; omega) (by omega) (by simp) ?_)
    intro v' w1 hown hgrow _
    have R := hid (And.intro hown (((Below.refl w.heap.size w).alloc (Nat.le_refl _) _).grown hgrow (by simp) (fun k hk => by simp [Value.ownBlock] at hk; omega)))
    clear hown hgrow
    go_wp2
    go_ret
    exact ⟨v', rfl, R.out.1, R.out.2⟩
set_option maxHeartbeats 4000000 in
set_option maxRecDepth 100000 in
theorem cloneK (v : Value) (l : List Nat) (w : World) (h : OwnK w v l) (hl : l.length ≤ 65536) : Calls Tryd.prog 63 #[v] w fun e w' => ∃ v', e = .returned v' ∧ w'.ownsRow w.heap.size 85 1 v' l.length (wrow l) ∧ Below w.heap.size w w' := by
  obtain ⟨i0, hi, hz0, hz1, hz2⟩ := info_parts infoK
  have q28 : ∀ (w : World) (a : Option Addr) (n c n' c' : Nat), (binOp .eql 59 (.slice a n c) (.slice none n' c')).run Tryd.prog w = .ok (.bool a.isNone) w := fun w a n c n' c' => Lib.run_eql_slice_nil w _ _ a n c n' c' Tryd.underlying59
  rcases own_form h with ⟨rfl, h0⟩ | ⟨g, cap, rfl, hle, hmx, hlt⟩
  · have hnil : l = [] := List.length_eq_zero_iff.1 h0
    subst hnil
    go_enter Tryd.func63, Tryd.ntmps63
    go_wp2
    go_ret
    exact ⟨_, rfl, ⟨rfl, Or.inl ⟨rfl, rfl⟩⟩, Below.refl _ _⟩
  · have HC := hid (fun W (hb : Below w.heap.size w W) => (own_stays h (fun k hk => hb.block k (h.lt k hk).2)).cells (g := g) rfl)
    have CL := hid (wrow_len l)
    clear h
    generalize hn : l.length = n at *
    clear hle hmx hlt hn
    go_enter Tryd.func63, Tryd.ntmps63
    go_wp2_with (at_builtin; refine wpList_append_own _ rfl _ _ 59 rfl w.heap.size 85 i0 (.int .u64 0) 1 8 Tryd.underlying59 hi hz0 hz1 hz2 rfl (by decide) _ 0 [] rfl (World.ownsRow_made w #[] 0 (Nat.le_refl _) (Nat.zero_le _) rfl) ⟨g, 0, none⟩ n cap (wrow l) rfl (by rw [CL.out]; omega) (HC.out _ ((Below.refl _ w).alloc (Nat.le_refl _) _)) (wrow_one l) (by unfold maxLen; omega) (by omega) (by simp) ?_)
    intro v' w1 hown hgrow _
    have R := hid (And.intro hown (((Below.refl w.heap.size w).alloc (Nat.le_refl _) _).grown hgrow (by simp) (fun k hk => by simp [Value.ownBlock] at hk; omega)))
    clear hown hgrow
    go_wp2
    go_ret
    exact ⟨v', rfl, R.out.1, R.out.2⟩
theorem cloneM (mb n : Nat) (D : DataW Unit) (w : World) (h : Own1 w mb n D) : Calls Tryd.prog 61 #[.map (some mb)] w fun e w' => e = .returned (.map (some w.heap.size)) ∧ Own1 w' w.heap.size n D ∧ Below w.heap.size w w' := by
  refine (show Calls Tryd.prog 61 _ _ _ from AnyW.maps_Clone_owns mcl 9 (plainElem Tryd.prog 3) mb n D w h).mono ?_
  rintro e w' ⟨h1, h2, _, h4⟩
  exact ⟨h1, h2, h4⟩
end Go.Proofs.YtdhjoimiejdgbabDoor.L
namespace Go.Proofs.YtdhjoimiejdgbabDoor.L
open Go.RowKit Bs Go.Maps
set_option linter.unusedVariables false
theorem catch_idle (p : Addr) (w : World) :
    CallsD Tryd.prog 60 #[.pointer (some p)] .returning w fun e u' w' => e = .returned (.tuple #[]) ∧ u' = .returning ∧ w' = w := by
  refine callsD_of_wpS Tryd.func60 rfl fun c₀ cs hu => ?_
  apply wpS_seq
  apply wpS_region
  simp [wpOpsS, go_sem, recoverD, hu, Tryd.ntmps60, Exit.thenS]
  refine wpS_cond (t := false) (by simp [Act.eval, Array.replicate]) ?_
  simp only [Bool.false_eq_true, if_false]
  refine wpS_of_wp (wp_skip ?_)
  cases c₀
  simp_all [bodyPostS, results, Tryd.results60]
theorem run_neq_nil (w : World) : (binOp .neq 78 .nilFunc .nilFunc).run Tryd.prog w = .ok (.bool false) w := by
  have h : ∀ d, (Op.equalIn (d + 1) 78 .nilFunc .nilFunc).run Tryd.prog w = .ok true w := fun d => by
    simp [Op.equalIn, run_underlying Tryd.underlying78]
  simp only [binOp]
  simp [show Op.equal 78 .nilFunc .nilFunc = Op.equalIn (9999 + 1) 78 .nilFunc .nilFunc from rfl, h 9999]
theorem below_set1 {B : Nat} {a w : World} (h : Below B a w) (b o : Nat) (v : Value) (hb : B ≤ b) : Below B a (w.setCell ⟨b, o, none⟩ v) :=
  ⟨h.os, h.tape, h.output, by simpa using h.size, fun k hk => (heap_setCell_other w ⟨b, o, none⟩ k v (by show k ≠ b; omega)).trans (h.block k hk)⟩
set_option maxHeartbeats 4000000 in
theorem copy_nil (f : Value) (w : World) : Calls Tryd.prog 45 #[.pointer none, f] w fun e w' => e = .returned (.pointer none) ∧ Below w.heap.size w w' := by
  have hmf : ∀ (fn : Fn) (first cap : Array Value) (w : World), (Instr.makeFunc fn first cap).run Tryd.prog w = .ok (.func fn first cap) w := fun _ _ _ _ => rfl
  have HB := hid ((Below.refl w.heap.size w).alloc (Nat.le_refl _) (.cells #[.pointer none] 24))
  go_enter_defers Tryd.func45, Tryd.ntmps45
  go_wp2
  simp [bodyPostD, Leaves, results, Tryd.results45, go_sem]
  exact HB.out
theorem own_mono1 {W : World} {base base' : Nat} {e : TypeId} {size : Nat} {v : Value} {k : Nat} {xs : List Value} (h : W.ownsRow base e size v k xs) (hb : base' ≤ base) : W.ownsRow base' e size v k xs := by
  obtain ⟨h1, h2⟩ := h
  refine ⟨h1, ?_⟩
  rcases h2 with h2 | ⟨g, cap, cur, rfl, hg, r⟩
  · exact Or.inl h2
  · exact Or.inr ⟨g, cap, cur, rfl, Nat.le_trans hb hg, r⟩
theorem belowU {B : Nat} {w W : World} (h : Below B w.drew W) : Below B w W := ⟨h.os, h.tape, h.output, h.size, h.block⟩
set_option maxHeartbeats 8000000 in
set_option maxRecDepth 100000 in
theorem copy_any (p m : Nat) (l : List Rw) (F : List Nat) (w : World) (h : Tb w p m l F) : Calls Tryd.prog 45 #[.pointer (some ⟨p, 0, none⟩), .nilFunc] w fun e w' => ∃ p' F', e = .returned (.pointer (some ⟨p', 0, none⟩)) ∧ Tb w' p' m l F' ∧ (∀ k ∈ F', w.heap.size ≤ k) ∧ Below w.heap.size w w' := by
  obtain ⟨mb, rs, ks, D, ws, h1, h2, hF⟩ := h
  clear hF
  have hmf : ∀ (fn : Fn) (first cap : Array Value) (w : World), (Instr.makeFunc fn first cap).run Tryd.prog w = .ok (.func fn first cap) w := fun _ _ _ _ => rfl
  have hll : l.length ≤ 65536 := Nat.le_trans h2.ok.le h2.ok.mm
  have hwl : ws.length ≤ 65536 := Nat.le_trans h2.wl (by decide)
  have TM := hid (fun W (hb : Below w.heap.size w W) => h1.frame (fun k hk => hb.block k (h1.lt k hk)))
  have CM := hid (fun W (hb : Below w.heap.size w W) => cloneM mb 65536 D W (TM.out W hb).hm)
  have CR := hid (fun W (hb : Below w.heap.size w W) => cloneR rs l W (TM.out W hb).hr hll)
  have CK := hid (fun W (hb : Below w.heap.size w W) => cloneK ks ws W (TM.out W hb).hk hwl)
  have CC := hid (fun W (hb : Below w.heap.size w W) => And.intro (TM.out W hb).c0 (And.intro (TM.out W hb).c1 (And.intro (TM.out W hb).c2 (TM.out W hb).c3)))
  have HC := hid h2
  obtain ⟨ra, rc, hrs⟩ := own_len h1.hr
  obtain ⟨ka, kc, hks⟩ := own_len h1.hk
  subst hrs hks
  clear h1 h2 TM hll hwl
  have B0 := hid ((Below.refl w.heap.size w).alloc (Nat.le_refl _) (.cells #[.pointer none] 24))
  have Z0 : w.heap.size < (w.alloc (.cells #[.pointer none] 24)).heap.size := by simp
  obtain ⟨t0, t1, t2, t3⟩ := CC.out _ B0.out
  have bc : (w.alloc (.cells #[.pointer none] 24)).heap[w.heap.size]? = some (.cells #[.pointer none] 24) := heap_alloc_new w _
  have HBC := hid bc
  clear bc
  generalize hQ : (fun e w' => ∃ p' F', e = Ending.returned (.pointer (some ⟨p', 0, none⟩)) ∧ Tb w' p' m l F' ∧ (∀ k ∈ F', w.heap.size ≤ k) ∧ Below w.heap.size w w') = Q
  have HQ := hid hQ
  clear hQ
  generalize hln : l.length = ln at *
  generalize hwn : ws.length = wn at *
  have HLN := hid hln
  have HWN := hid hwn
  clear hln hwn
  go_enter_defers Tryd.func45, Tryd.ntmps45
  go_wp2_with fail
  generalize w.alloc (.cells #[.pointer none] 24) = W at *
  go_region_held3 (fun X => X.cell? ⟨p, 0, none⟩ = some (.int .i64 (m : Int)) ∧ X.cell? ⟨p, 1, none⟩ = some (.map (some mb)) ∧ X.cell? ⟨p, 2, none⟩ = some (.slice ra ln rc) ∧ X.cell? ⟨p, 3, none⟩ = some (.slice ka wn kc))
    (first | exact ⟨t0, t1, t2, t3⟩ | exact T1.out | exact T2.out | exact T3.out | exact CC.out _ (B3.out.alloc B3.out.size _) | exact CC.out _ ((below_set1 B3.out _ _ _ (Nat.le_refl _)).alloc (below_set1 B3.out _ _ _ (Nat.le_refl _)).size _) | go_keep)
    (first
      | (go_at_call 61; refine (CM.out _ B0.out.drew).mono ?_; rintro e w1 ⟨rfl, hm1, hb1⟩; have X1 := hid ((hb1.block w.heap.size Z0).trans HBC.out); have Z1 : w.heap.size < w1.heap.size := Nat.lt_of_lt_of_le Z0 hb1.size; have B1 := hid (B0.out.trans ((belowU hb1).mono B0.out.size)); have T1 := hid (CC.out _ B1.out); have M1 := hid hm1; have D1 := hid hb1; clear hm1 hb1)
      | (go_at_call 62; refine (CR.out _ B1.out).mono ?_; rintro e w2 ⟨v2, rfl, hr2, hb2⟩; obtain ⟨a2, c2, hv2⟩ := own_len hr2; subst hv2; have X2 := hid ((hb2.block w.heap.size Z1).trans X1.out); have Z2 : w.heap.size < w2.heap.size := Nat.lt_of_lt_of_le Z1 hb2.size; have B2 := hid (B1.out.trans (hb2.mono B1.out.size)); have T2 := hid (CC.out _ B2.out); have R2 := hid hr2; have D2 := hid hb2; clear hr2 hb2)
      | (go_at_call 63; refine (CK.out _ B2.out).mono ?_; rintro e w3 ⟨v3, rfl, hk3, hb3⟩; obtain ⟨a3, c3, hv3⟩ := own_len hk3; subst hv3; have X3 := hid ((hb3.block w.heap.size Z2).trans X2.out); have Z3 : w.heap.size < w3.heap.size := Nat.lt_of_lt_of_le Z2 hb3.size; have s5 : w3.cell? ⟨w.heap.size, 0, none⟩ = some (.pointer none) := (by rw [cell_of_row w3 w.heap.size 0 _ _ _ X3.out]; rfl); have s6 : w3.frozen? ⟨w.heap.size, 0, none⟩ = false := frozen_of_row w3 w.heap.size 0 _ _ X3.out; have B3 := hid (B2.out.trans (hb3.mono B2.out.size)); have T3 := hid (CC.out _ B3.out); have K3 := hid hk3; have D3 := hid hb3; clear hk3 hb3))
  have PB : Hid (∀ W2 : World, (∀ k, k ≠ w.heap.size → W2.heap[k]? = ((w3.setCell ⟨w.heap.size, 0, none⟩ (.pointer (some ⟨w3.heap.size, 0, none⟩))).alloc (Obj.cells #[.int .i64 (m : Int), .map (some W.heap.size), .slice a2 ln c2, .slice a3 wn c3] 61)).heap[k]?) → Below w.heap.size w W2 → Tb W2 w3.heap.size m l (fp w3.heap.size W.heap.size (.slice a2 ln c2) (.slice a3 wn c3)) ∧ (∀ k ∈ fp w3.heap.size W.heap.size (.slice a2 ln c2) (.slice a3 wn c3), w.heap.size ≤ k)) := hid (fun W2 hW hb => by
    have e3 : ∀ k, k ≠ w.heap.size → k < w3.heap.size → W2.heap[k]? = w3.heap[k]? := fun k hk hlt => by
      rw [hW k hk, heap_alloc_old _ _ (by simpa using hlt), set_other _ _ hk]
    have zM := owns_lt M1.out
    have d1 : W.heap.size < w1.heap.size := zM
    have d2 := D2.out.size
    have d3 := D3.out.size
    have eM : W2.heap[W.heap.size]? = w1.heap[W.heap.size]? := by
      rw [e3 _ (by omega) (by omega), D3.out.block _ (by omega), D2.out.block _ d1]
    have eR : ∀ g, (Value.slice a2 ln c2).ownBlock = some g → w1.heap.size ≤ g ∧ W2.heap[g]? = w2.heap[g]? := fun g hg => by
      have := R2.out.lt g hg
      exact ⟨this.1, by rw [e3 g (by omega) (by omega), D3.out.block g this.2]⟩
    have eK : ∀ g, (Value.slice a3 wn c3).ownBlock = some g → w2.heap.size ≤ g ∧ W2.heap[g]? = w3.heap[g]? := fun g hg => by
      have := K3.out.lt g hg
      exact ⟨this.1, e3 g (by omega) this.2⟩
    refine ⟨⟨W.heap.size, .slice a2 ln c2, .slice a3 wn c3, D, ws, ⟨?_, owns_stays M1.out eM, ?_, ?_⟩, HC.out, rfl⟩, fun k hk => ?_⟩
    · rw [hW _ (by omega)]
      have := heap_alloc_new (w3.setCell ⟨w.heap.size, 0, none⟩ (.pointer (some ⟨w3.heap.size, 0, none⟩))) (Obj.cells #[.int .i64 (m : Int), .map (some W.heap.size), .slice a2 ln c2, .slice a3 wn c3] 61)
      simpa using this
    · unfold OwnR
      rw [HLN.out]
      exact own_stays (own_mono1 R2.out (Nat.zero_le _)) (fun g hg => (eR g hg).2)
    · unfold OwnK
      rw [HWN.out]
      exact own_stays (own_mono1 K3.out (Nat.zero_le _)) (fun g hg => (eK g hg).2)
    · unfold fp at hk
      simp at hk
      rcases hk with rfl | rfl | hk | hk
      · omega
      · omega
      · have := (eR k hk).1; omega
      · have := (eK k hk).1; omega)
  have BX := hid ((below_set1 B3.out w.heap.size 0 (.pointer (some ⟨w3.heap.size, 0, none⟩)) (Nat.le_refl _)).alloc (below_set1 B3.out _ _ _ (Nat.le_refl _)).size (Obj.cells #[.int .i64 (m : Int), .map (some W.heap.size), .slice a2 ln c2, .slice a3 wn c3] 61))
  have xb : ((w3.setCell ⟨w.heap.size, 0, none⟩ (.pointer (some ⟨w3.heap.size, 0, none⟩))).alloc (Obj.cells #[.int .i64 (m : Int), .map (some W.heap.size), .slice a2 ln c2, .slice a3 wn c3] 61)).heap[w.heap.size]? = some (.cells #[.pointer (some ⟨w3.heap.size, 0, none⟩)] 24) := by
    rw [heap_alloc_old _ _ (by simpa using Z3), set_block _ X3.out]
    rfl
  have hnq := run_neq_nil
  clear CM CR CK CC T1 T2 T3 t0 t1 t2 t3 s5 s6 M1 D1 R2 D2 K3 D3 X1 X2 X3 HC
  generalize (w3.setCell ⟨w.heap.size, 0, none⟩ (.pointer (some ⟨w3.heap.size, 0, none⟩))).alloc (Obj.cells #[.int .i64 (m : Int), .map (some W.heap.size), .slice a2 ln c2, .slice a3 wn c3] 61) = X at *
  have xc : X.cell? ⟨w.heap.size, 0, none⟩ = some (.pointer (some ⟨w3.heap.size, 0, none⟩)) := (by rw [cell_of_row X w.heap.size 0 _ _ _ xb]; rfl)
  have xf : X.frozen? ⟨w.heap.size, 0, none⟩ = false := frozen_of_row X w.heap.size 0 _ _ xb
  have XB := hid xb
  clear xb
  go_wp2_with fail
  refine leaves_cons (f := 60) (args := #[.pointer (some ⟨w.heap.size, 0, none⟩)]) (by simp) (by simp [go_sem]) ?_
  refine (catch_idle ⟨w.heap.size, 0, none⟩ _).mono ?_
  rintro e u' w'' ⟨rfl, rfl, rfl⟩
  have BY := below_set1 BX.out w.heap.size 0 (.pointer (some ⟨w3.heap.size, 0, none⟩)) (Nat.le_refl _)
  obtain ⟨q1, q2⟩ := PB.out _ (fun k hk => set_other X _ hk) BY
  have q3 : (X.setCell ⟨w.heap.size, 0, none⟩ (.pointer (some ⟨w3.heap.size, 0, none⟩))).cell? ⟨w.heap.size, 0, none⟩ = some (.pointer (some ⟨w3.heap.size, 0, none⟩)) := by
    rw [cell_of_row _ w.heap.size 0 _ _ _ (set_block _ XB.out)]
    rfl
  simp [Leaves, settle, results, Tryd.results45, go_sem, q3]
  rw [← HQ.out]
  exact ⟨_, _, rfl, q1, q2, BY⟩
end Go.Proofs.YtdhjoimiejdgbabDoor.L
