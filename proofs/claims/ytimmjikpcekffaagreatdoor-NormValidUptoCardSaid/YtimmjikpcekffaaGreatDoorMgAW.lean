import Derived.Test.YtimmjikpcekffaaGreatDoorMgAV
import Derived.Test.YtimmjikpcekffaaGreatDoorHE
namespace Go.Proofs.YtimmjikpcekffaaGreatDoor.L
open Go.RowKit
set_option linter.unusedVariables false
/-- An answer: no error, or the fault with this code and this place. -/
def AnsR (o : Option (Nat × Int)) (B : Nat) (W : World) (ev : Value) : Prop := (o = none ∧ ev = .nilIface) ∨ ∃ N c a, o = some (c, a) ∧ ev = fv N ∧ Flt W N c a ∧ B ≤ N
theorem AnsR.low {o : Option (Nat × Int)} {B B' : Nat} {W W' : World} {ev : Value} (h : AnsR o B W ev) (hb : Below W.heap.size W W') (hB : B' ≤ B) : AnsR o B' W' ev := by
  rcases h with h | ⟨N, c, a, h1, h2, h3, h4⟩
  · exact Or.inl h
  · exact Or.inr ⟨N, c, a, h1, h2, h3.low hb, Nat.le_trans hB h4⟩
theorem sfault_any (c : Nat) (a : Int) (w : World) : Calls Tryz.prog 66 #[.int .i64 (c : Int), .int .i64 a] w fun e w' => e = .returned (fv w.heap.size) ∧ Flt w' w.heap.size c a ∧ Below w.heap.size w w' := by
  have HB := hid (belowA w (.cells #[.int .i64 (c : Int), .int .i64 a, .string ⟨#[]⟩, .nilIface] 90))
  have HX := hid (heap_alloc_new w (.cells #[.int .i64 (c : Int), .int .i64 a, .string ⟨#[]⟩, .nilIface] 90))
  go_enter Tryz.func66, Tryz.ntmps66
  go_wp2_with fail
  go_ret
  exact ⟨rfl, HX.out, HB.out⟩
/-- Not both kids move. -/
def stO (si : Nat → Int) (ks : List Int) (t : Int) : Option (Nat × Int) := if ks.all (fun x => movB (si x.toNat)) then some (144, t) else none
set_option maxHeartbeats 8000000 in
set_option maxRecDepth 100000 in
theorem still_any (a : Option Addr) (T : List Pt) (pc gt n : Nat) (so si : Nat → Int) (t : Nat) (w : World) (hT : PL w a T) (hy : TyR w gt n so si) (ht : t < T.length) (hin : ∀ x, x ∈ (pt T t).kids → 0 ≤ x ∧ x < n) (hl : (pt T t).kids.length ≤ 1000) (hL : T.length ≤ 1000) (hn : n ≤ 1000) :
    Calls Tryz.prog 139 #[.agg #[.slice a T.length pc, .slice (some ⟨gt, 0, none⟩) n n], .int .i64 (t : Int)] w fun e w' => ∃ ev, e = .returned ev ∧ AnsR (stO si (pt T t).kids t) w.heap.size w' ev ∧ Below w.heap.size w w' := by
  obtain ⟨L, hLe⟩ : ∃ L, L = T.length := ⟨_, rfl⟩
  obtain ⟨ks, hks⟩ : ∃ ks, ks = (pt T t).kids := ⟨_, rfl⟩
  obtain ⟨m, hm⟩ : ∃ m, m = ks.length := ⟨_, rfl⟩
  have HT := hid hT
  have HY := hid hy
  rw [← hks] at hin hl ⊢
  have HIN := hid hin
  have HM := hid hm
  have HL := hid hLe
  have HKS := hid hks
  have HTL := hid ht
  have HMV := hid moves_any
  have HFA := hid (fun W => sfault_any 144 (t : Int) W)
  rw [← hm] at hl
  rw [← hLe] at hL ht ⊢
  have HB := hid (belowA w (.cells #[.slice a L pc, .slice (some ⟨gt, 0, none⟩) n n] 125))
  have HX := hid (heap_alloc_new w (.cells #[.slice a L pc, .slice (some ⟨gt, 0, none⟩) n n] 125))
  clear hT hy hin hm hLe hks
  go_enter Tryz.func139, Tryz.ntmps139
  go_upto_region 1 with (fail)
  have HYX := hid (HY.out.low HB.out)
  have HTX := hid (HT.out.low HB.out)
  generalize w.alloc (.cells #[.slice a L pc, .slice (some ⟨gt, 0, none⟩) n n] 125) = X at *
  have ⟨x0, x1⟩ := cellsW HX.out
  rcases HTX.out with h0 | ⟨b2, o2, rfl, hb2, hc2⟩
  · have := HTL.out; omega
  obtain ⟨ka, kc, _, _, _, q3, rk⟩ := hc2 t HTL.out
  rw [← HKS.out, ← HM.out] at q3
  rw [← HKS.out] at rk
  have RK := hid rk
  have g5 : (t : Int) < (L : Int) := by omega
  have g6 : (0 : Int) ≤ (t : Int) := by omega
  have ht4 : ((t : Int) * 4).toNat = t * 4 := by omega
  clear hc2 rk
  go_wp2_with fail
  clear q3
  go_loopw [14] (fun i wr => ∃ (k : Nat), k ≤ m ∧ i = .int .i64 (k : Int) ∧ wr = X ∧ Hid (∀ j, j < k → movB (si (ks.getD j 0).toNat) = true)) (fun i _ => m - (intOf i).toNat)
  case atStart => exact ⟨0, Nat.zero_le _, rfl, rfl, hid (fun j hj => absurd hj (Nat.not_lt_zero j))⟩
  case round =>
    obtain ⟨k, hk, rfl, rfl, HJ⟩ := hrel
    by_cases hlt : k < m
    · rcases RK.out with h0 | ⟨b1, o1, rfl, hb1, hc1⟩
      · have := HM.out; omega
      have hkn : k < ks.length := by rw [← HM.out]; exact hlt
      have p0 := hc1 k hkn
      have hmem : ks.getD k 0 ∈ ks := by rw [List.getD_eq_getElem?_getD, List.getElem?_eq_getElem hkn]; exact List.getElem_mem hkn
      have hx := HIN.out _ hmem
      obtain ⟨x, hxe⟩ : ∃ x : Nat, ks.getD k 0 = x := ⟨(ks.getD k 0).toNat, by omega⟩
      have HXE := hid hxe
      have HME := hid hmem
      rw [hxe] at p0 hx
      have y1 := (HYX.out.2 x (by omega)).2
      have g1 : (k : Int) < (m : Int) := by omega
      have g2 : (0 : Int) ≤ (k : Int) := by omega
      have g3 : (x : Int) < (n : Int) := by omega
      have g4 : (0 : Int) ≤ (x : Int) := by omega
      obtain ⟨s, hs⟩ : ∃ s, s = si x := ⟨_, rfl⟩
      rw [← hs] at y1
      have HSE := hid hs
      have HK1 := hid (show k + 1 ≤ m by omega)
      clear hc1 hmem hx hxe hkn hs hb1
      cases hmv : movB s
      · have HMVE := hid hmv
        have HRES := hid (show stO si ks t = none by
          unfold stO
          rw [if_neg]
          intro hall
          have := List.all_eq_true.1 hall _ HME.out
          rw [HXE.out, Int.toNat_natCast, ← HSE.out, hmv] at this
          cases this)
        clear hmv
        go_wp2_with (go_at_call 142; refine (HMV.out _ _).mono ?_; rw [HMVE.out]; rintro e w1 ⟨rfl, hww⟩; have hw2 := hww.symm; clear hww; subst hw2)
        go_ret
        exact ⟨.nilIface, rfl, Or.inl ⟨HRES.out, rfl⟩, HB.out⟩
      · have HMVE := hid hmv
        clear hmv
        go_wp2_with (go_at_call 142; refine (HMV.out _ _).mono ?_; rw [HMVE.out]; rintro e w1 ⟨rfl, hww⟩; have hw2 := hww.symm; clear hww; subst hw2)
        refine ⟨⟨k + 1, HK1.out, by go_num, trivial, hid (fun j hj => ?_)⟩, ?_⟩
        · by_cases e : j = k
          · rw [e, HXE.out, Int.toNat_natCast, ← HSE.out]
            exact HMVE.out
          · exact HJ.out j (by omega)
        · have h3 := HK1.out
          simp [intOf]
          omega
    · obtain rfl : k = m := by omega
      have HRES := hid (show stO si ks t = some (144, (t : Int)) by
        unfold stO
        rw [if_pos]
        refine List.all_eq_true.2 (fun x hx => ?_)
        obtain ⟨j, hj, e⟩ := List.getElem_of_mem hx
        have := HJ.out j (by rw [HM.out]; exact hj)
        rw [List.getD_eq_getElem?_getD, List.getElem?_eq_getElem hj] at this
        simp only [Option.getD_some, e] at this
        exact this)
      go_wp2_with (go_at_call 66; refine (HFA.out _).mono ?_; rintro e w1 ⟨rfl, hf, l1⟩; have HF := hid hf; have L1 := hid l1; clear hf l1)
      go_ret
      exact ⟨_, rfl, Or.inr ⟨_, 144, (t : Int), HRES.out, rfl, HF.out, HB.out.size⟩, bchS HB.out L1.out⟩
end Go.Proofs.YtimmjikpcekffaaGreatDoor.L
namespace Go.Proofs.YtimmjikpcekffaaGreatDoor.L
open Go.RowKit Go.Extern.Stop Go.Stop Go.Extern
set_option linter.unusedVariables false
/-- The variable errors.errorType holds its type. -/
def Gv (w : World) : Prop := w.cell? ⟨0, 0, none⟩ = some (.iface 146 (.agg #[.pointer (some ⟨9, 67, none⟩)]))
theorem Gv.lt {w : World} (h : Gv w) : 0 < w.heap.size := lt_of_cell (t := ⟨0, 0, none⟩) h
theorem Gv.low {w w' : World} (h : Gv w) (hb : Below w.heap.size w w') : Gv w' := (hb.cell h.lt).trans h
theorem Gv.but {w w' : World} {g : Nat} (h : Gv w) (hb : But g w w') (hg : g ≠ 0) : Gv w' := (World.cell?_of_block (w := w) (a := ⟨0, 0, none⟩) (hb.block 0 h.lt (Ne.symm hg))).trans h
theorem but_new {w0 w w' : World} {g : Nat} (h : Below w0.heap.size w0 w) (hb : But g w w') (hg : w0.heap.size ≤ g) : Below w0.heap.size w0 w' := ⟨hb.os.trans h.os, hb.tape.trans h.tape, hb.output.trans h.output, Nat.le_trans h.size hb.size, fun k hk => (hb.block k (Nat.lt_of_lt_of_le hk h.size) (by omega)).trans (h.block k hk)⟩
/-- A fault with a fault as its cause. -/
def FltC (W : World) (M : Nat) (i : Int) (N : Nat) : Prop := W.heap[M]? = some (.cells #[.int .i64 140, .int .i64 i, .string ⟨#[]⟩, fv N] 90 (0, 0))
theorem FltC.low {W W' : World} {M N : Nat} {i : Int} (h : FltC W M i N) (hb : Below W.heap.size W W') : FltC W' M i N := (hb.block M (lt_blk h)).trans h
/-- What valid answers. -/
def VaR (T : List Pt) (W : World) (ev : Value) : Prop := (ev = .nilIface ∧ Res T 0 0) ∨ ∃ M N c i : Nat, ev = fv M ∧ FltC W M i N ∧ Flt W N c i ∧ Res T c i ∧ c ≠ 0
theorem VaR.low {T : List Pt} {W W' : World} {ev : Value} (h : VaR T W ev) (hb : Below W.heap.size W W') : VaR T W' ev := by
  rcases h with h | ⟨M, N, c, i, h1, h2, h3, h4⟩
  · exact .inl h
  · exact .inr ⟨M, N, c, i, h1, h2.low hb, h3.low hb, h4⟩
/-- errors.As of no error, or of one in which a fault is met. -/
theorem as_e (ev : Value) (tb : Nat) (old : Value) (w : World) (he : ev = .nilIface ∨ ∃ N, ErN N ev) (hg : Gv w) (ht : w.heap[tb]? = some (.cells #[old] 86 (0, 0))) :
    Calls Tryz.prog 34 #[ev, .iface 88 (.pointer (some ⟨tb, 0, none⟩))] w
      fun e w' => ∃ b : Bool, e = .returned (.bool b) ∧ But tb w w' ∧ ((b = false ∧ ev = .nilIface ∧ w' = w) ∨ (b = true ∧ ∃ N, ErN N ev ∧ w'.cell? ⟨tb, 0, none⟩ = some (.pointer (some ⟨N, 0, none⟩)))) := by
  rcases he with rfl | ⟨N, he⟩
  · refine (as_nil _ w).mono ?_
    rintro e w' ⟨rfl, rfl⟩
    exact ⟨false, rfl, But.refl _ _, .inl ⟨rfl, rfl, rfl⟩⟩
  · refine (as_any ev N tb old w he hg ht).mono ?_
    rintro e w' ⟨rfl, hc, hb⟩
    exact ⟨true, rfl, hb, .inr ⟨rfl, N, he, hc⟩⟩
theorem ErrR.erN {T : List Pt} {B : Nat} {W : World} {ev : Value} (h : ErrR T B W ev) : ev = .nilIface ∨ ∃ N, ErN N ev := by
  rcases h with ⟨h, _⟩ | ⟨N, c, i, rfl, _⟩
  · exact .inl h
  · exact .inr ⟨N, .flt⟩
theorem ErN.one {N M : Nat} (h : ErN N (fv M)) : N = M := by
  cases h with
  | flt => rfl
set_option maxHeartbeats 8000000 in
set_option maxRecDepth 100000 in
theorem svalid_any (a : Option Addr) (T : List Pt) (cap : Nat) (w : World) (hT : PL w a T) (hG : GdT T) (hg : Gv w) :
    Calls Tryz.prog 67 #[.agg #[.slice a T.length cap]] w fun e w' => ∃ ev, e = .returned ev ∧ Below w.heap.size w w' ∧ VaR T w' ev := by
  have HB0 := hid (belowA w (.cells #[.slice a T.length cap] 35))
  have HX0 := hid (heap_alloc_new w (.cells #[.slice a T.length cap] 35))
  have HB1 := hid (belowA (w.alloc (.cells #[.slice a T.length cap] 35)) (.cells #[.pointer none] 86))
  have HX1 := hid (heap_alloc_new (w.alloc (.cells #[.slice a T.length cap] 35)) (.cells #[.pointer none] 86))
  have HBB := hid (bchS HB0.out HB1.out)
  have HSZ := hid (show (w.alloc (.cells #[.slice a T.length cap] 35)).heap.size = w.heap.size + 1 by simp)
  rw [HSZ.out] at HX1
  have HVA := hid (valid_any a T cap _ (hT.low HBB.out) hG)
  have HG := hid (hg.low HBB.out)
  generalize T.length = L at *
  clear hT hg
  go_enter Tryz.func67, Tryz.ntmps67
  go_upto_region 2 with (fail)
  generalize (w.alloc (.cells #[.slice a L cap] 35)).alloc (.cells #[.pointer none] 86) = X at *
  have x0 := cell_of_one ((HB1.out.block _ (lt_blk HX0.out)).trans HX0.out)
  go_upto_region 3 with (first
    | (go_at_call 24; refine HVA.out.mono ?_; rintro e w1 ⟨ev, rfl, l1, hr⟩; have L1 := hid l1; have HR := hid hr; clear l1 hr)
    | (go_at_call 34; refine (as_e _ _ (.pointer none) _ HR.out.erN (HG.out.low L1.out) ((L1.out.block _ (lt_blk HX1.out)).trans HX1.out)).mono ?_; rintro e w2 ⟨b, rfl, hb, hr⟩; have HB := hid hb; have HA := hid hr; clear hb hr))
  have HLX := hid (lt_blk HX1.out)
  · rcases HA.out with ⟨rfl, _⟩ | ⟨_, N, hn, hc⟩
    · contradiction
    rcases HR.out with ⟨rfl, _⟩ | ⟨N1, c, i, rfl, hf, hN, hr, hc0⟩
    · cases hn
    obtain rfl := hn.one
    have F2 := hid (show Flt w2 N c i from (HB.out.block N (lt_blk hf) (by have := HLX.out; omega)).trans hf)
    have ⟨q0, q1, q2, q3⟩ := cells4 F2.out
    have HRS := hid (And.intro hr hc0)
    have HBX := hid (but_new (HBB.out.trans (L1.out.mono HBB.out.size)) HB.out (by omega))
    have HB3 := hid (belowA w2 (.cells #[.int .i64 140, .int .i64 (i : Int), .string ⟨#[]⟩, fv N] 90))
    have HX3 := hid (heap_alloc_new w2 (.cells #[.int .i64 140, .int .i64 (i : Int), .string ⟨#[]⟩, fv N] 90))
    clear hr hc0 hf hn x0
    simp only [fv] at HX3 HB3
    go_region
    clear q0 q1 q2 q3 hc
    go_wp2_with fail
    go_ret
    exact ⟨_, rfl, HBX.out.trans (HB3.out.drew.mono HBX.out.size), .inr ⟨_, N, c, i, rfl, HX3.out, F2.out.low HB3.out.drew, HRS.out⟩⟩
  · rcases HA.out with ⟨_, rfl, rfl⟩ | ⟨rfl, _⟩
    · go_ret
      refine ⟨_, rfl, HBB.out.trans (L1.out.mono HBB.out.size), .inl ⟨rfl, ?_⟩⟩
      rcases HR.out with ⟨_, h⟩ | ⟨N, c, i, h, _⟩
      · exact h
      · cases h
    · contradiction
end Go.Proofs.YtimmjikpcekffaaGreatDoor.L
namespace Go.Proofs.YtimmjikpcekffaaGreatDoor.L
open Go.RowKit
set_option linter.unusedVariables false
/-- int reads labels and texts alone. -/
def rdO (k : Int) (t : Int) : Option (Nat × Int) := if k = 14 ∨ k = 11 then none else some (148, t)
set_option maxHeartbeats 8000000 in
set_option maxRecDepth 100000 in
theorem readable_any (a : Option Addr) (T : List Pt) (pc : Nat) (tv : Value) (t : Nat) (w : World) (hT : PL w a T) (ht : t < T.length) (hL : T.length ≤ 1000) :
    Calls Tryz.prog 126 #[.agg #[.slice a T.length pc, tv], .int .i64 (t : Int)] w fun e w' => ∃ ev, e = .returned ev ∧ AnsR (rdO (pt T t).kind t) w.heap.size w' ev ∧ Below w.heap.size w w' := by
  obtain ⟨L, hLe⟩ : ∃ L, L = T.length := ⟨_, rfl⟩
  have HT := hid hT
  have HL := hid hLe
  have HTL := hid ht
  have HFA := hid (fun W => sfault_any 148 (t : Int) W)
  rw [← hLe] at hL ht ⊢
  have HB := hid (belowA w (.cells #[.slice a L pc, tv] 125))
  have HX := hid (heap_alloc_new w (.cells #[.slice a L pc, tv] 125))
  clear hT hLe
  go_enter Tryz.func126, Tryz.ntmps126
  go_upto_region 1 with (fail)
  have HTX := hid (HT.out.low HB.out)
  generalize w.alloc (.cells #[.slice a L pc, tv] 125) = X at *
  have ⟨x0, x1⟩ := cellsW HX.out
  rcases HTX.out with h0 | ⟨b2, o2, rfl, hb2, hc2⟩
  · have := HTL.out; omega
  obtain ⟨ka, kc, q0, _⟩ := hc2 t HTL.out
  obtain ⟨kd, hkd⟩ : ∃ kd, kd = (pt T t).kind := ⟨_, rfl⟩
  rw [← hkd] at q0
  have HKD := hid hkd
  have g5 : (t : Int) < (L : Int) := by omega
  have g6 : (0 : Int) ≤ (t : Int) := by omega
  have ht4 : ((t : Int) * 4).toNat = t * 4 := by omega
  clear hc2 hkd
  by_cases h14 : kd = 14
  · have HRES := hid (show rdO (pt T t).kind t = none by unfold rdO; rw [← HKD.out, h14]; rfl)
    have e14 : (kd != 14) = false := by simp [h14]
    clear h14
    go_wp2_with fail
    go_ret
    exact ⟨.nilIface, rfl, Or.inl ⟨HRES.out, rfl⟩, HB.out⟩
  · by_cases h11 : kd = 11
    · have HRES := hid (show rdO (pt T t).kind t = none by unfold rdO; rw [← HKD.out, h11]; rfl)
      have e14 : (kd != 14) = true := by simp [h14]
      have e11 : (kd != 11) = false := by simp [h11]
      clear h14 h11
      go_wp2_with fail
      go_ret
      exact ⟨.nilIface, rfl, Or.inl ⟨HRES.out, rfl⟩, HB.out⟩
    · have HRES := hid (show rdO (pt T t).kind t = some (148, (t : Int)) by unfold rdO; rw [← HKD.out, if_neg (by rintro (h | h); exact h14 h; exact h11 h)])
      have e14 : (kd != 14) = true := by simp [h14]
      have e11 : (kd != 11) = true := by simp [h11]
      clear h14 h11
      go_wp2_with (go_at_call 66; refine (HFA.out _).mono ?_; rintro e w1 ⟨rfl, hf, l1⟩; have HF := hid hf; have L1 := hid l1; clear hf l1)
      go_ret
      exact ⟨_, rfl, Or.inr ⟨_, 148, (t : Int), HRES.out, rfl, HF.out, HB.out.size⟩, bchS HB.out L1.out⟩
/-- The kids of a set are of one sort: the first of another sort than the first's. -/
def alO (so : Nat → Int) (s0 : Int) : List Int → Option (Nat × Int)
  | [] => none
  | x :: r => if so x.toNat = s0 then alO so s0 r else some (146, x)
set_option maxHeartbeats 8000000 in
set_option maxRecDepth 100000 in
theorem alike_any (pv : Value) (gt n : Nat) (so si : Nat → Int) (ka : Option Addr) (ks : List Int) (kc : Nat) (w : World) (hy : TyR w gt n so si) (hk : RdI w ka ks) (hin : ∀ x, x ∈ ks → 0 ≤ x ∧ x < n) (hl : ks.length ≤ 1000) (hn : n ≤ 1000) (hp : ∃ a b c, pv = .slice a b c) :
    Calls Tryz.prog 125 #[.agg #[pv, .slice (some ⟨gt, 0, none⟩) n n], .slice ka ks.length kc] w fun e w' => ∃ ev, e = .returned ev ∧ AnsR (alO so (so (ks.getD 0 0).toNat) ks) w.heap.size w' ev ∧ Below w.heap.size w w' := by
  obtain ⟨pa, pn, pc, rfl⟩ := hp
  obtain ⟨m, hm⟩ : ∃ m, m = ks.length := ⟨_, rfl⟩
  obtain ⟨s0, hs0⟩ : ∃ s0, s0 = so (ks.getD 0 0).toNat := ⟨_, rfl⟩
  have HY := hid hy
  have HK := hid hk
  have HIN := hid hin
  have HM := hid hm
  have HS0 := hid hs0
  rw [← hm] at hl ⊢
  rw [← hs0]
  have HB := hid (belowA w (.cells #[.slice pa pn pc, .slice (some ⟨gt, 0, none⟩) n n] 125))
  have HX := hid (heap_alloc_new w (.cells #[.slice pa pn pc, .slice (some ⟨gt, 0, none⟩) n n] 125))
  have HFA := hid (fun a W => sfault_any 146 a W)
  clear hy hk hin hm hs0
  go_enter Tryz.func125, Tryz.ntmps125
  go_upto_region 1 with (fail)
  have HYX := hid (HY.out.low HB.out)
  have HKX := hid (HK.out.low HB.out (Nat.le_refl _))
  generalize w.alloc (.cells #[.slice pa pn pc, .slice (some ⟨gt, 0, none⟩) n n] 125) = X at *
  go_wp2_with fail
  go_loopw [9] (fun i wr => ∃ (k : Nat), k ≤ m ∧ i = .int .i64 (k : Int) ∧ Hid (Below X.heap.size X wr) ∧ Hid (alO so s0 (ks.drop k) = alO so s0 ks)) (fun i _ => m - (intOf i).toNat)
  case atStart => exact ⟨0, Nat.zero_le _, rfl, hid (Below.refl _ _), hid rfl⟩
  case round =>
    obtain ⟨k, hk, rfl, HBX, HJ⟩ := hrel
    by_cases hlt : k < m
    · rcases HKX.out.low HBX.out (Nat.le_refl _) with h0 | ⟨b1, o1, e0, hb1, hc1⟩
      · have := HM.out; omega
      subst e0
      have hkn : k < ks.length := by rw [← HM.out]; exact hlt
      have p0 := hc1 k hkn
      have p1 := hc1 0 (by omega)
      have hmem : ks.getD k 0 ∈ ks := by rw [List.getD_eq_getElem?_getD, List.getElem?_eq_getElem hkn]; exact List.getElem_mem hkn
      have hmem0 : ks.getD 0 0 ∈ ks := by rw [List.getD_eq_getElem?_getD, List.getElem?_eq_getElem (by omega)]; exact List.getElem_mem _
      have hx := HIN.out _ hmem
      have hz := HIN.out _ hmem0
      obtain ⟨x, hxe⟩ : ∃ x : Nat, ks.getD k 0 = x := ⟨(ks.getD k 0).toNat, by omega⟩
      obtain ⟨z, hze⟩ : ∃ z : Nat, ks.getD 0 0 = z := ⟨(ks.getD 0 0).toNat, by omega⟩
      have HD := hid (show ks.drop k = (x : Int) :: ks.drop (k + 1) by
        rw [List.drop_eq_getElem_cons hkn]
        have hz2 := hxe
        rw [List.getD_eq_getElem?_getD, List.getElem?_eq_getElem hkn] at hz2
        rw [← hz2]
        rfl)
      rw [hxe] at p0 hx
      rw [hze, Nat.add_zero] at p1
      rw [hze] at hz
      have HYR := HYX.out.low HBX.out
      have y1 := (HYR.2 x (by omega)).1
      have y2 := (HYR.2 z (by omega)).1
      have hsz : so z = s0 := by rw [HS0.out, hze, Int.toNat_natCast]
      rw [hsz] at y2
      have ⟨x0, x1⟩ := cellsW ((HBX.out.block _ (lt_blk HX.out)).trans HX.out)
      have g1 : (k : Int) < (m : Int) := by omega
      have g1' : (0 : Int) < (m : Int) := by omega
      have g2 : (0 : Int) ≤ (k : Int) := by omega
      have g3 : (x : Int) < (n : Int) := by omega
      have g4 : (0 : Int) ≤ (x : Int) := by omega
      have g5 : (z : Int) < (n : Int) := by omega
      have g6 : (0 : Int) ≤ (z : Int) := by omega
      have hx2 : ((x : Int) * 2).toNat = x * 2 := by omega
      have hz2 : ((z : Int) * 2).toNat = z * 2 := by omega
      obtain ⟨s, hs⟩ : ∃ s, s = so x := ⟨_, rfl⟩
      rw [← hs] at y1
      have HJS := hid (show alO so s0 (ks.drop k) = if s = s0 then alO so s0 (ks.drop (k + 1)) else some (146, (x : Int)) by rw [HD.out, alO, Int.toNat_natCast, hs])
      have HK1 := hid (show k + 1 ≤ m by omega)
      clear hc1 hmem hmem0 hx hz hxe hze hkn hs hsz HYR hb1
      go_upto_region 4 with (fail)
      by_cases hse : s = s0
      · rw [if_pos hse] at HJS
        subst hse
        go_quiet (fail)
        go_wp2_with fail
        refine ⟨⟨k + 1, HK1.out, by go_num, hid (below_drewN HBX.out _), hid (by rw [← HJ.out, HJS.out])⟩, ?_⟩
        have h3 := HK1.out
        simp [intOf]
        omega
      · rw [if_neg hse] at HJS
        have hse' : (s != s0) = true := by simp [hse]
        clear hse
        go_quiet (fail)
        go_wp2_with (go_at_call 66; refine (HFA.out _ _).mono ?_; rintro e w1 ⟨rfl, hf, l1⟩; have HF := hid hf; have L1 := hid l1; clear hf l1)
        go_ret
        have hb9 : Below w.heap.size w _ := bchS HB.out (below_drewN HBX.out nq)
        exact ⟨_, rfl, Or.inr ⟨_, 146, (x : Int), by rw [← HJ.out, HJS.out], rfl, HF.out, hb9.size⟩, bchS hb9 L1.out⟩
    · obtain rfl : k = m := by omega
      have HRES := hid (show alO so s0 ks = none by rw [← HJ.out, HM.out, List.drop_length]; rfl)
      go_wp2_with fail
      go_ret
      exact ⟨.nilIface, rfl, Or.inl ⟨HRES.out, rfl⟩, bchS HB.out HBX.out⟩
end Go.Proofs.YtimmjikpcekffaaGreatDoor.L
