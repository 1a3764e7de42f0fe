import Derived.Test.YtiddnjjaidiohaaGreatDoorSpc
import Derived.Test.YtiddnjjaidiohaaGreatDoorRows
import Derived.Test.YtiddnjjaidiohaaGreatDoorTie
import Derived.Test.YtiddnjjaidiohaaGreatDoorCards
import Derived.Test.YtiddnjjaidiohaaGreatDoorMgAS
import Derived.ProofKit
import Derived.LaidMore
import Derived.LaidLaws
import Derived.LaidSub
import Derived.OpenShut
import Derived.SizedLaws
import Derived.Deep.DeepHandedRow
import Derived.Deep.Slices
import Derived.Lib.SmallJoins
import Derived.Lib.LaidTab
import Derived.SevenTiedAt
import Derived.Test.YtiddnjjaidiohaaGreatDoorMgAL
import Derived.LaidHandle
import Derived.Lay
namespace Go.Proofs.YtiddnjjaidiohaaGreatDoor.L
open Go.RowKit Go.Shelf
set_option linter.unusedVariables false
set_option maxHeartbeats 16000000 in
set_option maxRecDepth 100000 in
theorem sortsparts_any (a b : Option Addr) (A B : List Pt) (ca cb : Nat) (key : ByteArray) (w : World) (hA : PLs w a A) (hB : PLs w b B) (dA : GdT A) (dB : GdT B) (hkA : ∀ j, j < A.length → (pt A j).kids.length ≤ 17592186044000) (hkB : ∀ j, j < B.length → (pt B j).kids.length ≤ 17592186044000) (hg : Gv w) :
    Calls Tryz.prog 5 #[.agg #[.slice a A.length ca], .agg #[.slice b B.length cb], .string key] w fun e w' => e = .returned (.bool true) ∧ Below w.heap.size w w' := by
  have HG := hid hg
  have HA := hid hA
  have HB := hid hB
  have HFX := hid (fun w h => fixed_any w h)
  have HCA := hid (fun W h h2 => copied_xp a A ca W h dA h2 hkA)
  have HCB := hid (fun W h h2 => copied_xp b B cb W h dB h2 hkB)
  have HVA := hid (fun a' cap' W h1 h2 => valid_ok a' A cap' W h1 dA h2)
  have HNA := hid (fun a' cap' W h1 h2 => valid_bad a' A cap' W h1 dA h2)
  have HVB := hid (fun a' cap' W h1 h2 => valid_ok a' B cap' W h1 dB h2)
  have HNB := hid (fun a' cap' W h1 h2 => valid_bad a' B cap' W h1 dB h2)
  obtain ⟨n, hn⟩ : ∃ n, n = A.length := ⟨_, rfl⟩
  obtain ⟨m, hm⟩ : ∃ m, m = B.length := ⟨_, rfl⟩
  have HN := hid hn
  have HM := hid hm
  rw [← hn] at HCA HVA HNA ⊢
  rw [← hm] at HCB HVB HNB ⊢
  have ⟨z1, z2, z3⟩ := alloc2 w (.cells #[.slice a n ca] 26) (.cells #[.slice b m cb] 26)
  have HX1 := hid z1
  have HX2 := hid z2
  have L0 := hid z3
  clear hA hB dA dB hkA hkB hg hn hm z1 z2 z3
  go_enter Tryz.func5, Tryz.ntmps5
  go_upto_region 1 with (fail)
  generalize (w.alloc (.cells #[.slice a n ca] 26)).alloc (.cells #[.slice b m cb] 26) = W0 at *
  generalize w.heap.size + 1 = bb at *
  have HWS := hid (show w.heap.size ≤ w.heap.size from Nat.le_refl _)
  generalize hab : w.heap.size = ab at HX1 ⊢
  have HAB := hid hab
  clear hab
  go_upto_region 3 with (go_at_call 8; refine (HFX.out _ (HG.out.low L0.out)).mono ?_; rintro e w1 ⟨rfl, l1⟩; have L01 := hid l1; clear l1)
  have L1 := hid (bchS L0.out L01.out)
  have Y1 := hid ((L01.out.block _ (lt_blk HX1.out)).trans HX1.out)
  have Y2 := hid ((L01.out.block _ (lt_blk HX2.out)).trans HX2.out)
  have x0 := cell_of_one Y1.out
  have x1 := cell_of_one Y2.out
  clear HX1 HX2
  by_cases h1 : (1000 : Int) < (n : Int)
  · go_wp2_with fail
    go_ret
    exact ⟨rfl, L1.out⟩
  by_cases h2 : (1000 : Int) < (m : Int)
  · go_wp2_with fail
    go_ret
    exact ⟨rfl, L1.out⟩
  have HL1 := hid (show n ≤ 100000 by omega)
  have HL2 := hid (show m ≤ 100000 by omega)
  by_cases hr : Res A 0 0
  · have HR := hid hr
    clear hr
    by_cases hr2 : Res B 0 0
    · have HR2 := hid hr2
      clear hr2
      go_upto_region 5 with (first
        | (go_at_call 15; refine (HVB.out _ _ _ P4.out.pl HR2.out).mono ?_; rintro e w5 ⟨rfl, l5⟩; have L5 := hid (bchS L4.out l5); clear l5)
        | (go_at_call 10; refine (HCB.out _ (HB.out.low (bchS L1.out L3.out)) HL2.out).mono ?_; rintro e w4 ⟨a4, c4, rfl, p4, l4⟩; have P4 := hid p4; have L4 := hid (bchS L3.out l4); clear p4 l4)
        | (go_at_call 15; refine (HVA.out _ _ _ P2.out.pl HR.out).mono ?_; rintro e w3 ⟨rfl, l3⟩; have L3 := hid (bchS L2.out l3); have x2 := cell_of_one ((L3.out.block _ (lt_blk Y2.out)).trans Y2.out); clear l3)
        | (go_at_call 10; refine (HCA.out _ (HA.out.low L1.out) HL1.out).mono ?_; rintro e w2 ⟨a2, c2, rfl, p2, l2⟩; have P2 := hid p2; have L2 := hid l2; clear p2 l2))
      have L15 := hid (bchS L1.out L5.out)
      have Z1 := hid ((L5.out.block _ (lt_blk Y1.out)).trans Y1.out)
      have Z2 := hid ((L5.out.block _ (lt_blk Y2.out)).trans Y2.out)
      clear x0 x1 x2 HCA HCB HVA HNA HVB HNB HFX L01 L2 L3 L4 P2 P4 Y1 Y2
      go_wp2_with fail
      go_loopw [7] (fun i wr => ∃ k : Nat, 2 ≤ k ∧ k ≤ 4 ∧ i = .int .i64 (k : Int) ∧ Hid (Below w5.heap.size w5 wr)) (fun i _ => 4 - (intOf i).toNat)
      case atStart => exact ⟨2, by omega, by omega, rfl, hid (Below.refl _ _)⟩
      case round =>
        obtain ⟨k, hk1, hk2, rfl, HBR⟩ := hrel
        by_cases hk : k = 4
        · subst hk
          go_wp2_with fail
          go_ret
          exact ⟨rfl, bchS L15.out HBR.out⟩
        · have g1 : (k : Int) ≤ 3 := by omega
          have HS := hid (show (k : Int) = 2 ∨ (k : Int) = 3 by omega)
          have HK := hid (show 2 ≤ k + 1 ∧ k + 1 ≤ 4 by omega)
          go_upto_region 8 with (fail)
          refine parts_8 (by assumption) (by kernel_rfl) (by kernel_rfl) (k : Int) wr ab bb n ca m cb a b A B key ((HBR.out.block _ (lt_blk Z1.out)).trans Z1.out) ((HBR.out.block _ (lt_blk Z2.out)).trans Z2.out) HS.out (HA.out.low (bchS L15.out HBR.out)) (HB.out.low (bchS L15.out HBR.out)) HR.out HR2.out HN.out HM.out (HG.out.low (bchS L15.out HBR.out)) (fun c a a' w h => by cases h.2.1) (fun W' => ?_)
          intros
          rename_i l6
          have L6 := hid (bchS HBR.out l6)
          clear l6
          refine ⟨?_, ?_⟩
          all_goals dsimp only
          all_goals go_wp2_with fail
          all_goals (refine ⟨⟨k + 1, HK.out.1, HK.out.2, by go_num, L6⟩, ?_⟩; have h3 := HK.out; simp [intOf]; omega)
    · have HR2 := hid hr2
      clear hr2
      go_wp2_with (first
        | (go_at_call 15; refine (HNB.out _ _ _ P4.out.pl HR2.out).mono ?_; rintro e w5 ⟨Nb, rfl, l5⟩; have L5 := hid (bchS L4.out l5); clear l5; simp only [fv])
        | (go_at_call 10; refine (HCB.out _ (HB.out.low (bchS L1.out L3.out)) HL2.out).mono ?_; rintro e w4 ⟨a4, c4, rfl, p4, l4⟩; have P4 := hid p4; have L4 := hid (bchS L3.out l4); clear p4 l4)
        | (go_at_call 15; refine (HVA.out _ _ _ P2.out.pl HR.out).mono ?_; rintro e w3 ⟨rfl, l3⟩; have L3 := hid (bchS L2.out l3); have x2 := cell_of_one ((L3.out.block _ (lt_blk Y2.out)).trans Y2.out); clear l3)
        | (go_at_call 10; refine (HCA.out _ (HA.out.low L1.out) HL1.out).mono ?_; rintro e w2 ⟨a2, c2, rfl, p2, l2⟩; have P2 := hid p2; have L2 := hid l2; clear p2 l2))
      go_ret
      exact ⟨rfl, bchS L1.out L5.out⟩
  · have HR := hid hr
    clear hr
    go_wp2_with (first
      | (go_at_call 15; refine (HNA.out _ _ _ P2.out.pl HR.out).mono ?_; rintro e w3 ⟨Na, rfl, l3⟩; have L3 := hid (bchS L2.out l3); clear l3; simp only [fv])
      | (go_at_call 10; refine (HCA.out _ (HA.out.low L1.out) HL1.out).mono ?_; rintro e w2 ⟨a2, c2, rfl, p2, l2⟩; have P2 := hid p2; have L2 := hid l2; clear p2 l2))
    go_ret
    exact ⟨rfl, bchS L1.out L3.out⟩
end Go.Proofs.YtiddnjjaidiohaaGreatDoor.L
namespace Go.Proofs.YtiddnjjaidiohaaGreatDoor.L
open Go.ChangeShapes Go.WideShapes Go.ChangeAt Go.RowKit Go.Joins
set_option linter.unusedVariables false
theorem own : ownKnob Tryz.prog.godebug = none := by kernel_rfl
theorem reach_num : reachBytes = 140737488351232 := by kernel_rfl
theorem laidOut : laidOutB Tryz.prog = true := by kernel_rfl
theorem cells9 : Tryz.prog.cellsOf 9 = 1 := by kernel_rfl
theorem cells3 : Tryz.prog.cellsOf 3 = 1 := by kernel_rfl
theorem cellsK : Tryz.prog.cellsOf 55 = 1 := by kernel_rfl
theorem cellsI : Tryz.prog.cellsOf 58 = 1 := by kernel_rfl
theorem cellsL : Tryz.prog.cellsOf 24 = 1 := by kernel_rfl
theorem cellsPt : Tryz.prog.cellsOf 60 = 4 := by kernel_rfl
theorem cellsTr : Tryz.prog.cellsOf 26 = 1 := by kernel_rfl
theorem bytes3 : Tryz.prog.bytesOf 3 = 8 := by kernel_rfl
theorem bytesPt : Tryz.prog.bytesOf 60 = 56 := by kernel_rfl
theorem readT : Tryz.prog.readableRec 26 = true := by kernel_rfl
theorem rowT : 26 < Tryz.prog.types.size := of_decide_eq_true (by kernel_rfl)
theorem all_le {l : List Nat} {n : Nat} (h : l.all (fun x => decide (x ≤ n)) = true) {x : Nat} (hx : x ∈ l) : x ≤ n := by
  have := List.all_eq_true.1 h x hx
  simpa using this
theorem block_lt {w : World} {b o : Nat} {v : Value} (h : w.cell? ⟨b, o, none⟩ = some v) : b < w.heap.size := by
  apply Classical.byContradiction
  intro n
  have : w.heap[b]? = none := Array.getElem?_eq_none (by omega)
  simp [World.cell?, this] at h
theorem mem_all {H : Type} {P : Program} {e : TypeId} {ds : List (DataW H)} {d : DataW H} (h : d ∈ ds) {x : Nat} (hx : x ∈ d.weights P e) : x ∈ DataW.weightsAll P e ds := by
  induction ds with
  | nil => cases h
  | cons y r ih =>
    rw [DataW.weightsAll, List.mem_append]
    rcases List.mem_cons.1 h with rfl | h
    · exact Or.inl hx
    · exact Or.inr (ih h)
/-- A list of kids that came in, opened. -/
theorem kids_open {H : Type} {enc : TypeId × Value → H} {W : World} {fuel : Nat} {v : Value} {d : DataW H} {p : List MemPlace} (h : DataW.trod enc Tryz.prog W 0 (fun _ => true) true fuel 58 [v] = some (d, p))
    (hk : ∀ x ∈ d.weights Tryz.prog 58, x ≤ reachBytes) : ∃ (a : Option Addr) (zs : List Int) (cap : Nat), v = .slice a zs.length cap ∧ RdI W a zs ∧ (a = none → cap = 0) ∧ zs.length ≤ 140737488355328 := by
  rcases Go.Deep.open_slice Tryz.underlying58 h with ⟨hv, hx⟩ | ⟨a, len, cap, m, n, D, Pl, hv, hb, hl, hm, hmm, hx, hc⟩
  · simp at hv
    exact ⟨none, [], 0, hv, Or.inl rfl, fun _ => rfl, by simp⟩
  · simp at hv
    simp at hmm
    rw [cells3] at hc
    have hx1 := congrArg Prod.fst hx
    simp only at hx1
    have hbytes : len ≤ 140737488355328 := by
      subst hmm
      have := hk (m * 8) (by rw [hx1]; simp [DataW.weights, Tryz.underlying58, bytes3]; left; omega)
      rw [reach_num] at this
      omega
    have key : ∀ i, i < len → ∃ s : Int, W.cell? (a.add i) = some (.int .i64 s) := by
      intro i hi
      obtain ⟨cs', h1, h2⟩ := hc i (by omega)
      obtain ⟨s, e1, e2, _⟩ := DataW.trod_int Tryz.underlying3 h2
      subst e1
      obtain ⟨_, _, hcell⟩ := World.cells?_some h1
      have h0 := hcell 0 (by omega)
      refine ⟨s, ?_⟩
      have e0 : ((a.add (i * 1)).add 0) = a.add i := by rw [Nat.mul_one]; unfold Addr.add; simp
      rw [e0] at h0
      simpa using h0
    obtain ⟨q, hq⟩ := Go.Deep.choose_lt key
    refine ⟨some a, (List.range len).map q, cap, by simpa using hv, ?_, (fun e => by cases e), by simpa using hbytes⟩
    by_cases h0 : len = 0
    · exact Or.inl (by simpa using h0)
    right
    obtain ⟨b, off, spot⟩ := a
    have k0 := hq 0 (by omega)
    have hspot : spot = none := by simpa [Addr.add] using World.cell?_spot k0
    subst hspot
    refine ⟨b, off, rfl, ?_, fun j hj => ?_⟩
    · rw [Go.WideShapes.add_plain] at k0
      exact block_lt k0
    · have hj' : j < len := by simpa using hj
      have := hq j hj'
      rw [Go.WideShapes.add_plain] at this
      rw [this]
      simp [List.getD_eq_getElem?_getD, List.getElem?_range hj']
set_option maxRecDepth 100000 in
set_option maxHeartbeats 1000000 in
theorem parts_open {H : Type} {enc : TypeId × Value → H} {W : World} {fuel : Nat} {v : Value} {y : DataW H × List MemPlace} (h : DataW.trod enc Tryz.prog W 0 (fun _ => true) true fuel 24 [v] = some y)
    (hsz : ∀ x ∈ y.1.weights Tryz.prog 24, x ≤ reachBytes) : ∃ (a : Option Addr) (T : List Pt) (cap : Nat), v = .slice a T.length cap ∧ PLs W a T ∧ GdT T := by
  rcases Go.Deep.open_slice Tryz.underlying24 h with ⟨hv, hx⟩ | ⟨a, len, cap, m, n, D, Pl, hv, hb, hl, hm, hmm, hx, hc⟩
  · simp at hv
    exact ⟨none, [], 0, hv, Or.inl rfl, by decide, fun j hj => absurd hj (Nat.not_lt_zero j)⟩
  · simp at hv
    simp at hmm
    rw [cellsPt] at hc
    have hx1 := congrArg Prod.fst hx
    simp only at hx1
    have hbytes : len ≤ 140737488355328 := by
      subst hmm
      have := hsz (m * 56) (by rw [hx1]; simp [DataW.weights, Tryz.underlying24, bytesPt]; left; omega)
      rw [reach_num] at this
      omega
    have hin : ∀ i, i < len → ∀ x ∈ (D i).weights Tryz.prog 60, x ≤ reachBytes := by
      intro i hi x hxx
      refine hsz x ?_
      rw [hx]
      have := mem_all (P := Tryz.prog) (e := 60) (ds := (List.range len).map D) (List.mem_map.2 ⟨i, List.mem_range.2 hi, rfl⟩) hxx
      simp only [DataW.weights, Tryz.underlying24]
      exact List.mem_cons_of_mem _ (List.mem_append_left _ this)
    have key : ∀ i, i < len → ∃ (q : Pt), ∃ (ka : Option Addr) (kc : Nat), W.cell? (a.add (i * 4)) = some (.int .i64 q.kind) ∧ W.cell? (a.add (i * 4 + 1)) = some (.string q.text) ∧ W.cell? (a.add (i * 4 + 2)) = some (.int .i64 q.num) ∧
        W.cell? (a.add (i * 4 + 3)) = some (.slice ka q.kids.length kc) ∧ RdI W ka q.kids ∧ (ka = none → kc = 0) ∧ q.kids.length ≤ 140737488355328 := by
      intro i hi
      obtain ⟨cs', h1, h2⟩ := hc i (by omega)
      obtain ⟨_, hlen, hcell⟩ := World.cells?_some h1
      obtain ⟨xs, k, hk, hxy, _, hxl, hf⟩ := DataW.trod_struct Tryz.underlying60 h2
      have hw := hin i hi
      match xs, hxl, cs', hlen with
      | [y0, y1, y2, y3], _, [v0, v1, v2, v3], _ =>
        have g0 := hf 0 _ rfl
        have g1 := hf 1 _ rfl
        have g2 := hf 2 _ rfl
        have g3 := hf 3 _ rfl
        simp [cells3, cells9, cellsK, cellsI] at g0 g1 g2 g3
        have hD : D i = .agg [y0.1, y1.1, y2.1, y3.1] := congrArg Prod.fst hxy
        rw [hD] at hw
        simp only [DataW.weights, Tryz.underlying60] at hw
        obtain ⟨p, e0, _, w0⟩ := DataW.trod_int Tryz.underlying55 g0
        obtain ⟨s, e1, _, w1⟩ := DataW.trod_string Tryz.underlying9 g1
        obtain ⟨q, e2, _, w2⟩ := DataW.trod_int Tryz.underlying3 g2
        simp at e0 e1 e2
        subst e0 e1 e2
        obtain ⟨ka, zs, kc, rfl, r1, r2, r3⟩ := kids_open (d := y3.1) (p := y3.2) g3 (fun x hx => hw x (by simp [DataW.weightsEach, hx]))
        have f0 := hcell 0 (by omega)
        have f1 := hcell 1 (by omega)
        have f2 := hcell 2 (by omega)
        have f3 := hcell 3 (by omega)
        rw [Go.Deep.add_add] at f0 f1 f2 f3
        exact ⟨⟨p, s, q, zs⟩, ka, kc, by simpa using f0, by simpa using f1, by simpa using f2, by simpa using f3, r1, r2, r3⟩
    haveI : Inhabited Pt := ⟨⟨0, ⟨#[]⟩, 0, []⟩⟩
    obtain ⟨q, hq⟩ := Go.Deep.choose_lt key
    have hlen : ((List.range len).map q).length = len := by simp
    have hget : ∀ j, j < len → pt ((List.range len).map q) j = q j := by
      intro j hj
      simp [pt, List.getD_eq_getElem?_getD, List.getElem?_range hj]
    refine ⟨some a, (List.range len).map q, cap, by rw [hlen]; exact hv, ?_, by rw [hlen]; exact hbytes, fun j hj => ?_⟩
    · by_cases h0 : len = 0
      · exact Or.inl (by rw [hlen]; exact h0)
      right
      obtain ⟨b, off, spot⟩ := a
      obtain ⟨_, _, k0, _⟩ := hq 0 (by omega)
      have hspot : spot = none := by simpa [Addr.add] using World.cell?_spot k0
      subst hspot
      refine ⟨b, off, rfl, ?_, fun j hj => ?_⟩
      · rw [Go.WideShapes.add_plain] at k0
        exact block_lt k0
      · rw [hlen] at hj
        obtain ⟨ka, kc, a0, a1, a2, a3, r1, r2, r3⟩ := hq j hj
        rw [Go.WideShapes.add_plain] at a0 a1 a2 a3
        rw [hget j hj]
        exact ⟨ka, kc, a0, by rw [Nat.add_assoc]; exact a1, by rw [Nat.add_assoc]; exact a2, by rw [Nat.add_assoc]; exact a3, r1, r2⟩
    · rw [hlen] at hj
      obtain ⟨ka, kc, a0, a1, a2, a3, r1, r2, r3⟩ := hq j hj
      rw [hget j hj]
      exact r3
set_option maxRecDepth 100000 in
theorem tree_arg {H : Type} {enc : TypeId × Value → H} {W : World} {base : Nat} {v : Value} {d : DataW H} {p : List MemPlace} (hv : Value.okWide Tryz.prog W .any base 26 v) (h : DataW.Trod enc Tryz.prog W 0 (fun _ => true) true 26 v d p)
    (hsz : ∀ x ∈ d.weights Tryz.prog 26, x ≤ reachBytes) : ∃ (a : Option Addr) (T : List Pt) (cap : Nat), v = .agg #[.slice a T.length cap] ∧ PLs W a T ∧ GdT T := by
  obtain ⟨cs, rfl, hcs⟩ := okWide_struct Tryz.underlying26 hv
  obtain ⟨fuel, hf⟩ := h
  have hf' : DataW.trod enc Tryz.prog W 0 (fun _ => true) true fuel 26 cs.toList = some (d, p) := by simpa [Value.cells] using hf
  obtain ⟨y0, n, hx, hl, hy⟩ := trod_struct1 Tryz.underlying26 hf'
  rw [cellsTr] at hl
  have hd : d = .agg [y0.1] := congrArg Prod.fst hx
  match hcl : cs.toList, hl with
  | [c0], _ =>
    rw [hcl] at hy
    simp [cellsL] at hy
    obtain ⟨a, T, cap, rfl, h1, h2⟩ := parts_open hy (fun x hxx => hsz x (by rw [hd]; simp [DataW.weights, DataW.weightsEach, Tryz.underlying26, hxx]))
    refine ⟨a, T, cap, ?_, h1, h2⟩
    congr 1
    apply Array.ext'
    rw [hcl]
end Go.Proofs.YtiddnjjaidiohaaGreatDoor.L
namespace Go.Proofs.YtiddnjjaidiohaaGreatDoor.L
open Go.ChangeShapes Go.WideShapes Go.ChangeAt Go.RowKit Go.Joins
set_option linter.unusedVariables false
/-- A list of kids that came in, opened. -/
theorem kids_open2 {H : Type} {enc : TypeId × Value → H} {W : World} {fuel : Nat} {v : Value} {d : DataW H} {p : List MemPlace} (h : DataW.trod enc Tryz.prog W 0 (fun _ => true) true fuel 58 [v] = some (d, p))
    (hk : ∀ x ∈ d.weights Tryz.prog 58, x ≤ reachBytes) : ∃ (a : Option Addr) (zs : List Int) (cap : Nat), v = .slice a zs.length cap ∧ RdI W a zs ∧ (a = none → cap = 0) ∧ zs.length ≤ 17592186044000 := by
  rcases Go.Deep.open_slice Tryz.underlying58 h with ⟨hv, hx⟩ | ⟨a, len, cap, m, n, D, Pl, hv, hb, hl, hm, hmm, hx, hc⟩
  · simp at hv
    exact ⟨none, [], 0, hv, Or.inl rfl, fun _ => rfl, by simp⟩
  · simp at hv
    simp at hmm
    rw [cells3] at hc
    have hx1 := congrArg Prod.fst hx
    simp only at hx1
    have hbytes : len ≤ 17592186044000 := by
      subst hmm
      have := hk (m * 8) (by rw [hx1]; simp [DataW.weights, Tryz.underlying58, bytes3]; left; omega)
      rw [reach_num] at this
      omega
    have key : ∀ i, i < len → ∃ s : Int, W.cell? (a.add i) = some (.int .i64 s) := by
      intro i hi
      obtain ⟨cs', h1, h2⟩ := hc i (by omega)
      obtain ⟨s, e1, e2, _⟩ := DataW.trod_int Tryz.underlying3 h2
      subst e1
      obtain ⟨_, _, hcell⟩ := World.cells?_some h1
      have h0 := hcell 0 (by omega)
      refine ⟨s, ?_⟩
      have e0 : ((a.add (i * 1)).add 0) = a.add i := by rw [Nat.mul_one]; unfold Addr.add; simp
      rw [e0] at h0
      simpa using h0
    obtain ⟨q, hq⟩ := Go.Deep.choose_lt key
    refine ⟨some a, (List.range len).map q, cap, by simpa using hv, ?_, (fun e => by cases e), by simpa using hbytes⟩
    by_cases h0 : len = 0
    · exact Or.inl (by simpa using h0)
    right
    obtain ⟨b, off, spot⟩ := a
    have k0 := hq 0 (by omega)
    have hspot : spot = none := by simpa [Addr.add] using World.cell?_spot k0
    subst hspot
    refine ⟨b, off, rfl, ?_, fun j hj => ?_⟩
    · rw [Go.WideShapes.add_plain] at k0
      exact block_lt k0
    · have hj' : j < len := by simpa using hj
      have := hq j hj'
      rw [Go.WideShapes.add_plain] at this
      rw [this]
      simp [List.getD_eq_getElem?_getD, List.getElem?_range hj']
set_option maxRecDepth 100000 in
set_option maxHeartbeats 1000000 in
theorem parts_open2 {H : Type} {enc : TypeId × Value → H} {W : World} {fuel : Nat} {v : Value} {y : DataW H × List MemPlace} (h : DataW.trod enc Tryz.prog W 0 (fun _ => true) true fuel 24 [v] = some y)
    (hsz : ∀ x ∈ y.1.weights Tryz.prog 24, x ≤ reachBytes) : ∃ (a : Option Addr) (T : List Pt) (cap : Nat), v = .slice a T.length cap ∧ PLs W a T ∧ GdT T ∧ ∀ j, j < T.length → (pt T j).kids.length ≤ 17592186044000 := by
  rcases Go.Deep.open_slice Tryz.underlying24 h with ⟨hv, hx⟩ | ⟨a, len, cap, m, n, D, Pl, hv, hb, hl, hm, hmm, hx, hc⟩
  · simp at hv
    exact ⟨none, [], 0, hv, Or.inl rfl, ⟨by decide, fun j hj => absurd hj (Nat.not_lt_zero j)⟩, fun j hj => absurd hj (Nat.not_lt_zero j)⟩
  · simp at hv
    simp at hmm
    rw [cellsPt] at hc
    have hx1 := congrArg Prod.fst hx
    simp only at hx1
    have hbytes : len ≤ 140737488355328 := by
      subst hmm
      have := hsz (m * 56) (by rw [hx1]; simp [DataW.weights, Tryz.underlying24, bytesPt]; left; omega)
      rw [reach_num] at this
      omega
    have hin : ∀ i, i < len → ∀ x ∈ (D i).weights Tryz.prog 60, x ≤ reachBytes := by
      intro i hi x hxx
      refine hsz x ?_
      rw [hx]
      have := mem_all (P := Tryz.prog) (e := 60) (ds := (List.range len).map D) (List.mem_map.2 ⟨i, List.mem_range.2 hi, rfl⟩) hxx
      simp only [DataW.weights, Tryz.underlying24]
      exact List.mem_cons_of_mem _ (List.mem_append_left _ this)
    have key : ∀ i, i < len → ∃ (q : Pt), ∃ (ka : Option Addr) (kc : Nat), W.cell? (a.add (i * 4)) = some (.int .i64 q.kind) ∧ W.cell? (a.add (i * 4 + 1)) = some (.string q.text) ∧ W.cell? (a.add (i * 4 + 2)) = some (.int .i64 q.num) ∧
        W.cell? (a.add (i * 4 + 3)) = some (.slice ka q.kids.length kc) ∧ RdI W ka q.kids ∧ (ka = none → kc = 0) ∧ q.kids.length ≤ 17592186044000 := by
      intro i hi
      obtain ⟨cs', h1, h2⟩ := hc i (by omega)
      obtain ⟨_, hlen, hcell⟩ := World.cells?_some h1
      obtain ⟨xs, k, hk, hxy, _, hxl, hf⟩ := DataW.trod_struct Tryz.underlying60 h2
      have hw := hin i hi
      match xs, hxl, cs', hlen with
      | [y0, y1, y2, y3], _, [v0, v1, v2, v3], _ =>
        have g0 := hf 0 _ rfl
        have g1 := hf 1 _ rfl
        have g2 := hf 2 _ rfl
        have g3 := hf 3 _ rfl
        simp [cells3, cells9, cellsK, cellsI] at g0 g1 g2 g3
        have hD : D i = .agg [y0.1, y1.1, y2.1, y3.1] := congrArg Prod.fst hxy
        rw [hD] at hw
        simp only [DataW.weights, Tryz.underlying60] at hw
        obtain ⟨p, e0, _, w0⟩ := DataW.trod_int Tryz.underlying55 g0
        obtain ⟨s, e1, _, w1⟩ := DataW.trod_string Tryz.underlying9 g1
        obtain ⟨q, e2, _, w2⟩ := DataW.trod_int Tryz.underlying3 g2
        simp at e0 e1 e2
        subst e0 e1 e2
        obtain ⟨ka, zs, kc, rfl, r1, r2, r3⟩ := kids_open2 (d := y3.1) (p := y3.2) g3 (fun x hx => hw x (by simp [DataW.weightsEach, hx]))
        have f0 := hcell 0 (by omega)
        have f1 := hcell 1 (by omega)
        have f2 := hcell 2 (by omega)
        have f3 := hcell 3 (by omega)
        rw [Go.Deep.add_add] at f0 f1 f2 f3
        exact ⟨⟨p, s, q, zs⟩, ka, kc, by simpa using f0, by simpa using f1, by simpa using f2, by simpa using f3, r1, r2, r3⟩
    haveI : Inhabited Pt := ⟨⟨0, ⟨#[]⟩, 0, []⟩⟩
    obtain ⟨q, hq⟩ := Go.Deep.choose_lt key
    have hlen : ((List.range len).map q).length = len := by simp
    have hget : ∀ j, j < len → pt ((List.range len).map q) j = q j := by
      intro j hj
      simp [pt, List.getD_eq_getElem?_getD, List.getElem?_range hj]
    have hkk : ∀ j, j < ((List.range len).map q).length → (pt ((List.range len).map q) j).kids.length ≤ 17592186044000 := fun j hj => by
      rw [hlen] at hj
      obtain ⟨ka, kc, a0, a1, a2, a3, r1, r2, r3⟩ := hq j hj
      rw [hget j hj]
      exact r3
    refine ⟨some a, (List.range len).map q, cap, by rw [hlen]; exact hv, ?_, ⟨by rw [hlen]; exact hbytes, fun j hj => Nat.le_trans (hkk j hj) (by decide)⟩, hkk⟩
    · by_cases h0 : len = 0
      · exact Or.inl (by rw [hlen]; exact h0)
      right
      obtain ⟨b, off, spot⟩ := a
      obtain ⟨_, _, k0, _⟩ := hq 0 (by omega)
      have hspot : spot = none := by simpa [Addr.add] using World.cell?_spot k0
      subst hspot
      refine ⟨b, off, rfl, ?_, fun j hj => ?_⟩
      · rw [Go.WideShapes.add_plain] at k0
        exact block_lt k0
      · rw [hlen] at hj
        obtain ⟨ka, kc, a0, a1, a2, a3, r1, r2, r3⟩ := hq j hj
        rw [Go.WideShapes.add_plain] at a0 a1 a2 a3
        rw [hget j hj]
        exact ⟨ka, kc, a0, by rw [Nat.add_assoc]; exact a1, by rw [Nat.add_assoc]; exact a2, by rw [Nat.add_assoc]; exact a3, r1, r2⟩
set_option maxRecDepth 100000 in
theorem tree_arg2 {H : Type} {enc : TypeId × Value → H} {W : World} {base : Nat} {v : Value} {d : DataW H} {p : List MemPlace} (hv : Value.okWide Tryz.prog W .any base 26 v) (h : DataW.Trod enc Tryz.prog W 0 (fun _ => true) true 26 v d p)
    (hsz : ∀ x ∈ d.weights Tryz.prog 26, x ≤ reachBytes) : ∃ (a : Option Addr) (T : List Pt) (cap : Nat), v = .agg #[.slice a T.length cap] ∧ PLs W a T ∧ GdT T ∧ ∀ j, j < T.length → (pt T j).kids.length ≤ 17592186044000 := by
  obtain ⟨cs, rfl, hcs⟩ := okWide_struct Tryz.underlying26 hv
  obtain ⟨fuel, hf⟩ := h
  have hf' : DataW.trod enc Tryz.prog W 0 (fun _ => true) true fuel 26 cs.toList = some (d, p) := by simpa [Value.cells] using hf
  obtain ⟨y0, n, hx, hl, hy⟩ := trod_struct1 Tryz.underlying26 hf'
  rw [cellsTr] at hl
  have hd : d = .agg [y0.1] := congrArg Prod.fst hx
  match hcl : cs.toList, hl with
  | [c0], _ =>
    rw [hcl] at hy
    simp [cellsL] at hy
    obtain ⟨a, T, cap, rfl, h1, h2⟩ := parts_open2 hy (fun x hxx => hsz x (by rw [hd]; simp [DataW.weights, DataW.weightsEach, Tryz.underlying26, hxx]))
    refine ⟨a, T, cap, ?_, h1, h2⟩
    congr 1
    apply Array.ext'
    rw [hcl]
end Go.Proofs.YtiddnjjaidiohaaGreatDoor.L
namespace Go.Proofs.YtiddnjjaidiohaaGreatDoor.L
open Go.RowKit Go.Shelf
set_option linter.unusedVariables false
theorem sortsparts_c (a : Option Addr) (A : List Pt) (ca : Nat) (b : Option Addr) (B : List Pt) (cb : Nat) (key : ByteArray) (w : World) (hA : PLs w a A) (dA : GdT A ∧ ∀ j, j < A.length → (pt A j).kids.length ≤ 17592186044000) (hB : PLs w b B) (dB : GdT B ∧ ∀ j, j < B.length → (pt B j).kids.length ≤ 17592186044000) (hg : Gv w) (hs : key.size ≤ 140737488351232) :
    Calls Tryz.prog 5 #[.agg #[.slice a A.length ca], .agg #[.slice b B.length cb], .string key] w fun e w' => e = .returned (.bool true) ∧ Below w.heap.size w w' :=
  sortsparts_any a b A B ca cb key w hA hB dA.1 dB.1 dA.2 dB.2 hg
end Go.Proofs.YtiddnjjaidiohaaGreatDoor.L
namespace Go.Proofs.YtiddnjjaidiohaaGreatDoor.L
open Go.ChangeShapes Go.WideShapes Go.ChangeAt Go.RowKit Go.Joins
set_option linter.unusedVariables false
theorem etN : Tryz.prog.globalNamed "errors.errorType" = some 0 := by kernel_rfl
theorem rtN : (Tryz.prog.cutTypes.find? (·.1 == "internal/reflectlite.rtype")).map (·.2) = some 115 := by kernel_rfl
theorem oneRow : ((List.range 201).filter fun t => Tryz.prog.rowNamed t [101, 114, 114, 111, 114]) = [37] := by kernel_rfl
theorem sizeN : Tryz.prog.types.size = 201 := by kernel_rfl
theorem gv_laid {W : World} {laid : List (String × DataW Unit)} (h : laidMetH Tryz.prog laid W) (e : (laid.filter fun x => x.2.handleName?.isSome) = [("errors.errorType", Rows.laid_errors_errorType)]) : Gv W := by
  unfold laidMetH at h
  rw [e] at h
  have h2 := h.2 _ (List.mem_singleton.2 rfl)
  have h3 : ∃ name u ty, (Rows.laid_errors_errorType : DataW Unit).handleName? = some name ∧ (Tryz.prog.cutTypes.find? (·.1 == "internal/reflectlite.rtype")).map (·.2) = some u ∧ ty < Tryz.prog.types.size ∧ Tryz.prog.rowNamed ty name = true ∧ W.var? Tryz.prog "errors.errorType" = some #[.iface u (.agg #[typeHandle Tryz.prog ty])] := h2
  obtain ⟨name, u, ty, e1, e2, e3, e4, e5⟩ := h3
  have en : name = [101, 114, 114, 111, 114] := (Option.some.inj e1).symm
  subst en
  obtain rfl := Option.some.inj (rtN.symm.trans e2)
  have hm : ty ∈ (List.range 201).filter fun t => Tryz.prog.rowNamed t [101, 114, 114, 111, 114] := List.mem_filter.2 ⟨List.mem_range.2 (by rw [← sizeN]; exact e3), e4⟩
  rw [oneRow] at hm
  obtain rfl := List.mem_singleton.1 hm
  have hh : typeHandle Tryz.prog 37 = .pointer (some ⟨4, 37, none⟩) := by kernel_rfl
  rw [hh] at e5
  simpa [Gv] using World.var?_cell etN e5 0
theorem laidMet_on {P : Program} {w0 : World} {laid : List (String × DataW Unit)} (args : Array Value) (hf : w0.layFits P laid [] = true) (hi : w0.layIfaces P laid (w0.layVars P laid) = true) :
    laidMet P laid ((w0.layVars P laid).forCall (fun _ _ => 0) ⟨#[], args, []⟩).memory := by
  have e1 : (laid.filter fun x => (laid.map (·.1)).contains x.1) = laid := List.filter_eq_self.2 fun x hx => List.contains_iff_mem.2 (List.mem_map.2 ⟨x, hx, rfl⟩)
  have e2 : (laid.filter fun x => !(laid.map (·.1)).contains x.1) = [] := List.filter_eq_nil_iff.2 fun x hx => by rw [List.contains_iff_mem.2 (List.mem_map.2 ⟨x, hx, rfl⟩)]; simp
  have h : laidMet P laid (w0.layVars P laid) := laidMet_layVars (w0 := w0) (laid.map (·.1)) [] (by rw [e1]) (by rw [e1]; exact hf) (by rw [e1]; exact hi) (by rw [e2]; exact LaidIn.none)
  exact h.of_heap (by simp [World.memory, World.forCall, Input.heap])
end Go.Proofs.YtiddnjjaidiohaaGreatDoor.L
