import Derived.Test.YtnclpdgbjefpmaaE4
namespace Go.Proofs.Ytnclpdgbjefpmaa.L
open Go.RowKit
set_option linter.unusedVariables false
set_option linter.unusedSimpArgs false
def optP (u : Bool) (B : List UInt8) (k : Nat) : DR Int := if u = true then dbnd (cntD B k 0 65535 9 0 k 0) (fun n k1 => .ok ((n : Int), k1)) else .ok (0, k)
theorem optC_P (u : Bool) (B : List UInt8) (k : Nat) : (optC u).P B k = optP u B k := by
  unfold optC optP
  cases u <;> rfl
/-- The operands from the j-th on. -/
def insR (B : List UInt8) (o : Int) (q0 q1 q2 : Bool) : Nat → Int → Int → Int → Nat → DR Ins
  | 0, _, _, _, k => dbnd (optP q0 B k) fun x k => dbnd (optP q1 B k) fun y k => dbnd (optP q2 B k) fun z k => .ok (⟨o, x, y, z⟩, k)
  | 1, x, _, _, k => dbnd (optP q1 B k) fun y k => dbnd (optP q2 B k) fun z k => .ok (⟨o, x, y, z⟩, k)
  | 2, x, y, _, k => dbnd (optP q2 B k) fun z k => .ok (⟨o, x, y, z⟩, k)
  | _, x, y, z, k => .ok (⟨o, x, y, z⟩, k)
theorem dbnd_asc {α β γ : Type} (r : DR α) (f : α → Nat → DR β) (h : β → Nat → DR γ) : dbnd (dbnd r f) h = dbnd r fun a k => dbnd (f a k) h := by
  cases r <;> rfl
theorem insC_P (B : List UInt8) (k : Nat) : insC.P B k = if k < B.length then (if (B.getD k 0).toNat < 1 ∨ 36 < (B.getD k 0).toNat then .error (203, k) else insR B ((B.getD k 0).toNat : Int) (us ((B.getD k 0).toNat : Int)).1 (us ((B.getD k 0).toNat : Int)).2.1 (us ((B.getD k 0).toNat : Int)).2.2 0 0 0 0 (k + 1)) else .error (201, k) := by
  show dbnd (dbnd (if k < B.length then (if (B.getD k 0).toNat < 1 ∨ 36 < (B.getD k 0).toNat then .error (203, k) else .ok (B.getD k 0, k + 1)) else .error (201, k)) fun o k1 => dbnd (dbnd ((optC (us (o.toNat : Int)).1).P B k1) fun x k2 => dbnd (dbnd ((optC (us (o.toNat : Int)).2.1).P B k2) fun y k3 => dbnd ((optC (us (o.toNat : Int)).2.2).P B k3) fun z k4 => .ok ((y, z), k4)) fun yz k4 => .ok ((x, yz), k4)) fun xyz k4 => .ok ((o, xyz), k4)) (fun (t : UInt8 × Int × Int × Int) k4 => (.ok ((⟨(t.1.toNat : Int), t.2.1, t.2.2.1, t.2.2.2⟩ : Ins), k4) : DR Ins)) = _
  split
  · split
    · rfl
    · simp only [dbnd_ok, dbnd_asc, optC_P, insR]
  · rfl
theorem gb_new {g ob j : Nat} {W W1 : World} {cs : Array Value} {t : TypeId} {v : Value} (h : Gb g W W1) (hb : W1.heap[ob]? = some (.cells cs t (0, 0))) (hn : W.heap.size ≤ ob) : Gb g W (W1.setCell ⟨ob, j, none⟩ v) := by
  rw [setCell_eq_setRow _ _ _ _ _ _ _ hb]
  exact ⟨h.os, h.tape, h.output, by rw [setRow_size]; exact h.size, fun k hk hg => (setRow_other _ _ _ _ (by omega)).trans (h.block k hk hg)⟩
theorem rm_new {g ob j : Nat} {a : Option Addr} {cap : Nat} {B : List UInt8} {W1 : World} {k room : Nat} {cs : Array Value} {t : TypeId} {v : Value} (h : Rm g a cap B W1 k room) (hb : W1.heap[ob]? = some (.cells cs t (0, 0))) (hn : g < ob) : Rm g a cap B (W1.setCell ⟨ob, j, none⟩ v) k room := by
  have e : ∀ q, q ≤ g → (W1.setCell ⟨ob, j, none⟩ v).heap[q]? = W1.heap[q]? := fun q hq => by
    rw [setCell_eq_setRow _ _ _ _ _ _ _ hb]
    exact setRow_other _ _ _ _ (by omega)
  refine ⟨(e g (Nat.le_refl _)).trans h.box, ?_, h.low, h.le, h.len, h.rm, h.cpl, h.cpm⟩
  rcases h.row with h0 | ⟨b, off, rfl, h1⟩
  · exact Or.inl h0
  · refine Or.inr ⟨b, off, rfl, fun j hj => ?_⟩
    have h3 := h.low b off none rfl
    exact (World.cell?_of_block (a := ⟨b, off + j, none⟩) (e b (by omega))).trans (h1 j hj)
theorem infoIn : (Try.prog.info? 68).map (·.size) = some 4 := by kernel_rfl
set_option maxHeartbeats 2000000 in
set_option maxRecDepth 100000 in
theorem rinstr_any {g : Nat} {a : Option Addr} {cap : Nat} {B : List UInt8} {W : World} {k room : Nat} (h : Rm g a cap B W k room) :
    Calls Try.prog 83 #[.pointer (some ⟨g, 0, none⟩)] W (Ro (α := Ins) g a cap B (fun _ => room) (fun (i : Ins) v _ => v = .agg (insV i)) (insC.P B k) W) := by
  obtain ⟨res, hres⟩ : ∃ r, r = insC.P B k := ⟨_, rfl⟩
  rw [← hres]
  rw [insC_P] at hres
  have HLT := hid (show g < W.heap.size from lt_blk h.box)
  have HB0 := hid (belowA W (.cells #[.int .i64 0, .int .i64 0, .int .i64 0, .int .i64 0] 68))
  have HX0 := hid (heap_alloc_new W (.cells #[.int .i64 0, .int .i64 0, .int .i64 0, .int .i64 0] 68))
  have HR0 := hid (h.low' HB0.out)
  clear h
  go_enter Try.func83, Try.ntmps83
  go_upto_region 1 with fail
  obtain ⟨V, hV⟩ : ∃ V, V = W.alloc (.cells #[.int .i64 0, .int .i64 0, .int .i64 0, .int .i64 0] 68) := ⟨_, rfl⟩
  rw [← hV] at HB0 HX0 HR0 ⊢
  clear hV
  obtain ⟨rb, hrb⟩ : ∃ rb, rb = W.heap.size := ⟨_, rfl⟩
  rw [← hrb] at HX0 ⊢
  have HRB := hid hrb
  clear hrb
  have c1 : V.cell? ⟨g, 1, none⟩ = some (.int .i64 (k : Int)) := cell_of_row _ _ 1 _ _ _ HR0.out.box
  have HT := hid (take_any HR0.out)
  unfold tkP at HT
  have HG := hid (fun w => giveup_any 203 k w)
  by_cases hkl : k < B.length
  · rw [if_pos hkl] at HT hres
    obtain ⟨c, hc⟩ : ∃ c, c = B.getD k 0 := ⟨_, rfl⟩
    rw [← hc] at HT hres
    obtain ⟨m, hm⟩ : ∃ m, m = c.toNat := ⟨_, rfl⟩
    have hm2 : m < 256 := by rw [hm]; exact c.toNat_lt
    have HIV := hid (show iv c = (m : Int) from by unfold iv; rw [hm])
    rw [← hm] at hres
    clear hc hm hkl
    have HWI := hid (fun w => within_any (m : Int) 1 36 w)
    by_cases hr : m < 1 ∨ 36 < m
    · rw [if_pos hr] at hres
      have HE3 := hid hres
      clear hres
      have e5 : inR (m : Int) 1 36 = false := by unfold inR; simp; omega
      rw [e5] at HWI
      go_wp2_with fail
      refine HT.out.mono ?_
      rintro e w1 ⟨v, rfl, rfl, h1, h2⟩
      rw [HIV.out]
      have HG1 := hid ((Gb.of HB0.out).trans h2)
      clear h1 h2
      go_wp2_with fail
      refine (HWI.out _).mono ?_
      rintro e w2 ⟨rfl, hw⟩
      subst hw
      go_wp2_with fail
      refine (HG.out _).mono ?_
      rintro e w3 ⟨NN, rfl, h3, h4⟩
      have HF := hid h3
      have HGG := hid (HG1.out.trans (Gb.of h4))
      clear h3 h4
      go_wp2_with fail
      refine ⟨rfl, ?_⟩
      rw [HE3.out]
      exact ⟨NN, rfl, HF.out, HGG.out⟩
    · rw [if_neg hr] at hres
      have e5 : inR (m : Int) 1 36 = true := by unfold inR; simp; omega
      rw [e5] at HWI
      have HUS := hid (fun W => uses_any (m : Int) W)
      obtain ⟨q0, hq0⟩ : ∃ q, q = (us (m : Int)).1 := ⟨_, rfl⟩
      obtain ⟨q1, hq1⟩ : ∃ q, q = (us (m : Int)).2.1 := ⟨_, rfl⟩
      obtain ⟨q2, hq2⟩ : ∃ q, q = (us (m : Int)).2.2 := ⟨_, rfl⟩
      unfold usV at HUS
      rw [← hq0, ← hq1, ← hq2] at HUS hres
      clear hq0 hq1 hq2
      have HRES := hid hres
      clear hres
      go_wp2_with fail
      refine HT.out.mono ?_
      rintro e w1 ⟨v, rfl, rfl, h1, h2⟩
      rw [HIV.out]
      have HR1 := hid h1
      have HX1 := hid (h2.at HX0.out (by have := HRB.out; have := HLT.out; omega))
      have HG1 := hid ((Gb.of HB0.out).trans h2)
      clear h1 h2 c1 HT
      go_wp2_with fail
      refine (HWI.out _).mono ?_
      rintro e w2 ⟨rfl, hw⟩
      have hw2 := hw.symm
      subst hw2
      clear hw
      go_upto_region 6 with fail
      have HB2 := hid (belowA w1 (.cells #[.int .i64 0, .int .i64 0, .int .i64 0] 123))
      have HO2 := hid (heap_alloc_new w1 (.cells #[.int .i64 0, .int .i64 0, .int .i64 0] 123))
      have HX2 := hid ((HB2.out.block _ (lt_blk HX1.out)).trans HX1.out)
      have HR2 := hid (HR1.out.low' HB2.out)
      have HG2 := hid (HG1.out.trans (Gb.of HB2.out))
      have HOB := hid (show rb < w1.heap.size from lt_blk HX1.out)
      generalize w1.alloc (.cells #[.int .i64 0, .int .i64 0, .int .i64 0] 123) = w4 at *
      generalize w1.heap.size = ob at *
      go_wp2_with fail
      refine (HUS.out w4).mono ?_
      rintro e U ⟨rfl, l4⟩
      have HO3 := hid ((l4.block _ (lt_blk HO2.out)).trans HO2.out)
      have HX3 := hid ((l4.block _ (lt_blk HX2.out)).trans HX2.out)
      have HR3 := hid (HR2.out.low' l4)
      have HG3 := hid (HG2.out.trans (Gb.of l4))
      clear l4 HO2 HX2 HR2 HG2 HB2 HX1 HR1 HG1
      go_wp2_with fail
      go_loopw [22] (fun iv wr => ∃ (j : Nat) (x y z : Int) (kk : Nat), j ≤ 3 ∧ iv = .int .i64 (j : Int) ∧ Hid (wr.heap[ob]? = some (.cells #[.int .i64 x, .int .i64 y, .int .i64 z] 123 (0, 0))) ∧ Hid (wr.heap[rb]? = some (.cells #[.int .i64 0, .int .i64 0, .int .i64 0, .int .i64 0] 68 (0, 0))) ∧ Hid (Rm g a cap B wr kk room) ∧ Hid (Gb g W wr) ∧ Hid (insR B (m : Int) q0 q1 q2 j x y z kk = res) ∧ Hid ((j < 1 → x = 0) ∧ (j < 2 → y = 0) ∧ (j < 3 → z = 0))) (fun iv _ => 3 - (intOf iv).toNat)
      case atStart => exact ⟨0, 0, 0, 0, k + 1, by omega, rfl, HO3, HX3, HR3, HG3, hid HRES.out.symm, hid ⟨fun _ => rfl, fun _ => rfl, fun _ => rfl⟩⟩
      case round =>
        clear HO3 HX3 HR3 HG3
        obtain ⟨j, x, y, z, kk, hj, rfl, HO, HX, HR, HGB, HE, HZ⟩ := hrel
        rcases (by omega : j = 0 ∨ j = 1 ∨ j = 2 ∨ j = 3) with rfl | rfl | rfl | rfl
        · have hix := run_ix0
          have he := HE.out
          cases q0 with
          | false =>
            have hz0 : x = 0 := HZ.out.1 (by omega)
            subst hz0
            have HEN := hid (show insR B (m : Int) false q1 q2 1 0 y z kk = res from he)
            clear he
            go_wp2_with fail
            exact ⟨⟨1, 0, y, z, kk, by omega, by go_num, HO, HX, HR, HGB, HEN, hid ⟨fun h => by omega, fun h => HZ.out.2.1 (by omega), fun h => HZ.out.2.2 (by omega)⟩⟩, by simp [intOf]⟩
          | true =>
            have HC := hid (rcount_any HR.out 0 65535 (by decide) (by decide))
            obtain ⟨r0, hr0⟩ : ∃ r0, r0 = cntD B kk 0 65535 9 0 kk 0 := ⟨_, rfl⟩
            have hq : optP true B kk = dbnd r0 (fun n k1 => .ok ((n : Int), k1)) := by rw [hr0]; rfl
            rw [← hr0] at HC
            have he : dbnd (optP true B kk) (fun w k1 => insR B (m : Int) true q1 q2 1 w y z k1) = res := he
            rw [hq] at he
            clear hr0 hq
            cases r0 with
            | error e0 =>
              obtain ⟨c0, p0⟩ := e0
              have HE3 := hid (show res = .error (c0, p0) from he.symm)
              clear he
              go_wp2_with fail
              refine HC.out.mono ?_
              rintro e w5 ⟨NN, rfl, h3, h4⟩
              have HF := hid h3
              have HGG := hid (HGB.out.trans h4)
              clear h3 h4
              go_wp2_with fail
              refine ⟨rfl, ?_⟩
              rw [HE3.out]
              exact ⟨NN, rfl, HF.out, HGG.out⟩
            | ok y0 =>
              obtain ⟨n, k2⟩ := y0
              have HEN := hid (show insR B (m : Int) true q1 q2 1 (n : Int) y z k2 = res from he)
              clear he
              go_wp2_with fail
              refine HC.out.mono ?_
              rintro e w5 ⟨v5, rfl, rfl, h3, h4⟩
              have HR5 := hid h3
              have HO5 := hid (h4.at HO.out (by have := HRB.out; have := HLT.out; have := HOB.out; omega))
              have HX5 := hid (h4.at HX.out (by have := HRB.out; have := HLT.out; omega))
              have HG5 := hid (HGB.out.trans h4)
              have f5 : w5.frozen? ⟨ob, 0, none⟩ = false := frz_row HO5.out 0
              have c5 : w5.cell? ⟨ob, 0, none⟩ = some (.int .i64 x) := cell_of_row _ _ 0 _ _ _ HO5.out
              clear h3 h4
              go_wp2_with fail
              have HO6 := hid (show (w5.setCell ⟨ob, 0, none⟩ (.int .i64 (n : Int))).heap[ob]? = some (.cells #[.int .i64 (n : Int), .int .i64 y, .int .i64 z] 123 (0, 0)) from by rw [setCell_eq_setRow _ _ _ _ _ _ _ HO5.out, setRow_heap _ _ _ _ _ _ HO5.out]; rfl)
              have HX6 := hid (show (w5.setCell ⟨ob, 0, none⟩ (.int .i64 (n : Int))).heap[rb]? = some (.cells #[.int .i64 0, .int .i64 0, .int .i64 0, .int .i64 0] 68 (0, 0)) from by rw [setCell_eq_setRow _ _ _ _ _ _ _ HO5.out, setRow_other _ _ _ _ (by have := HOB.out; omega)]; exact HX5.out)
              exact ⟨⟨1, (n : Int), y, z, k2, by omega, by go_num, HO6, HX6, hid (rm_new HR5.out HO5.out (by have := HRB.out; have := HLT.out; have := HOB.out; omega)), hid (gb_new HG5.out HO5.out (by have := HRB.out; have := HOB.out; omega)), HEN, hid ⟨fun h => by omega, fun h => HZ.out.2.1 (by omega), fun h => HZ.out.2.2 (by omega)⟩⟩, by simp [intOf]⟩
        · have hix := run_ix1
          have he := HE.out
          cases q1 with
          | false =>
            have hz0 : y = 0 := HZ.out.2.1 (by omega)
            subst hz0
            have HEN := hid (show insR B (m : Int) q0 false q2 2 x 0 z kk = res from he)
            clear he
            go_wp2_with fail
            exact ⟨⟨2, x, 0, z, kk, by omega, by go_num, HO, HX, HR, HGB, HEN, hid ⟨fun h => by omega, fun h => by omega, fun h => HZ.out.2.2 (by omega)⟩⟩, by simp [intOf]⟩
          | true =>
            have HC := hid (rcount_any HR.out 0 65535 (by decide) (by decide))
            obtain ⟨r0, hr0⟩ : ∃ r0, r0 = cntD B kk 0 65535 9 0 kk 0 := ⟨_, rfl⟩
            have hq : optP true B kk = dbnd r0 (fun n k1 => .ok ((n : Int), k1)) := by rw [hr0]; rfl
            rw [← hr0] at HC
            have he : dbnd (optP true B kk) (fun w k1 => insR B (m : Int) q0 true q2 2 x w z k1) = res := he
            rw [hq] at he
            clear hr0 hq
            cases r0 with
            | error e0 =>
              obtain ⟨c0, p0⟩ := e0
              have HE3 := hid (show res = .error (c0, p0) from he.symm)
              clear he
              go_wp2_with fail
              refine HC.out.mono ?_
              rintro e w5 ⟨NN, rfl, h3, h4⟩
              have HF := hid h3
              have HGG := hid (HGB.out.trans h4)
              clear h3 h4
              go_wp2_with fail
              refine ⟨rfl, ?_⟩
              rw [HE3.out]
              exact ⟨NN, rfl, HF.out, HGG.out⟩
            | ok y0 =>
              obtain ⟨n, k2⟩ := y0
              have HEN := hid (show insR B (m : Int) q0 true q2 2 x (n : Int) z k2 = res from he)
              clear he
              go_wp2_with fail
              refine HC.out.mono ?_
              rintro e w5 ⟨v5, rfl, rfl, h3, h4⟩
              have HR5 := hid h3
              have HO5 := hid (h4.at HO.out (by have := HRB.out; have := HLT.out; have := HOB.out; omega))
              have HX5 := hid (h4.at HX.out (by have := HRB.out; have := HLT.out; omega))
              have HG5 := hid (HGB.out.trans h4)
              have f5 : w5.frozen? ⟨ob, 1, none⟩ = false := frz_row HO5.out 1
              have c5 : w5.cell? ⟨ob, 1, none⟩ = some (.int .i64 y) := cell_of_row _ _ 1 _ _ _ HO5.out
              clear h3 h4
              go_wp2_with fail
              have HO6 := hid (show (w5.setCell ⟨ob, 1, none⟩ (.int .i64 (n : Int))).heap[ob]? = some (.cells #[.int .i64 x, .int .i64 (n : Int), .int .i64 z] 123 (0, 0)) from by rw [setCell_eq_setRow _ _ _ _ _ _ _ HO5.out, setRow_heap _ _ _ _ _ _ HO5.out]; rfl)
              have HX6 := hid (show (w5.setCell ⟨ob, 1, none⟩ (.int .i64 (n : Int))).heap[rb]? = some (.cells #[.int .i64 0, .int .i64 0, .int .i64 0, .int .i64 0] 68 (0, 0)) from by rw [setCell_eq_setRow _ _ _ _ _ _ _ HO5.out, setRow_other _ _ _ _ (by have := HOB.out; omega)]; exact HX5.out)
              exact ⟨⟨2, x, (n : Int), z, k2, by omega, by go_num, HO6, HX6, hid (rm_new HR5.out HO5.out (by have := HRB.out; have := HLT.out; have := HOB.out; omega)), hid (gb_new HG5.out HO5.out (by have := HRB.out; have := HOB.out; omega)), HEN, hid ⟨fun h => by omega, fun h => by omega, fun h => HZ.out.2.2 (by omega)⟩⟩, by simp [intOf]⟩
        · have hix := run_ix2
          have he := HE.out
          cases q2 with
          | false =>
            have hz0 : z = 0 := HZ.out.2.2 (by omega)
            subst hz0
            have HEN := hid (show insR B (m : Int) q0 q1 false 3 x y 0 kk = res from he)
            clear he
            go_wp2_with fail
            exact ⟨⟨3, x, y, 0, kk, by omega, by go_num, HO, HX, HR, HGB, HEN, hid ⟨fun h => by omega, fun h => by omega, fun h => by omega⟩⟩, by simp [intOf]⟩
          | true =>
            have HC := hid (rcount_any HR.out 0 65535 (by decide) (by decide))
            obtain ⟨r0, hr0⟩ : ∃ r0, r0 = cntD B kk 0 65535 9 0 kk 0 := ⟨_, rfl⟩
            have hq : optP true B kk = dbnd r0 (fun n k1 => .ok ((n : Int), k1)) := by rw [hr0]; rfl
            rw [← hr0] at HC
            have he : dbnd (optP true B kk) (fun w k1 => insR B (m : Int) q0 q1 true 3 x y w k1) = res := he
            rw [hq] at he
            clear hr0 hq
            cases r0 with
            | error e0 =>
              obtain ⟨c0, p0⟩ := e0
              have HE3 := hid (show res = .error (c0, p0) from he.symm)
              clear he
              go_wp2_with fail
              refine HC.out.mono ?_
              rintro e w5 ⟨NN, rfl, h3, h4⟩
              have HF := hid h3
              have HGG := hid (HGB.out.trans h4)
              clear h3 h4
              go_wp2_with fail
              refine ⟨rfl, ?_⟩
              rw [HE3.out]
              exact ⟨NN, rfl, HF.out, HGG.out⟩
            | ok y0 =>
              obtain ⟨n, k2⟩ := y0
              have HEN := hid (show insR B (m : Int) q0 q1 true 3 x y (n : Int) k2 = res from he)
              clear he
              go_wp2_with fail
              refine HC.out.mono ?_
              rintro e w5 ⟨v5, rfl, rfl, h3, h4⟩
              have HR5 := hid h3
              have HO5 := hid (h4.at HO.out (by have := HRB.out; have := HLT.out; have := HOB.out; omega))
              have HX5 := hid (h4.at HX.out (by have := HRB.out; have := HLT.out; omega))
              have HG5 := hid (HGB.out.trans h4)
              have f5 : w5.frozen? ⟨ob, 2, none⟩ = false := frz_row HO5.out 2
              have c5 : w5.cell? ⟨ob, 2, none⟩ = some (.int .i64 z) := cell_of_row _ _ 2 _ _ _ HO5.out
              clear h3 h4
              go_wp2_with fail
              have HO6 := hid (show (w5.setCell ⟨ob, 2, none⟩ (.int .i64 (n : Int))).heap[ob]? = some (.cells #[.int .i64 x, .int .i64 y, .int .i64 (n : Int)] 123 (0, 0)) from by rw [setCell_eq_setRow _ _ _ _ _ _ _ HO5.out, setRow_heap _ _ _ _ _ _ HO5.out]; rfl)
              have HX6 := hid (show (w5.setCell ⟨ob, 2, none⟩ (.int .i64 (n : Int))).heap[rb]? = some (.cells #[.int .i64 0, .int .i64 0, .int .i64 0, .int .i64 0] 68 (0, 0)) from by rw [setCell_eq_setRow _ _ _ _ _ _ _ HO5.out, setRow_other _ _ _ _ (by have := HOB.out; omega)]; exact HX5.out)
              exact ⟨⟨3, x, y, (n : Int), k2, by omega, by go_num, HO6, HX6, hid (rm_new HR5.out HO5.out (by have := HRB.out; have := HLT.out; have := HOB.out; omega)), hid (gb_new HG5.out HO5.out (by have := HRB.out; have := HOB.out; omega)), HEN, hid ⟨fun h => by omega, fun h => by omega, fun h => by omega⟩⟩, by simp [intOf]⟩
        · have HE3 := hid (show res = .ok (⟨(m : Int), x, y, z⟩, kk) from HE.out.symm)
          have x0 : wr.cell? ⟨ob, 0, none⟩ = some (.int .i64 x) := cell_of_row _ _ 0 _ _ _ HO.out
          have x1 : wr.cell? ⟨ob, 1, none⟩ = some (.int .i64 y) := cell_of_row _ _ 1 _ _ _ HO.out
          have x2 : wr.cell? ⟨ob, 2, none⟩ = some (.int .i64 z) := cell_of_row _ _ 2 _ _ _ HO.out
          have d0 : wr.cell? ⟨rb, 0, none⟩ = some (.int .i64 0) := cell_of_row _ _ 0 _ _ _ HX.out
          have d1 : wr.cell? ⟨rb, 1, none⟩ = some (.int .i64 0) := cell_of_row _ _ 1 _ _ _ HX.out
          have d2 : wr.cell? ⟨rb, 2, none⟩ = some (.int .i64 0) := cell_of_row _ _ 2 _ _ _ HX.out
          have d3 : wr.cell? ⟨rb, 3, none⟩ = some (.int .i64 0) := cell_of_row _ _ 3 _ _ _ HX.out
          have hf : ∀ j, wr.frozen? ⟨rb, j, none⟩ = false := fun j => frz_row HX.out j
          have f0 := hf 0
          have f1 := hf 1
          have f2 := hf 2
          have f3 := hf 3
          clear hf
          go_wp2_with fail
          have S0 := HX
          have R0 := HR
          have G0 := HGB
          have K0 := hid (show g < rb from by have := HRB.out; have := HLT.out; omega)
          have K1 := hid (show W.heap.size ≤ rb from by have := HRB.out; omega)
          have S1 := hid (show (wr.setCell ⟨rb, 0, none⟩ (.int .i64 (m : Int))).heap[rb]? = some (.cells #[.int .i64 (m : Int), .int .i64 0, .int .i64 0, .int .i64 0] 68 (0, 0)) from by rw [setCell_eq_setRow _ _ _ _ _ _ _ S0.out, setRow_heap _ _ _ _ _ _ S0.out]; rfl)
          have R1 := hid (rm_new (j := 0) (v := .int .i64 (m : Int)) R0.out S0.out K0.out)
          have G1 := hid (gb_new (j := 0) (v := .int .i64 (m : Int)) G0.out S0.out K1.out)
          have S2 := hid (show ((wr.setCell ⟨rb, 0, none⟩ (.int .i64 (m : Int))).setCell ⟨rb, 1, none⟩ (.int .i64 x)).heap[rb]? = some (.cells #[.int .i64 (m : Int), .int .i64 x, .int .i64 0, .int .i64 0] 68 (0, 0)) from by rw [setCell_eq_setRow _ _ _ _ _ _ _ S1.out, setRow_heap _ _ _ _ _ _ S1.out]; rfl)
          have R2 := hid (rm_new (j := 1) (v := .int .i64 x) R1.out S1.out K0.out)
          have G2 := hid (gb_new (j := 1) (v := .int .i64 x) G1.out S1.out K1.out)
          have S3 := hid (show (((wr.setCell ⟨rb, 0, none⟩ (.int .i64 (m : Int))).setCell ⟨rb, 1, none⟩ (.int .i64 x)).setCell ⟨rb, 2, none⟩ (.int .i64 y)).heap[rb]? = some (.cells #[.int .i64 (m : Int), .int .i64 x, .int .i64 y, .int .i64 0] 68 (0, 0)) from by rw [setCell_eq_setRow _ _ _ _ _ _ _ S2.out, setRow_heap _ _ _ _ _ _ S2.out]; rfl)
          have R3 := hid (rm_new (j := 2) (v := .int .i64 y) R2.out S2.out K0.out)
          have G3 := hid (gb_new (j := 2) (v := .int .i64 y) G2.out S2.out K1.out)
          have S4 := hid (show ((((wr.setCell ⟨rb, 0, none⟩ (.int .i64 (m : Int))).setCell ⟨rb, 1, none⟩ (.int .i64 x)).setCell ⟨rb, 2, none⟩ (.int .i64 y)).setCell ⟨rb, 3, none⟩ (.int .i64 z)).heap[rb]? = some (.cells #[.int .i64 (m : Int), .int .i64 x, .int .i64 y, .int .i64 z] 68 (0, 0)) from by rw [setCell_eq_setRow _ _ _ _ _ _ _ S3.out, setRow_heap _ _ _ _ _ _ S3.out]; rfl)
          have R4 := hid (rm_new (j := 3) (v := .int .i64 z) R3.out S3.out K0.out)
          have G4 := hid (gb_new (j := 3) (v := .int .i64 z) G3.out S3.out K1.out)
          generalize ((((wr.setCell ⟨rb, 0, none⟩ (.int .i64 (m : Int))).setCell ⟨rb, 1, none⟩ (.int .i64 x)).setCell ⟨rb, 2, none⟩ (.int .i64 y)).setCell ⟨rb, 3, none⟩ (.int .i64 z)) = U at *
          refine ⟨rfl, .agg #[.int .i64 (m : Int), .int .i64 x, .int .i64 y, .int .i64 z], results_cell_row Try.results83 _ U rb 68 #[.int .i64 (m : Int), .int .i64 x, .int .i64 y, .int .i64 z] (0, 0) _ rfl S4.out Try.underlying68 rfl infoIn, ?_⟩
          rw [HE3.out]
          exact ⟨_, rfl, rfl, R4.out, G4.out⟩
  · rw [if_neg hkl] at HT hres
    have HE3 := hid hres
    clear hres hkl
    go_wp2_with fail
    refine HT.out.mono ?_
    rintro e w1 ⟨NN, rfl, h3, h4⟩
    have HF := hid h3
    have HGG := hid ((Gb.of HB0.out).trans h4)
    clear h3 h4
    go_wp2_with fail
    refine ⟨rfl, ?_⟩
    rw [HE3.out]
    exact ⟨NN, rfl, HF.out, HGG.out⟩
end Go.Proofs.Ytnclpdgbjefpmaa.L
