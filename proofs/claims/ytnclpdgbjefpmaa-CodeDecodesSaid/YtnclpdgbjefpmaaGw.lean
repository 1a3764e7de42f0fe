import Derived.Test.YtnclpdgbjefpmaaGv
import Derived.Test.YtnclpdgbjefpmaaGu
namespace Go.Proofs.Ytnclpdgbjefpmaa.L
open Go.RowKit
set_option linter.unusedVariables false
set_option linter.unusedSimpArgs false
/-- An operand's bytes, where it is used. -/
def opc (u : Bool) (x : Int) : List UInt8 := if u = true then cnt x.toNat else []
theorem insC_opc (o x y z : Int) (ho : 1 ≤ o ∧ o ≤ 36) : insC.W ⟨o, x, y, z⟩ = [UInt8.ofNat o.toNat] ++ (opc (us o).1 x ++ (opc (us o).2.1 y ++ opc (us o).2.2 z)) := by
  rw [insC_W o x y z ho]
  unfold opk opc
  simp
theorem dcount_fit {u : Bool} {x : Int} (h : fitB u x = true) (hu : u = true) (Y : World) : Calls Try.prog 25 #[.int .i64 x] Y fun e w' => ∃ v, e = .returned v ∧ OwnB w' Y.heap.size v (cnt x.toNat) ∧ Below Y.heap.size Y w' := by
  have hx := fit_in h hu
  have h := dcount_any x.toNat Y (by omega)
  rw [Int.toNat_of_nonneg hx.1] at h
  exact h
theorem own_one (w : World) {o : Int} {c : UInt8} (h : o = iv c) : OwnB (w.alloc (.cells #[.int .u8 o] 5)) w.heap.size (.slice (some ⟨w.heap.size, 0, none⟩) ([c] : List UInt8).length 1) [c] := by
  subst h
  exact World.ownsRow_lit (base := w.heap.size) (e := 5) (size := 1) w #[.int .u8 (iv c)] 1 (Nat.le_refl _) (by unfold maxLen; omega) rfl
def St (W0 W : World) (v : Value) (l : List UInt8) : Prop := Below W0.heap.size W0 W ∧ OwnB W W0.heap.size v l
theorem st_app {W0 W W2 W3 : World} {v v' : Value} {l m : List UInt8} (h : St W0 W v l) (hb : Below W.heap.size W W2) (ho : OwnB W3 W0.heap.size v' (l ++ m)) (hg : W2.grownBy W3 v.ownBlock) : St W0 W3 v' (l ++ m) :=
  ⟨below_grow (bch h.1 hb) (row_low h.2 hb) hg, ho⟩
theorem drop_flat {α : Type} (f : α → List UInt8) (d : α) (xs : List α) (k : Nat) (h : k < xs.length) : (xs.drop k).flatMap f = f (xs.getD k d) ++ (xs.drop (k + 1)).flatMap f := by
  rw [List.drop_eq_getElem_cons h, List.flatMap_cons, List.getD_eq_getElem?_getD, List.getElem?_eq_getElem h]
  rfl
set_option maxHeartbeats 8000000 in
set_option maxRecDepth 100000 in
theorem dencode_any (p : Pg) (pv : Array Value) (w : World) (hR : PgR w pv p) (hg : GdP p) :
    Calls Try.prog 12 #[.agg pv] w fun e w' => Below w.heap.size w w' ∧ (formB p = false → e = .returned (.tuple #[.slice none 0 0, .int .i64 207])) ∧ (formB p = true → ∃ v', e = .returned (.tuple #[v', .int .i64 0]) ∧ OwnB w' w.heap.size v' (enc p)) := by
  obtain ⟨a0, c0, a1, c1, a2, c2, a3, c3, a4, c4, hpv, r0, r1, r2, r3, r4⟩ := hR.ex
  have HX := hid (heap_alloc_new w (.cells pv 30))
  have HB := hid (belowA w (.cells pv 30))
  have HR := hid (hR.low HB.out)
  have HF := hid (dform_any pv p (w.alloc (.cells pv 30)) HR.out hg)
  have HR0 := hid (fun (Y : World) (hY : Below w.heap.size w Y) => r0.low hY)
  have HR1 := hid (fun (Y : World) (hY : Below w.heap.size w Y) => r1.low hY)
  have HR2 := hid (fun (Y : World) (hY : Below w.heap.size w Y) => r2.low hY)
  have HR3 := hid (fun (Y : World) (hY : Below w.heap.size w Y) => r3.low hY)
  have HR4 := hid (fun (Y : World) (hY : Below w.heap.size w Y) => r4.low hY)
  clear r0 r1 r2 r3 r4
  have HPV := hid hpv
  have h0 : p.tx.length ≤ maxLen := by have := hg.tx; unfold maxLen; omega
  have h1 : p.nu.length ≤ maxLen := by have := hg.nu; unfold maxLen; omega
  have h2 : p.st.length ≤ maxLen := by have := hg.st; unfold maxLen; omega
  have h3 : p.ns.length ≤ maxLen := by have := hg.ns; unfold maxLen; omega
  have h4 : p.cd.length ≤ maxLen := by have := hg.cd; unfold maxLen; omega
  clear hR
  subst hpv
  obtain ⟨fb, hfb⟩ : ∃ fb, formB p = fb := ⟨_, rfl⟩
  rw [hfb] at HF ⊢
  have HFB := hid hfb
  clear hfb
  go_enter Try.func12, Try.ntmps12
  go_upto_region 1 with fail
  obtain ⟨W, hW⟩ : ∃ W, W = w.alloc (.cells #[.slice a0 p.tx.length c0, .slice a1 p.nu.length c1, .slice a2 p.st.length c2, .slice a3 p.ns.length c3, .slice a4 p.cd.length c4, .int .i64 p.dep, .int .i64 p.loc] 30) := ⟨_, rfl⟩
  rw [← hW] at HX HB HR HF ⊢
  have HS := hid (show w.heap.size < W.heap.size from lt_blk HX.out)
  clear hW
  obtain ⟨q, hq⟩ : ∃ q, q = w.heap.size := ⟨_, rfl⟩
  rw [← hq] at HX HS ⊢
  have HQ := hid hq
  clear hq
  have x0 : W.cell? ⟨q, 0, none⟩ = some (.slice a0 p.tx.length c0) := cell_of_row _ _ 0 _ _ _ HX.out
  have x1 : W.cell? ⟨q, 1, none⟩ = some (.slice a1 p.nu.length c1) := cell_of_row _ _ 1 _ _ _ HX.out
  have x2 : W.cell? ⟨q, 2, none⟩ = some (.slice a2 p.st.length c2) := cell_of_row _ _ 2 _ _ _ HX.out
  have x3 : W.cell? ⟨q, 3, none⟩ = some (.slice a3 p.ns.length c3) := cell_of_row _ _ 3 _ _ _ HX.out
  have x4 : W.cell? ⟨q, 4, none⟩ = some (.slice a4 p.cd.length c4) := cell_of_row _ _ 4 _ _ _ HX.out
  have x5 : W.cell? ⟨q, 5, none⟩ = some (.int .i64 p.dep) := cell_of_row _ _ 5 _ _ _ HX.out
  have x6 : W.cell? ⟨q, 6, none⟩ = some (.int .i64 p.loc) := cell_of_row _ _ 6 _ _ _ HX.out
  go_wp2_with fail
  refine HF.out.mono ?_
  rintro e w1 ⟨rfl, h1b⟩
  have HW1 := hid h1b
  clear h1b
  cases fb with
  | false =>
    go_wp2_with fail
    refine bodyPost_ret (results_tmp2 rfl _ _ _) rfl ?_
    exact ⟨bch HB.out HW1.out, rfl⟩
  | true =>
    have HM := hid ((formB_iff p).1 HFB.out)
    have HXX := hid (fun (Y : World) (hY : Below W.heap.size W Y) => (hY.block q (lt_blk HX.out)).trans HX.out)
    clear HF x0 x1 x2 x3 x4 x5 x6 HFB
    go_upto_region 4 with fail
    have HSW := hid HW1.out.size
    have HST := hid (show St W (w1.alloc (.cells #[.int .u8 66, .int .u8 82, .int .u8 84, .int .u8 1] 5)) (.slice (some ⟨w1.heap.size, 0, none⟩) 4 4) [0x42, 0x52, 0x54, 1] from ⟨bch HW1.out (belowA w1 _), World.ownsRow_lit (base := W.heap.size) (e := 5) (size := 1) w1 #[.int .u8 66, .int .u8 82, .int .u8 84, .int .u8 1] 4 HSW.out (by unfold maxLen; omega) rfl⟩)
    have HE := hid (show enc p = [0x42, 0x52, 0x54, 1] ++ (cnt p.dep.toNat ++ (cnt p.loc.toNat ++ (cnt p.tx.length ++ (p.tx.flatMap textC.W ++ (cnt p.nu.length ++ (p.nu.flatMap sgnC.W ++ (cnt p.st.length ++ (p.st.flatMap setC.W ++ (cnt p.ns.length ++ (p.ns.flatMap nsetC.W ++ (cnt p.cd.length ++ p.cd.flatMap insC.W))))))))))) from by rw [enc_eq]; simp only [List.append_assoc])
    have HEL := hid (enc_len HM.out)
    have HD1 := hid (fun (Y : World) => (show Calls Try.prog 25 #[.int .i64 p.dep] Y fun e w' => ∃ v, e = .returned v ∧ OwnB w' Y.heap.size v (cnt p.dep.toNat) ∧ Below Y.heap.size Y w' from by have h := dcount_any p.dep.toNat Y (by have := HM.out.dep; omega); rw [Int.toNat_of_nonneg HM.out.dep.1] at h; exact h))
    have HD2 := hid (fun (Y : World) => (show Calls Try.prog 25 #[.int .i64 p.loc] Y fun e w' => ∃ v, e = .returned v ∧ OwnB w' Y.heap.size v (cnt p.loc.toNat) ∧ Below Y.heap.size Y w' from by have h := dcount_any p.loc.toNat Y (by have := HM.out.loc; omega); rw [Int.toNat_of_nonneg HM.out.loc.1] at h; exact h))
    generalize w1.alloc (.cells #[.int .u8 66, .int .u8 82, .int .u8 84, .int .u8 1] 5) = wb0 at *
    obtain ⟨l0, hl0⟩ : ∃ l : List UInt8, l = [0x42, 0x52, 0x54, 1] := ⟨_, rfl⟩
    rw [← hl0] at HST HE
    obtain ⟨va, hva⟩ : ∃ a, a = (some ⟨w1.heap.size, 0, none⟩ : Option Addr) := ⟨_, rfl⟩
    obtain ⟨vc, hvc⟩ : ∃ c, c = 4 := ⟨_, rfl⟩
    have hlen : l0.length = 4 := by rw [hl0]; rfl
    rw [← hva, ← hvc] at HST
    rw [← hva, show (Value.slice va 4 4) = Value.slice va l0.length vc by rw [hlen, hvc]]
    rw [show (Value.slice va vc vc) = Value.slice va l0.length vc by rw [hlen, hvc]] at HST
    clear hl0 hva hvc hlen
    have x5 := cell_of_row _ _ 5 _ _ _ (HXX.out wb0 HST.out.1)
    go_wp2_with fail
    refine (HD1.out wb0).mono ?_
    rintro e wa1 ⟨vx, rfl, hoc, hbc⟩
    have HOC := hid hoc
    have HBC := hid hbc
    clear hoc hbc
    obtain ⟨xa, xc, rfl⟩ := ownb_form HOC.out
    have HOW := hid (row_low HST.out.2 HBC.out)
    have HBS := hid (show W.heap.size ≤ wa1.heap.size from Nat.le_trans HST.out.1.size HBC.out.size)
    have HLN := hid (show l0.length + (cnt p.dep.toNat).length ≤ 70368744177664 from by have h1 := HEL.out; rw [HE.out] at h1; simp only [List.length_append] at h1; omega)
    clear x5
    go_wp2_with (at_builtin; go_loud (refine wpl_by rfl _ _ rfl W.heap.size wb0.heap.size (.slice va l0.length vc) l0 (cnt p.dep.toNat) xa xc rfl HOW.out rfl HOC.out HLN.out HBS.out ?_))
    intro v' wb1 ho' hg'
    have HST := hid (st_app HST.out HBC.out ho' hg')
    obtain ⟨va, vc, rfl⟩ := ownb_form ho'
    clear ho' hg' HOC HBC HOW HBS HLN
    have HE := hid (show enc p = (l0 ++ cnt p.dep.toNat) ++ (cnt p.loc.toNat ++ (cnt p.tx.length ++ (p.tx.flatMap textC.W ++ (cnt p.nu.length ++ (p.nu.flatMap sgnC.W ++ (cnt p.st.length ++ (p.st.flatMap setC.W ++ (cnt p.ns.length ++ (p.ns.flatMap nsetC.W ++ (cnt p.cd.length ++ p.cd.flatMap insC.W)))))))))) from by rw [HE.out, List.append_assoc])
    obtain ⟨l1, hl'⟩ : ∃ l', l' = l0 ++ cnt p.dep.toNat := ⟨_, rfl⟩
    rw [← hl'] at HST HE ⊢
    clear hl'
    have x6 := cell_of_row _ _ 6 _ _ _ (HXX.out wb1 HST.out.1)
    go_wp2_with fail
    refine (HD2.out wb1).mono ?_
    rintro e wa2 ⟨vx, rfl, hoc, hbc⟩
    have HOC := hid hoc
    have HBC := hid hbc
    clear hoc hbc
    obtain ⟨xa, xc, rfl⟩ := ownb_form HOC.out
    have HOW := hid (row_low HST.out.2 HBC.out)
    have HBS := hid (show W.heap.size ≤ wa2.heap.size from Nat.le_trans HST.out.1.size HBC.out.size)
    have HLN := hid (show l1.length + (cnt p.loc.toNat).length ≤ 70368744177664 from by have h1 := HEL.out; rw [HE.out] at h1; simp only [List.length_append] at h1; omega)
    clear x6
    go_wp2_with (at_builtin; go_loud (refine wpl_by rfl _ _ rfl W.heap.size wb1.heap.size (.slice va l1.length vc) l1 (cnt p.loc.toNat) xa xc rfl HOW.out rfl HOC.out HLN.out HBS.out ?_))
    intro v' wb2 ho' hg'
    have HST := hid (st_app HST.out HBC.out ho' hg')
    obtain ⟨va, vc, rfl⟩ := ownb_form ho'
    clear ho' hg' HOC HBC HOW HBS HLN
    have HE := hid (show enc p = (l1 ++ cnt p.loc.toNat) ++ (cnt p.tx.length ++ (p.tx.flatMap textC.W ++ (cnt p.nu.length ++ (p.nu.flatMap sgnC.W ++ (cnt p.st.length ++ (p.st.flatMap setC.W ++ (cnt p.ns.length ++ (p.ns.flatMap nsetC.W ++ (cnt p.cd.length ++ p.cd.flatMap insC.W))))))))) from by rw [HE.out, List.append_assoc])
    obtain ⟨l2, hl'⟩ : ∃ l', l' = l1 ++ cnt p.loc.toNat := ⟨_, rfl⟩
    rw [← hl'] at HST HE ⊢
    clear hl'
    have x0 := cell_of_row _ _ 0 _ _ _ (HXX.out wb2 HST.out.1)
    go_wp2_with fail
    refine (dcount_any p.tx.length wb2 (by have := HM.out.pool; omega)).mono ?_
    rintro e wa3 ⟨vx, rfl, hoc, hbc⟩
    have HOC := hid hoc
    have HBC := hid hbc
    clear hoc hbc
    obtain ⟨xa, xc, rfl⟩ := ownb_form HOC.out
    have HOW := hid (row_low HST.out.2 HBC.out)
    have HBS := hid (show W.heap.size ≤ wa3.heap.size from Nat.le_trans HST.out.1.size HBC.out.size)
    have HLN := hid (show l2.length + (cnt p.tx.length).length ≤ 70368744177664 from by have h1 := HEL.out; rw [HE.out] at h1; simp only [List.length_append] at h1; omega)
    clear x0
    go_wp2_with (at_builtin; go_loud (refine wpl_by rfl _ _ rfl W.heap.size wb2.heap.size (.slice va l2.length vc) l2 (cnt p.tx.length) xa xc rfl HOW.out rfl HOC.out HLN.out HBS.out ?_))
    intro v' wb3 ho' hg'
    have HST := hid (st_app HST.out HBC.out ho' hg')
    obtain ⟨va, vc, rfl⟩ := ownb_form ho'
    clear ho' hg' HOC HBC HOW HBS HLN
    have HE := hid (show enc p = (l2 ++ cnt p.tx.length) ++ (p.tx.flatMap textC.W ++ (cnt p.nu.length ++ (p.nu.flatMap sgnC.W ++ (cnt p.st.length ++ (p.st.flatMap setC.W ++ (cnt p.ns.length ++ (p.ns.flatMap nsetC.W ++ (cnt p.cd.length ++ p.cd.flatMap insC.W)))))))) from by rw [HE.out, List.append_assoc])
    obtain ⟨l3, hl'⟩ : ∃ l', l' = l2 ++ cnt p.tx.length := ⟨_, rfl⟩
    rw [← hl'] at HST HE ⊢
    clear hl'
    go_wp2_with fail
    go_loopw [4, 5] (fun o i wr => ∃ (k : Nat) (l : List UInt8) (va : Option Addr) (vc : Nat), k ≤ p.tx.length ∧ o = .slice va l.length vc ∧ i = .int .i64 k ∧ Hid (St W wr (.slice va l.length vc) l) ∧ Hid (enc p = l ++ ((p.tx.drop k).flatMap textC.W ++ (cnt p.nu.length ++ (p.nu.flatMap sgnC.W ++ (cnt p.st.length ++ (p.st.flatMap setC.W ++ (cnt p.ns.length ++ (p.ns.flatMap nsetC.W ++ (cnt p.cd.length ++ p.cd.flatMap insC.W)))))))))) (fun _ i _ => p.tx.length - (intOf i).toNat)
    case atStart => exact ⟨0, l3, _, _, Nat.zero_le _, rfl, rfl, HST, hid (by rw [List.drop_zero]; exact HE.out)⟩
    case round =>
      clear HST HE
      obtain ⟨k, lk4, va, vc, hk, rfl, rfl, HST, HE⟩ := hrel
      have x0 := cell_of_row _ _ 0 _ _ _ (HXX.out _ HST.out.1)
      have hbnd : p.tx.length ≤ 4096 := by have := HM.out.pool; omega
      by_cases hlt : k < p.tx.length
      · have g1 : (k : Int) < (p.tx.length : Int) := by omega
        have g2 : (0 : Int) ≤ (k : Int) := by omega
        rcases (HR0.out _ (bch HB.out HST.out.1)).row ⟨#[]⟩ with h0 | ⟨b, off, hae, hc⟩
        · omega
        subst hae
        have yk := hc k hlt
        clear hc
        have HSX := hid (HM.out.tx (p.tx.getD k ⟨#[]⟩) (by rw [List.getD_eq_getElem?_getD, List.getElem?_eq_getElem hlt]; exact List.getElem_mem _))
        have HE := hid (show enc p = lk4 ++ (textC.W (p.tx.getD k ⟨#[]⟩) ++ ((p.tx.drop (k + 1)).flatMap textC.W ++ (cnt p.nu.length ++ (p.nu.flatMap sgnC.W ++ (cnt p.st.length ++ (p.st.flatMap setC.W ++ (cnt p.ns.length ++ (p.ns.flatMap nsetC.W ++ (cnt p.cd.length ++ p.cd.flatMap insC.W))))))))) from by rw [HE.out, drop_flat _ ⟨#[]⟩ _ _ hlt, List.append_assoc])
        obtain ⟨x, hx⟩ : ∃ x, x = p.tx.getD k ⟨#[]⟩ := ⟨_, rfl⟩
        rw [← hx] at yk HSX HE
        clear hx
        have x0 := cell_of_row _ _ 0 _ _ _ (HXX.out wr HST.out.1)
        go_wp2_with fail
        refine (dtext_any x wr HSX.out).mono ?_
        rintro e wa5 ⟨vx, rfl, hoc, hbc⟩
        have HOC := hid hoc
        have HBC := hid hbc
        clear hoc hbc
        obtain ⟨xa, xc, rfl⟩ := ownb_form HOC.out
        have HOW := hid (row_low HST.out.2 HBC.out)
        have HBS := hid (show W.heap.size ≤ wa5.heap.size from Nat.le_trans HST.out.1.size HBC.out.size)
        have HLN := hid (show lk4.length + (textC.W x).length ≤ 70368744177664 from by have h1 := HEL.out; rw [HE.out] at h1; simp only [List.length_append] at h1; omega)
        clear x0 yk
        go_wp2_with (at_builtin; go_loud (refine wpl_by rfl _ _ rfl W.heap.size wr.heap.size (.slice va lk4.length vc) lk4 (textC.W x) xa xc rfl HOW.out rfl HOC.out HLN.out HBS.out ?_))
        intro v' wb5 ho' hg'
        have HST := hid (st_app HST.out HBC.out ho' hg')
        obtain ⟨va, vc, rfl⟩ := ownb_form ho'
        clear ho' hg' HOC HBC HOW HBS HLN
        have HE := hid (show enc p = (lk4 ++ textC.W x) ++ ((p.tx.drop (k + 1)).flatMap textC.W ++ (cnt p.nu.length ++ (p.nu.flatMap sgnC.W ++ (cnt p.st.length ++ (p.st.flatMap setC.W ++ (cnt p.ns.length ++ (p.ns.flatMap nsetC.W ++ (cnt p.cd.length ++ p.cd.flatMap insC.W)))))))) from by rw [HE.out, List.append_assoc])
        obtain ⟨l5, hl'⟩ : ∃ l', l' = lk4 ++ textC.W x := ⟨_, rfl⟩
        rw [← hl'] at HST HE ⊢
        clear hl'
        go_wp2_with fail
        exact ⟨⟨k + 1, l5, _, _, by omega, rfl, by go_num, HST, HE⟩, by simp [intOf]; omega⟩
      · obtain rfl : k = p.tx.length := by omega
        have g1 : ¬ (p.tx.length : Int) < (p.tx.length : Int) := by omega
        go_upto_region 11 with fail
        clear x0 g1 hlt hk hbnd
        have HE := hid (show enc p = lk4 ++ (cnt p.nu.length ++ (p.nu.flatMap sgnC.W ++ (cnt p.st.length ++ (p.st.flatMap setC.W ++ (cnt p.ns.length ++ (p.ns.flatMap nsetC.W ++ (cnt p.cd.length ++ p.cd.flatMap insC.W))))))) from by rw [HE.out, List.drop_length, List.flatMap_nil, List.nil_append])
        have x1 := cell_of_row _ _ 1 _ _ _ (HXX.out wr HST.out.1)
        go_wp2_with fail
        refine (dcount_any p.nu.length wr (by have := HM.out.pool; omega)).mono ?_
        rintro e wa6 ⟨vx, rfl, hoc, hbc⟩
        have HOC := hid hoc
        have HBC := hid hbc
        clear hoc hbc
        obtain ⟨xa, xc, rfl⟩ := ownb_form HOC.out
        have HOW := hid (row_low HST.out.2 HBC.out)
        have HBS := hid (show W.heap.size ≤ wa6.heap.size from Nat.le_trans HST.out.1.size HBC.out.size)
        have HLN := hid (show lk4.length + (cnt p.nu.length).length ≤ 70368744177664 from by have h1 := HEL.out; rw [HE.out] at h1; simp only [List.length_append] at h1; omega)
        clear x1
        go_wp2_with (at_builtin; go_loud (refine wpl_by rfl _ _ rfl W.heap.size wr.heap.size (.slice va lk4.length vc) lk4 (cnt p.nu.length) xa xc rfl HOW.out rfl HOC.out HLN.out HBS.out ?_))
        intro v' wb6 ho' hg'
        have HST := hid (st_app HST.out HBC.out ho' hg')
        obtain ⟨va, vc, rfl⟩ := ownb_form ho'
        clear ho' hg' HOC HBC HOW HBS HLN
        have HE := hid (show enc p = (lk4 ++ cnt p.nu.length) ++ (p.nu.flatMap sgnC.W ++ (cnt p.st.length ++ (p.st.flatMap setC.W ++ (cnt p.ns.length ++ (p.ns.flatMap nsetC.W ++ (cnt p.cd.length ++ p.cd.flatMap insC.W)))))) from by rw [HE.out, List.append_assoc])
        obtain ⟨l6, hl'⟩ : ∃ l', l' = lk4 ++ cnt p.nu.length := ⟨_, rfl⟩
        rw [← hl'] at HST HE ⊢
        clear hl'
        go_wp2_with fail
        go_loopw [4, 6] (fun o i wr => ∃ (k : Nat) (l : List UInt8) (va : Option Addr) (vc : Nat), k ≤ p.nu.length ∧ o = .slice va l.length vc ∧ i = .int .i64 k ∧ Hid (St W wr (.slice va l.length vc) l) ∧ Hid (enc p = l ++ ((p.nu.drop k).flatMap sgnC.W ++ (cnt p.st.length ++ (p.st.flatMap setC.W ++ (cnt p.ns.length ++ (p.ns.flatMap nsetC.W ++ (cnt p.cd.length ++ p.cd.flatMap insC.W)))))))) (fun _ i _ => p.nu.length - (intOf i).toNat)
        case atStart => exact ⟨0, l6, _, _, Nat.zero_le _, rfl, rfl, HST, hid (by rw [List.drop_zero]; exact HE.out)⟩
        case round =>
          clear HST HE
          obtain ⟨k, lk7, va, vc, hk, rfl, rfl, HST, HE⟩ := hrel
          have x1 := cell_of_row _ _ 1 _ _ _ (HXX.out _ HST.out.1)
          have hbnd : p.nu.length ≤ 4096 := by have := HM.out.pool; omega
          by_cases hlt : k < p.nu.length
          · have g1 : (k : Int) < (p.nu.length : Int) := by omega
            have g2 : (0 : Int) ≤ (k : Int) := by omega
            rcases (HR1.out _ (bch HB.out HST.out.1)).row 0 with h0 | ⟨b, off, hae, hc⟩
            · omega
            subst hae
            have yk := hc k hlt
            clear hc
            have HSX := hid (HM.out.nu (p.nu.getD k 0) (by rw [List.getD_eq_getElem?_getD, List.getElem?_eq_getElem hlt]; exact List.getElem_mem _))
            have HE := hid (show enc p = lk7 ++ (sgnC.W (p.nu.getD k 0) ++ ((p.nu.drop (k + 1)).flatMap sgnC.W ++ (cnt p.st.length ++ (p.st.flatMap setC.W ++ (cnt p.ns.length ++ (p.ns.flatMap nsetC.W ++ (cnt p.cd.length ++ p.cd.flatMap insC.W))))))) from by rw [HE.out, drop_flat _ 0 _ _ hlt, List.append_assoc])
            obtain ⟨x, hx⟩ : ∃ x, x = p.nu.getD k 0 := ⟨_, rfl⟩
            rw [← hx] at yk HSX HE
            clear hx
            have x1 := cell_of_row _ _ 1 _ _ _ (HXX.out wr HST.out.1)
            go_wp2_with fail
            refine (dsigned_any x wr HSX.out).mono ?_
            rintro e wa8 ⟨vx, rfl, hoc, hbc⟩
            have HOC := hid hoc
            have HBC := hid hbc
            clear hoc hbc
            obtain ⟨xa, xc, rfl⟩ := ownb_form HOC.out
            have HOW := hid (row_low HST.out.2 HBC.out)
            have HBS := hid (show W.heap.size ≤ wa8.heap.size from Nat.le_trans HST.out.1.size HBC.out.size)
            have HLN := hid (show lk7.length + (sgnC.W x).length ≤ 70368744177664 from by have h1 := HEL.out; rw [HE.out] at h1; simp only [List.length_append] at h1; omega)
            clear x1 yk
            go_wp2_with (at_builtin; go_loud (refine wpl_by rfl _ _ rfl W.heap.size wr.heap.size (.slice va lk7.length vc) lk7 (sgnC.W x) xa xc rfl HOW.out rfl HOC.out HLN.out HBS.out ?_))
            intro v' wb8 ho' hg'
            have HST := hid (st_app HST.out HBC.out ho' hg')
            obtain ⟨va, vc, rfl⟩ := ownb_form ho'
            clear ho' hg' HOC HBC HOW HBS HLN
            have HE := hid (show enc p = (lk7 ++ sgnC.W x) ++ ((p.nu.drop (k + 1)).flatMap sgnC.W ++ (cnt p.st.length ++ (p.st.flatMap setC.W ++ (cnt p.ns.length ++ (p.ns.flatMap nsetC.W ++ (cnt p.cd.length ++ p.cd.flatMap insC.W)))))) from by rw [HE.out, List.append_assoc])
            obtain ⟨l8, hl'⟩ : ∃ l', l' = lk7 ++ sgnC.W x := ⟨_, rfl⟩
            rw [← hl'] at HST HE ⊢
            clear hl'
            go_wp2_with fail
            exact ⟨⟨k + 1, l8, _, _, by omega, rfl, by go_num, HST, HE⟩, by simp [intOf]; omega⟩
          · obtain rfl : k = p.nu.length := by omega
            have g1 : ¬ (p.nu.length : Int) < (p.nu.length : Int) := by omega
            go_upto_region 16 with fail
            clear x1 g1 hlt hk hbnd
            have HE := hid (show enc p = lk7 ++ (cnt p.st.length ++ (p.st.flatMap setC.W ++ (cnt p.ns.length ++ (p.ns.flatMap nsetC.W ++ (cnt p.cd.length ++ p.cd.flatMap insC.W))))) from by rw [HE.out, List.drop_length, List.flatMap_nil, List.nil_append])
            have x2 := cell_of_row _ _ 2 _ _ _ (HXX.out wr HST.out.1)
            go_wp2_with fail
            refine (dcount_any p.st.length wr (by have := HM.out.pool; omega)).mono ?_
            rintro e wa9 ⟨vx, rfl, hoc, hbc⟩
            have HOC := hid hoc
            have HBC := hid hbc
            clear hoc hbc
            obtain ⟨xa, xc, rfl⟩ := ownb_form HOC.out
            have HOW := hid (row_low HST.out.2 HBC.out)
            have HBS := hid (show W.heap.size ≤ wa9.heap.size from Nat.le_trans HST.out.1.size HBC.out.size)
            have HLN := hid (show lk7.length + (cnt p.st.length).length ≤ 70368744177664 from by have h1 := HEL.out; rw [HE.out] at h1; simp only [List.length_append] at h1; omega)
            clear x2
            go_wp2_with (at_builtin; go_loud (refine wpl_by rfl _ _ rfl W.heap.size wr.heap.size (.slice va lk7.length vc) lk7 (cnt p.st.length) xa xc rfl HOW.out rfl HOC.out HLN.out HBS.out ?_))
            intro v' wb9 ho' hg'
            have HST := hid (st_app HST.out HBC.out ho' hg')
            obtain ⟨va, vc, rfl⟩ := ownb_form ho'
            clear ho' hg' HOC HBC HOW HBS HLN
            have HE := hid (show enc p = (lk7 ++ cnt p.st.length) ++ (p.st.flatMap setC.W ++ (cnt p.ns.length ++ (p.ns.flatMap nsetC.W ++ (cnt p.cd.length ++ p.cd.flatMap insC.W)))) from by rw [HE.out, List.append_assoc])
            obtain ⟨l9, hl'⟩ : ∃ l', l' = lk7 ++ cnt p.st.length := ⟨_, rfl⟩
            rw [← hl'] at HST HE ⊢
            clear hl'
            go_wp2_with fail
            go_loopw [4, 7] (fun o i wr => ∃ (k : Nat) (l : List UInt8) (va : Option Addr) (vc : Nat), k ≤ p.st.length ∧ o = .slice va l.length vc ∧ i = .int .i64 k ∧ Hid (St W wr (.slice va l.length vc) l) ∧ Hid (enc p = l ++ ((p.st.drop k).flatMap setC.W ++ (cnt p.ns.length ++ (p.ns.flatMap nsetC.W ++ (cnt p.cd.length ++ p.cd.flatMap insC.W)))))) (fun _ i _ => p.st.length - (intOf i).toNat)
            case atStart => exact ⟨0, l9, _, _, Nat.zero_le _, rfl, rfl, HST, hid (by rw [List.drop_zero]; exact HE.out)⟩
            case round =>
              clear HST HE
              obtain ⟨k, lk10, va, vc, hk, rfl, rfl, HST, HE⟩ := hrel
              have x2 := cell_of_row _ _ 2 _ _ _ (HXX.out _ HST.out.1)
              have hbnd : p.st.length ≤ 4096 := by have := HM.out.pool; omega
              by_cases hlt : k < p.st.length
              · have g1 : (k : Int) < (p.st.length : Int) := by omega
                have g2 : (0 : Int) ≤ (k : Int) := by omega
                obtain ⟨b, off, ea, ec, hae, hbb, hcc, hrr⟩ := rdl_at (HR2.out W HB.out) hlt
                subst hae
                have HCX := hid (fun (Y : World) (hY : Below W.heap.size W Y) => (hY.cell (p := ⟨b, off + k, none⟩) hbb).trans hcc)
                have HRX := hid (fun (Y : World) (hY : Below W.heap.size W Y) => hrr.low hY)
                clear hbb hcc hrr
                have HSX := hid (HM.out.st (p.st.getD k []) (by rw [List.getD_eq_getElem?_getD, List.getElem?_eq_getElem hlt]; exact List.getElem_mem _))
                have HE := hid (show enc p = lk10 ++ (cnt (p.st.getD k []).length ++ ((p.st.getD k []).flatMap textC.W ++ ((p.st.drop (k + 1)).flatMap setC.W ++ (cnt p.ns.length ++ (p.ns.flatMap nsetC.W ++ (cnt p.cd.length ++ p.cd.flatMap insC.W)))))) from by rw [HE.out, drop_flat _ [] _ _ hlt, setC_W, List.append_assoc, List.append_assoc])
                obtain ⟨x, hx⟩ : ∃ x, x = p.st.getD k [] := ⟨_, rfl⟩
                rw [← hx] at HCX HRX HSX HE
                clear hx
                have HAL := hid (show x.length ≤ 1000 ∧ ∀ z, z ∈ x → shS z = true from by have h := HSX.out; unfold setB inR at h; simp only [Bool.and_eq_true, List.all_eq_true, decide_eq_true_eq] at h; exact ⟨by omega, h.2.1⟩)
                have hbx : x.length ≤ 1000 := HAL.out.1
                have yx := HCX.out _ HST.out.1
                have x2 := cell_of_row _ _ 2 _ _ _ (HXX.out wr HST.out.1)
                go_wp2_with fail
                refine (dcount_any x.length wr (by omega)).mono ?_
                rintro e wa11 ⟨vx, rfl, hoc, hbc⟩
                have HOC := hid hoc
                have HBC := hid hbc
                clear hoc hbc
                obtain ⟨xa, xc, rfl⟩ := ownb_form HOC.out
                have HOW := hid (row_low HST.out.2 HBC.out)
                have HBS := hid (show W.heap.size ≤ wa11.heap.size from Nat.le_trans HST.out.1.size HBC.out.size)
                have HLN := hid (show lk10.length + (cnt x.length).length ≤ 70368744177664 from by have h1 := HEL.out; rw [HE.out] at h1; simp only [List.length_append] at h1; omega)
                clear x2 yx
                go_wp2_with (at_builtin; go_loud (refine wpl_by rfl _ _ rfl W.heap.size wr.heap.size (.slice va lk10.length vc) lk10 (cnt x.length) xa xc rfl HOW.out rfl HOC.out HLN.out HBS.out ?_))
                intro v' wb11 ho' hg'
                have HST := hid (st_app HST.out HBC.out ho' hg')
                obtain ⟨va, vc, rfl⟩ := ownb_form ho'
                clear ho' hg' HOC HBC HOW HBS HLN
                have HE := hid (show enc p = (lk10 ++ cnt x.length) ++ (x.flatMap textC.W ++ ((p.st.drop (k + 1)).flatMap setC.W ++ (cnt p.ns.length ++ (p.ns.flatMap nsetC.W ++ (cnt p.cd.length ++ p.cd.flatMap insC.W))))) from by rw [HE.out, List.append_assoc])
                obtain ⟨l11, hl'⟩ : ∃ l', l' = lk10 ++ cnt x.length := ⟨_, rfl⟩
                rw [← hl'] at HST HE ⊢
                clear hl'
                go_wp2_with fail
                go_loopw [4, 8] (fun o i wr => ∃ (kk : Nat) (l : List UInt8) (va : Option Addr) (vc : Nat), kk ≤ x.length ∧ o = .slice va l.length vc ∧ i = .int .i64 kk ∧ Hid (St W wr (.slice va l.length vc) l) ∧ Hid (enc p = l ++ ((x.drop kk).flatMap textC.W ++ ((p.st.drop (k + 1)).flatMap setC.W ++ (cnt p.ns.length ++ (p.ns.flatMap nsetC.W ++ (cnt p.cd.length ++ p.cd.flatMap insC.W))))))) (fun _ i _ => x.length - (intOf i).toNat)
                case atStart => exact ⟨0, l11, _, _, Nat.zero_le _, rfl, rfl, HST, hid (by rw [List.drop_zero]; exact HE.out)⟩
                case round =>
                  clear HST HE
                  obtain ⟨kk, lk12, va, vc, hkk, rfl, rfl, HST, HE⟩ := hrel
                  have x2 := cell_of_row _ _ 2 _ _ _ (HXX.out _ HST.out.1)
                  have yx := HCX.out _ HST.out.1
                  by_cases hltk : kk < x.length
                  · have g3 : (kk : Int) < (x.length : Int) := by omega
                    have g4 : (0 : Int) ≤ (kk : Int) := by omega
                    rcases (HRX.out _ HST.out.1).row ⟨#[]⟩ with h0 | ⟨b2, off2, hae, hc⟩
                    · omega
                    subst hae
                    have yk := hc kk hltk
                    clear hc
                    have HSZ := hid (HAL.out.2 (x.getD kk ⟨#[]⟩) (by rw [List.getD_eq_getElem?_getD, List.getElem?_eq_getElem hltk]; exact List.getElem_mem _))
                    have HE := hid (show enc p = lk12 ++ (textC.W (x.getD kk ⟨#[]⟩) ++ ((x.drop (kk + 1)).flatMap textC.W ++ ((p.st.drop (k + 1)).flatMap setC.W ++ (cnt p.ns.length ++ (p.ns.flatMap nsetC.W ++ (cnt p.cd.length ++ p.cd.flatMap insC.W)))))) from by rw [HE.out, drop_flat _ ⟨#[]⟩ _ _ hltk, List.append_assoc])
                    obtain ⟨z, hz⟩ : ∃ z, z = x.getD kk ⟨#[]⟩ := ⟨_, rfl⟩
                    rw [← hz] at yk HSZ HE
                    clear hz
                    have x2 := cell_of_row _ _ 2 _ _ _ (HXX.out wr HST.out.1)
                    go_wp2_with fail
                    refine (dtext_any z wr HSZ.out).mono ?_
                    rintro e wa13 ⟨vx, rfl, hoc, hbc⟩
                    have HOC := hid hoc
                    have HBC := hid hbc
                    clear hoc hbc
                    obtain ⟨xa, xc, rfl⟩ := ownb_form HOC.out
                    have HOW := hid (row_low HST.out.2 HBC.out)
                    have HBS := hid (show W.heap.size ≤ wa13.heap.size from Nat.le_trans HST.out.1.size HBC.out.size)
                    have HLN := hid (show lk12.length + (textC.W z).length ≤ 70368744177664 from by have h1 := HEL.out; rw [HE.out] at h1; simp only [List.length_append] at h1; omega)
                    clear x2 yx yk
                    go_wp2_with (at_builtin; go_loud (refine wpl_by rfl _ _ rfl W.heap.size wr.heap.size (.slice va lk12.length vc) lk12 (textC.W z) xa xc rfl HOW.out rfl HOC.out HLN.out HBS.out ?_))
                    intro v' wb13 ho' hg'
                    have HST := hid (st_app HST.out HBC.out ho' hg')
                    obtain ⟨va, vc, rfl⟩ := ownb_form ho'
                    clear ho' hg' HOC HBC HOW HBS HLN
                    have HE := hid (show enc p = (lk12 ++ textC.W z) ++ ((x.drop (kk + 1)).flatMap textC.W ++ ((p.st.drop (k + 1)).flatMap setC.W ++ (cnt p.ns.length ++ (p.ns.flatMap nsetC.W ++ (cnt p.cd.length ++ p.cd.flatMap insC.W))))) from by rw [HE.out, List.append_assoc])
                    obtain ⟨l13, hl'⟩ : ∃ l', l' = lk12 ++ textC.W z := ⟨_, rfl⟩
                    rw [← hl'] at HST HE ⊢
                    clear hl'
                    go_wp2_with fail
                    exact ⟨⟨kk + 1, l13, _, _, by omega, rfl, by go_num, HST, HE⟩, by simp [intOf]; omega⟩
                  · obtain rfl : kk = x.length := by omega
                    have g3 : ¬ (x.length : Int) < (x.length : Int) := by omega
                    go_upto_region 19 with fail
                    have HE := hid (show enc p = lk12 ++ ((p.st.drop (k + 1)).flatMap setC.W ++ (cnt p.ns.length ++ (p.ns.flatMap nsetC.W ++ (cnt p.cd.length ++ p.cd.flatMap insC.W)))) from by rw [HE.out, List.drop_length, List.flatMap_nil, List.nil_append])
                    go_wp2_with fail
                    exact ⟨⟨k + 1, lk12, _, _, by omega, rfl, by go_num, HST, HE⟩, by simp [intOf]; omega⟩
              · obtain rfl : k = p.st.length := by omega
                have g1 : ¬ (p.st.length : Int) < (p.st.length : Int) := by omega
                go_upto_region 25 with fail
                clear x2 g1 hlt hk hbnd
                have HE := hid (show enc p = lk10 ++ (cnt p.ns.length ++ (p.ns.flatMap nsetC.W ++ (cnt p.cd.length ++ p.cd.flatMap insC.W))) from by rw [HE.out, List.drop_length, List.flatMap_nil, List.nil_append])
                have x3 := cell_of_row _ _ 3 _ _ _ (HXX.out wr HST.out.1)
                go_wp2_with fail
                refine (dcount_any p.ns.length wr (by have := HM.out.pool; omega)).mono ?_
                rintro e wa14 ⟨vx, rfl, hoc, hbc⟩
                have HOC := hid hoc
                have HBC := hid hbc
                clear hoc hbc
                obtain ⟨xa, xc, rfl⟩ := ownb_form HOC.out
                have HOW := hid (row_low HST.out.2 HBC.out)
                have HBS := hid (show W.heap.size ≤ wa14.heap.size from Nat.le_trans HST.out.1.size HBC.out.size)
                have HLN := hid (show lk10.length + (cnt p.ns.length).length ≤ 70368744177664 from by have h1 := HEL.out; rw [HE.out] at h1; simp only [List.length_append] at h1; omega)
                clear x3
                go_wp2_with (at_builtin; go_loud (refine wpl_by rfl _ _ rfl W.heap.size wr.heap.size (.slice va lk10.length vc) lk10 (cnt p.ns.length) xa xc rfl HOW.out rfl HOC.out HLN.out HBS.out ?_))
                intro v' wb14 ho' hg'
                have HST := hid (st_app HST.out HBC.out ho' hg')
                obtain ⟨va, vc, rfl⟩ := ownb_form ho'
                clear ho' hg' HOC HBC HOW HBS HLN
                have HE := hid (show enc p = (lk10 ++ cnt p.ns.length) ++ (p.ns.flatMap nsetC.W ++ (cnt p.cd.length ++ p.cd.flatMap insC.W)) from by rw [HE.out, List.append_assoc])
                obtain ⟨l14, hl'⟩ : ∃ l', l' = lk10 ++ cnt p.ns.length := ⟨_, rfl⟩
                rw [← hl'] at HST HE ⊢
                clear hl'
                go_wp2_with fail
                go_loopw [4, 9] (fun o i wr => ∃ (k : Nat) (l : List UInt8) (va : Option Addr) (vc : Nat), k ≤ p.ns.length ∧ o = .slice va l.length vc ∧ i = .int .i64 k ∧ Hid (St W wr (.slice va l.length vc) l) ∧ Hid (enc p = l ++ ((p.ns.drop k).flatMap nsetC.W ++ (cnt p.cd.length ++ p.cd.flatMap insC.W)))) (fun _ i _ => p.ns.length - (intOf i).toNat)
                case atStart => exact ⟨0, l14, _, _, Nat.zero_le _, rfl, rfl, HST, hid (by rw [List.drop_zero]; exact HE.out)⟩
                case round =>
                  clear HST HE
                  obtain ⟨k, lk15, va, vc, hk, rfl, rfl, HST, HE⟩ := hrel
                  have x3 := cell_of_row _ _ 3 _ _ _ (HXX.out _ HST.out.1)
                  have hbnd : p.ns.length ≤ 4096 := by have := HM.out.pool; omega
                  by_cases hlt : k < p.ns.length
                  · have g1 : (k : Int) < (p.ns.length : Int) := by omega
                    have g2 : (0 : Int) ≤ (k : Int) := by omega
                    obtain ⟨b, off, ea, ec, hae, hbb, hcc, hrr⟩ := rdl_at (HR3.out W HB.out) hlt
                    subst hae
                    have HCX := hid (fun (Y : World) (hY : Below W.heap.size W Y) => (hY.cell (p := ⟨b, off + k, none⟩) hbb).trans hcc)
                    have HRX := hid (fun (Y : World) (hY : Below W.heap.size W Y) => hrr.low hY)
                    clear hbb hcc hrr
                    have HSX := hid (HM.out.ns (p.ns.getD k []) (by rw [List.getD_eq_getElem?_getD, List.getElem?_eq_getElem hlt]; exact List.getElem_mem _))
                    have HE := hid (show enc p = lk15 ++ (cnt (p.ns.getD k []).length ++ ((p.ns.getD k []).flatMap sgnC.W ++ ((p.ns.drop (k + 1)).flatMap nsetC.W ++ (cnt p.cd.length ++ p.cd.flatMap insC.W)))) from by rw [HE.out, drop_flat _ [] _ _ hlt, nsetC_W, List.append_assoc, List.append_assoc])
                    obtain ⟨x, hx⟩ : ∃ x, x = p.ns.getD k [] := ⟨_, rfl⟩
                    rw [← hx] at HCX HRX HSX HE
                    clear hx
                    have HAL := hid (show x.length ≤ 1000 ∧ ∀ z, z ∈ x → shI z = true from by have h := HSX.out; unfold setB inR at h; simp only [Bool.and_eq_true, List.all_eq_true, decide_eq_true_eq] at h; exact ⟨by omega, h.2.1⟩)
                    have hbx : x.length ≤ 1000 := HAL.out.1
                    have yx := HCX.out _ HST.out.1
                    have x3 := cell_of_row _ _ 3 _ _ _ (HXX.out wr HST.out.1)
                    go_wp2_with fail
                    refine (dcount_any x.length wr (by omega)).mono ?_
                    rintro e wa16 ⟨vx, rfl, hoc, hbc⟩
                    have HOC := hid hoc
                    have HBC := hid hbc
                    clear hoc hbc
                    obtain ⟨xa, xc, rfl⟩ := ownb_form HOC.out
                    have HOW := hid (row_low HST.out.2 HBC.out)
                    have HBS := hid (show W.heap.size ≤ wa16.heap.size from Nat.le_trans HST.out.1.size HBC.out.size)
                    have HLN := hid (show lk15.length + (cnt x.length).length ≤ 70368744177664 from by have h1 := HEL.out; rw [HE.out] at h1; simp only [List.length_append] at h1; omega)
                    clear x3 yx
                    go_wp2_with (at_builtin; go_loud (refine wpl_by rfl _ _ rfl W.heap.size wr.heap.size (.slice va lk15.length vc) lk15 (cnt x.length) xa xc rfl HOW.out rfl HOC.out HLN.out HBS.out ?_))
                    intro v' wb16 ho' hg'
                    have HST := hid (st_app HST.out HBC.out ho' hg')
                    obtain ⟨va, vc, rfl⟩ := ownb_form ho'
                    clear ho' hg' HOC HBC HOW HBS HLN
                    have HE := hid (show enc p = (lk15 ++ cnt x.length) ++ (x.flatMap sgnC.W ++ ((p.ns.drop (k + 1)).flatMap nsetC.W ++ (cnt p.cd.length ++ p.cd.flatMap insC.W))) from by rw [HE.out, List.append_assoc])
                    obtain ⟨l16, hl'⟩ : ∃ l', l' = lk15 ++ cnt x.length := ⟨_, rfl⟩
                    rw [← hl'] at HST HE ⊢
                    clear hl'
                    go_wp2_with fail
                    go_loopw [4, 10] (fun o i wr => ∃ (kk : Nat) (l : List UInt8) (va : Option Addr) (vc : Nat), kk ≤ x.length ∧ o = .slice va l.length vc ∧ i = .int .i64 kk ∧ Hid (St W wr (.slice va l.length vc) l) ∧ Hid (enc p = l ++ ((x.drop kk).flatMap sgnC.W ++ ((p.ns.drop (k + 1)).flatMap nsetC.W ++ (cnt p.cd.length ++ p.cd.flatMap insC.W))))) (fun _ i _ => x.length - (intOf i).toNat)
                    case atStart => exact ⟨0, l16, _, _, Nat.zero_le _, rfl, rfl, HST, hid (by rw [List.drop_zero]; exact HE.out)⟩
                    case round =>
                      clear HST HE
                      obtain ⟨kk, lk17, va, vc, hkk, rfl, rfl, HST, HE⟩ := hrel
                      have x3 := cell_of_row _ _ 3 _ _ _ (HXX.out _ HST.out.1)
                      have yx := HCX.out _ HST.out.1
                      by_cases hltk : kk < x.length
                      · have g3 : (kk : Int) < (x.length : Int) := by omega
                        have g4 : (0 : Int) ≤ (kk : Int) := by omega
                        rcases (HRX.out _ HST.out.1).row 0 with h0 | ⟨b2, off2, hae, hc⟩
                        · omega
                        subst hae
                        have yk := hc kk hltk
                        clear hc
                        have HSZ := hid (HAL.out.2 (x.getD kk 0) (by rw [List.getD_eq_getElem?_getD, List.getElem?_eq_getElem hltk]; exact List.getElem_mem _))
                        have HE := hid (show enc p = lk17 ++ (sgnC.W (x.getD kk 0) ++ ((x.drop (kk + 1)).flatMap sgnC.W ++ ((p.ns.drop (k + 1)).flatMap nsetC.W ++ (cnt p.cd.length ++ p.cd.flatMap insC.W)))) from by rw [HE.out, drop_flat _ 0 _ _ hltk, List.append_assoc])
                        obtain ⟨z, hz⟩ : ∃ z, z = x.getD kk 0 := ⟨_, rfl⟩
                        rw [← hz] at yk HSZ HE
                        clear hz
                        have x3 := cell_of_row _ _ 3 _ _ _ (HXX.out wr HST.out.1)
                        go_wp2_with fail
                        refine (dsigned_any z wr HSZ.out).mono ?_
                        rintro e wa18 ⟨vx, rfl, hoc, hbc⟩
                        have HOC := hid hoc
                        have HBC := hid hbc
                        clear hoc hbc
                        obtain ⟨xa, xc, rfl⟩ := ownb_form HOC.out
                        have HOW := hid (row_low HST.out.2 HBC.out)
                        have HBS := hid (show W.heap.size ≤ wa18.heap.size from Nat.le_trans HST.out.1.size HBC.out.size)
                        have HLN := hid (show lk17.length + (sgnC.W z).length ≤ 70368744177664 from by have h1 := HEL.out; rw [HE.out] at h1; simp only [List.length_append] at h1; omega)
                        clear x3 yx yk
                        go_wp2_with (at_builtin; go_loud (refine wpl_by rfl _ _ rfl W.heap.size wr.heap.size (.slice va lk17.length vc) lk17 (sgnC.W z) xa xc rfl HOW.out rfl HOC.out HLN.out HBS.out ?_))
                        intro v' wb18 ho' hg'
                        have HST := hid (st_app HST.out HBC.out ho' hg')
                        obtain ⟨va, vc, rfl⟩ := ownb_form ho'
                        clear ho' hg' HOC HBC HOW HBS HLN
                        have HE := hid (show enc p = (lk17 ++ sgnC.W z) ++ ((x.drop (kk + 1)).flatMap sgnC.W ++ ((p.ns.drop (k + 1)).flatMap nsetC.W ++ (cnt p.cd.length ++ p.cd.flatMap insC.W))) from by rw [HE.out, List.append_assoc])
                        obtain ⟨l18, hl'⟩ : ∃ l', l' = lk17 ++ sgnC.W z := ⟨_, rfl⟩
                        rw [← hl'] at HST HE ⊢
                        clear hl'
                        go_wp2_with fail
                        exact ⟨⟨kk + 1, l18, _, _, by omega, rfl, by go_num, HST, HE⟩, by simp [intOf]; omega⟩
                      · obtain rfl : kk = x.length := by omega
                        have g3 : ¬ (x.length : Int) < (x.length : Int) := by omega
                        go_upto_region 28 with fail
                        have HE := hid (show enc p = lk17 ++ ((p.ns.drop (k + 1)).flatMap nsetC.W ++ (cnt p.cd.length ++ p.cd.flatMap insC.W)) from by rw [HE.out, List.drop_length, List.flatMap_nil, List.nil_append])
                        go_wp2_with fail
                        exact ⟨⟨k + 1, lk17, _, _, by omega, rfl, by go_num, HST, HE⟩, by simp [intOf]; omega⟩
                  · obtain rfl : k = p.ns.length := by omega
                    have g1 : ¬ (p.ns.length : Int) < (p.ns.length : Int) := by omega
                    go_upto_region 34 with fail
                    clear x3 g1 hlt hk hbnd
                    have HE := hid (show enc p = lk15 ++ (cnt p.cd.length ++ p.cd.flatMap insC.W) from by rw [HE.out, List.drop_length, List.flatMap_nil, List.nil_append])
                    have x4 := cell_of_row _ _ 4 _ _ _ (HXX.out wr HST.out.1)
                    go_wp2_with fail
                    refine (dcount_any p.cd.length wr (by have := HM.out.code; omega)).mono ?_
                    rintro e wa19 ⟨vx, rfl, hoc, hbc⟩
                    have HOC := hid hoc
                    have HBC := hid hbc
                    clear hoc hbc
                    obtain ⟨xa, xc, rfl⟩ := ownb_form HOC.out
                    have HOW := hid (row_low HST.out.2 HBC.out)
                    have HBS := hid (show W.heap.size ≤ wa19.heap.size from Nat.le_trans HST.out.1.size HBC.out.size)
                    have HLN := hid (show lk15.length + (cnt p.cd.length).length ≤ 70368744177664 from by have h1 := HEL.out; rw [HE.out] at h1; simp only [List.length_append] at h1; omega)
                    clear x4
                    go_wp2_with (at_builtin; go_loud (refine wpl_by rfl _ _ rfl W.heap.size wr.heap.size (.slice va lk15.length vc) lk15 (cnt p.cd.length) xa xc rfl HOW.out rfl HOC.out HLN.out HBS.out ?_))
                    intro v' wb19 ho' hg'
                    have HST := hid (st_app HST.out HBC.out ho' hg')
                    obtain ⟨va, vc, rfl⟩ := ownb_form ho'
                    clear ho' hg' HOC HBC HOW HBS HLN
                    have HE := hid (show enc p = (lk15 ++ cnt p.cd.length) ++ (p.cd.flatMap insC.W) from by rw [HE.out, List.append_assoc])
                    obtain ⟨l19, hl'⟩ : ∃ l', l' = lk15 ++ cnt p.cd.length := ⟨_, rfl⟩
                    rw [← hl'] at HST HE ⊢
                    clear hl'
                    go_wp2_with fail
                    go_loopw [4, 11] (fun o i wr => ∃ (k : Nat) (l : List UInt8) (va : Option Addr) (vc : Nat), k ≤ p.cd.length ∧ o = .slice va l.length vc ∧ i = .int .i64 k ∧ Hid (St W wr (.slice va l.length vc) l) ∧ Hid (enc p = l ++ (p.cd.drop k).flatMap insC.W)) (fun _ i _ => p.cd.length - (intOf i).toNat)
                    case atStart => exact ⟨0, l19, _, _, Nat.zero_le _, rfl, rfl, HST, hid (by rw [List.drop_zero]; exact HE.out)⟩
                    case round =>
                      clear HST HE
                      obtain ⟨k, lk, va, vc, hk, rfl, rfl, HST, HE⟩ := hrel
                      have x4 := cell_of_row _ _ 4 _ _ _ (HXX.out _ HST.out.1)
                      have hbnd : p.cd.length ≤ 32768 := by have := HM.out.code; omega
                      by_cases hlt : k < p.cd.length
                      · have g1 : (k : Int) < (p.cd.length : Int) := by omega
                        have g2 : (0 : Int) ≤ (k : Int) := by omega
                        rcases HR4.out _ (bch HB.out HST.out.1) with h0 | ⟨b, off, hae, hb, hc⟩
                        · omega
                        subst hae
                        obtain ⟨c0, c1, c2, c3⟩ := hc k hlt
                        clear hc
                        have HIN := hid (HM.out.cd (p.cd.getD k default) (by rw [List.getD_eq_getElem?_getD, List.getElem?_eq_getElem hlt]; exact List.getElem_mem _))
                        have HE := hid (show enc p = lk ++ (insC.W (p.cd.getD k default) ++ (p.cd.drop (k + 1)).flatMap insC.W) from by rw [HE.out, drop_flat _ default _ _ hlt])
                        obtain ⟨ins, hi⟩ : ∃ ins, ins = p.cd.getD k default := ⟨_, rfl⟩
                        rw [← hi] at c0 c1 c2 c3 HIN HE
                        clear hi
                        obtain ⟨o, x, y, z⟩ := ins
                        simp only at c0 c1 c2 c3
                        have ho : 1 ≤ o ∧ o ≤ 36 := by
                          have hi := HIN.out
                          unfold insB inR at hi
                          simp only [Bool.and_eq_true, decide_eq_true_eq] at hi
                          exact hi.1
                        have hfit : fitB (us o).1 x = true ∧ fitB (us o).2.1 y = true ∧ fitB (us o).2.2 z = true := by
                          have hi := HIN.out
                          unfold insB opsB at hi
                          simp only [Bool.and_eq_true] at hi
                          exact hi.2
                        have HE := hid (show enc p = lk ++ ([UInt8.ofNat o.toNat] ++ (opc (us o).1 x ++ (opc (us o).2.1 y ++ (opc (us o).2.2 z ++ (p.cd.drop (k + 1)).flatMap insC.W)))) from by rw [HE.out, insC_opc o x y z ho]; simp only [List.append_assoc])
                        have HUS := hid (fun (Y : World) => duses_any o Y)
                        obtain ⟨u1, hu1⟩ : ∃ u, u = (us o).1 := ⟨_, rfl⟩
                        obtain ⟨u2, hu2⟩ : ∃ u, u = (us o).2.1 := ⟨_, rfl⟩
                        obtain ⟨u3, hu3⟩ : ∃ u, u = (us o).2.2 := ⟨_, rfl⟩
                        rw [← hu1, ← hu2, ← hu3] at HUS hfit HE
                        clear hu1 hu2 hu3
                        have HC1 := hid (dcount_fit hfit.1)
                        have HC2 := hid (dcount_fit hfit.2.1)
                        have HC3 := hid (dcount_fit hfit.2.2)
                        clear hfit HIN
                        obtain ⟨c, hc⟩ : ∃ c, c = UInt8.ofNat o.toNat := ⟨_, rfl⟩
                        have HD := hid (show o = iv c from by unfold iv; rw [hc, u8_nat (by omega)]; omega)
                        rw [← hc] at HE
                        clear hc
                        have hw8 : IntKind.u8.wrap o = o := by unfold IntKind.wrap; simp [IntKind.bits, IntKind.signed]; omega
                        clear ho
                        go_upto_region 39 with fail
                        have HB2 := hid (belowA wr (.cells #[.int .i64 o, .int .i64 x, .int .i64 y, .int .i64 z] 68))
                        have HX0 := hid (heap_alloc_new wr (.cells #[.int .i64 o, .int .i64 x, .int .i64 y, .int .i64 z] 68))
                        have HST := hid (show St W (wr.alloc (.cells #[.int .i64 o, .int .i64 x, .int .i64 y, .int .i64 z] 68)) (.slice va lk.length vc) lk from ⟨bch HST.out.1 HB2.out, row_low HST.out.2 HB2.out⟩)
                        generalize wr.alloc (.cells #[.int .i64 o, .int .i64 x, .int .i64 y, .int .i64 z] 68) = W2 at *
                        generalize wr.heap.size = gi at *
                        clear c0 c1 c2 c3 x4 HB2
                        have d0 : W2.cell? ⟨gi, 0, none⟩ = some (.int .i64 o) := cell_of_row _ _ 0 _ _ _ HX0.out
                        have HBZ := hid (belowA W2 (.cells #[.int .u8 o] 5))
                        have HXZ := hid ((HBZ.out.block _ (lt_blk HX0.out)).trans HX0.out)
                        have HOW := hid (row_low HST.out.2 HBZ.out)
                        have HOC := hid (own_one W2 HD.out)
                        have HBS := hid (show W.heap.size ≤ (W2.alloc (.cells #[.int .u8 o] 5)).heap.size from Nat.le_trans HST.out.1.size HBZ.out.size)
                        have HLN := hid (show lk.length + ([c] : List UInt8).length ≤ 70368744177664 from by have h1 := HEL.out; rw [HE.out] at h1; simp only [List.length_append, List.length_singleton] at h1 ⊢; omega)
                        go_wp2_with (at_builtin; go_loud (refine wpl_by rfl _ _ rfl W.heap.size W2.heap.size (.slice va lk.length vc) lk [c] (some ⟨W2.heap.size, 0, none⟩) 1 rfl HOW.out rfl HOC.out HLN.out HBS.out ?_))
                        intro v' W3 ho' hg'
                        have HX3 := hid (box_grow HOW.out HXZ.out (by decide) hg')
                        have HST := hid (st_app HST.out HBZ.out ho' hg')
                        obtain ⟨va, vc, rfl⟩ := ownb_form ho'
                        clear ho' hg' HOC HBZ HOW HBS HLN HXZ d0 hw8
                        have HE := hid (show enc p = (lk ++ [c]) ++ (opc u1 x ++ (opc u2 y ++ (opc u3 z ++ (p.cd.drop (k + 1)).flatMap insC.W))) from by rw [HE.out, List.append_assoc])
                        obtain ⟨lq, hl'⟩ : ∃ l', l' = lk ++ [c] := ⟨_, rfl⟩
                        rw [← hl'] at HST HE ⊢
                        clear hl'
                        have d0 : W3.cell? ⟨gi, 0, none⟩ = some (.int .i64 o) := cell_of_row _ _ 0 _ _ _ HX3.out
                        go_wp2_with fail
                        refine (HUS.out W3).mono ?_
                        rintro e W4 ⟨rfl, rfl⟩
                        clear d0 HUS
                        go_upto_region 41 with fail
                        cases u1 with
                        | false =>
                          have HE := hid (show enc p = lq ++ ((opc u2 y ++ (opc u3 z ++ ((p.cd.drop (k + 1)).flatMap insC.W)))) from HE.out)
                          go_upto_region 43 with fail
                          cases u2 with
                          | false =>
                            have HE := hid (show enc p = lq ++ ((opc u3 z ++ ((p.cd.drop (k + 1)).flatMap insC.W))) from HE.out)
                            go_upto_region 45 with fail
                            cases u3 with
                            | false =>
                              have HE := hid (show enc p = lq ++ (((p.cd.drop (k + 1)).flatMap insC.W)) from HE.out)
                              go_wp2_with fail
                              exact ⟨⟨k + 1, lq, _, _, by omega, rfl, by go_num, HST, HE⟩, by simp [intOf]; omega⟩
                            | true =>
                              have HE := hid (show enc p = lq ++ (cnt z.toNat ++ (((p.cd.drop (k + 1)).flatMap insC.W))) from HE.out)
                              have y3 : W4.cell? ⟨gi, 3, none⟩ = some (.int .i64 z) := cell_of_row _ _ 3 _ _ _ HX3.out
                              go_wp2_with fail
                              refine (HC3.out (by first | trivial | rfl) W4).mono ?_
                              rintro e wa20 ⟨vx, rfl, hoc, hbc⟩
                              have HOC := hid hoc
                              have HBC := hid hbc
                              clear hoc hbc
                              obtain ⟨xa, xc, rfl⟩ := ownb_form HOC.out
                              have HOW := hid (row_low HST.out.2 HBC.out)
                              have HBS := hid (show W.heap.size ≤ wa20.heap.size from Nat.le_trans HST.out.1.size HBC.out.size)
                              have HXA := hid ((HBC.out.block _ (lt_blk HX3.out)).trans HX3.out)
                              have HLN := hid (show lq.length + (cnt z.toNat).length ≤ 70368744177664 from by have h1 := HEL.out; rw [HE.out] at h1; simp only [List.length_append] at h1; omega)
                              clear y3
                              go_wp2_with (at_builtin; go_loud (refine wpl_by rfl _ _ rfl W.heap.size W4.heap.size (.slice va lq.length vc) lq (cnt z.toNat) xa xc rfl HOW.out rfl HOC.out HLN.out HBS.out ?_))
                              intro v' wb20 ho' hg'
                              have HX20 := hid (box_grow HOW.out HXA.out (by decide) hg')
                              have HST := hid (st_app HST.out HBC.out ho' hg')
                              obtain ⟨va, vc, rfl⟩ := ownb_form ho'
                              clear ho' hg' HOC HBC HOW HBS HLN HXA
                              have HE := hid (show enc p = (lq ++ cnt z.toNat) ++ (((p.cd.drop (k + 1)).flatMap insC.W)) from by rw [HE.out, List.append_assoc])
                              obtain ⟨l20, hl'⟩ : ∃ l', l' = lq ++ cnt z.toNat := ⟨_, rfl⟩
                              rw [← hl'] at HST HE ⊢
                              clear hl'
                              go_wp2_with fail
                              exact ⟨⟨k + 1, l20, _, _, by omega, rfl, by go_num, HST, HE⟩, by simp [intOf]; omega⟩
                          | true =>
                            have HE := hid (show enc p = lq ++ (cnt y.toNat ++ ((opc u3 z ++ ((p.cd.drop (k + 1)).flatMap insC.W)))) from HE.out)
                            have y2 : W4.cell? ⟨gi, 2, none⟩ = some (.int .i64 y) := cell_of_row _ _ 2 _ _ _ HX3.out
                            go_wp2_with fail
                            refine (HC2.out (by first | trivial | rfl) W4).mono ?_
                            rintro e wa21 ⟨vx, rfl, hoc, hbc⟩
                            have HOC := hid hoc
                            have HBC := hid hbc
                            clear hoc hbc
                            obtain ⟨xa, xc, rfl⟩ := ownb_form HOC.out
                            have HOW := hid (row_low HST.out.2 HBC.out)
                            have HBS := hid (show W.heap.size ≤ wa21.heap.size from Nat.le_trans HST.out.1.size HBC.out.size)
                            have HXA := hid ((HBC.out.block _ (lt_blk HX3.out)).trans HX3.out)
                            have HLN := hid (show lq.length + (cnt y.toNat).length ≤ 70368744177664 from by have h1 := HEL.out; rw [HE.out] at h1; simp only [List.length_append] at h1; omega)
                            clear y2
                            go_wp2_with (at_builtin; go_loud (refine wpl_by rfl _ _ rfl W.heap.size W4.heap.size (.slice va lq.length vc) lq (cnt y.toNat) xa xc rfl HOW.out rfl HOC.out HLN.out HBS.out ?_))
                            intro v' wb21 ho' hg'
                            have HX21 := hid (box_grow HOW.out HXA.out (by decide) hg')
                            have HST := hid (st_app HST.out HBC.out ho' hg')
                            obtain ⟨va, vc, rfl⟩ := ownb_form ho'
                            clear ho' hg' HOC HBC HOW HBS HLN HXA
                            have HE := hid (show enc p = (lq ++ cnt y.toNat) ++ ((opc u3 z ++ ((p.cd.drop (k + 1)).flatMap insC.W))) from by rw [HE.out, List.append_assoc])
                            obtain ⟨l21, hl'⟩ : ∃ l', l' = lq ++ cnt y.toNat := ⟨_, rfl⟩
                            rw [← hl'] at HST HE ⊢
                            clear hl'
                            go_upto_region 45 with fail
                            cases u3 with
                            | false =>
                              have HE := hid (show enc p = l21 ++ (((p.cd.drop (k + 1)).flatMap insC.W)) from HE.out)
                              go_wp2_with fail
                              exact ⟨⟨k + 1, l21, _, _, by omega, rfl, by go_num, HST, HE⟩, by simp [intOf]; omega⟩
                            | true =>
                              have HE := hid (show enc p = l21 ++ (cnt z.toNat ++ (((p.cd.drop (k + 1)).flatMap insC.W))) from HE.out)
                              have y3 : wb21.cell? ⟨gi, 3, none⟩ = some (.int .i64 z) := cell_of_row _ _ 3 _ _ _ HX21.out
                              go_wp2_with fail
                              refine (HC3.out (by first | trivial | rfl) wb21).mono ?_
                              rintro e wa22 ⟨vx, rfl, hoc, hbc⟩
                              have HOC := hid hoc
                              have HBC := hid hbc
                              clear hoc hbc
                              obtain ⟨xa, xc, rfl⟩ := ownb_form HOC.out
                              have HOW := hid (row_low HST.out.2 HBC.out)
                              have HBS := hid (show W.heap.size ≤ wa22.heap.size from Nat.le_trans HST.out.1.size HBC.out.size)
                              have HXA := hid ((HBC.out.block _ (lt_blk HX21.out)).trans HX21.out)
                              have HLN := hid (show l21.length + (cnt z.toNat).length ≤ 70368744177664 from by have h1 := HEL.out; rw [HE.out] at h1; simp only [List.length_append] at h1; omega)
                              clear y3
                              go_wp2_with (at_builtin; go_loud (refine wpl_by rfl _ _ rfl W.heap.size wb21.heap.size (.slice va l21.length vc) l21 (cnt z.toNat) xa xc rfl HOW.out rfl HOC.out HLN.out HBS.out ?_))
                              intro v' wb22 ho' hg'
                              have HX22 := hid (box_grow HOW.out HXA.out (by decide) hg')
                              have HST := hid (st_app HST.out HBC.out ho' hg')
                              obtain ⟨va, vc, rfl⟩ := ownb_form ho'
                              clear ho' hg' HOC HBC HOW HBS HLN HXA
                              have HE := hid (show enc p = (l21 ++ cnt z.toNat) ++ (((p.cd.drop (k + 1)).flatMap insC.W)) from by rw [HE.out, List.append_assoc])
                              obtain ⟨l22, hl'⟩ : ∃ l', l' = l21 ++ cnt z.toNat := ⟨_, rfl⟩
                              rw [← hl'] at HST HE ⊢
                              clear hl'
                              go_wp2_with fail
                              exact ⟨⟨k + 1, l22, _, _, by omega, rfl, by go_num, HST, HE⟩, by simp [intOf]; omega⟩
                        | true =>
                          have HE := hid (show enc p = lq ++ (cnt x.toNat ++ ((opc u2 y ++ (opc u3 z ++ ((p.cd.drop (k + 1)).flatMap insC.W))))) from HE.out)
                          have y1 : W4.cell? ⟨gi, 1, none⟩ = some (.int .i64 x) := cell_of_row _ _ 1 _ _ _ HX3.out
                          go_wp2_with fail
                          refine (HC1.out (by first | trivial | rfl) W4).mono ?_
                          rintro e wa23 ⟨vx, rfl, hoc, hbc⟩
                          have HOC := hid hoc
                          have HBC := hid hbc
                          clear hoc hbc
                          obtain ⟨xa, xc, rfl⟩ := ownb_form HOC.out
                          have HOW := hid (row_low HST.out.2 HBC.out)
                          have HBS := hid (show W.heap.size ≤ wa23.heap.size from Nat.le_trans HST.out.1.size HBC.out.size)
                          have HXA := hid ((HBC.out.block _ (lt_blk HX3.out)).trans HX3.out)
                          have HLN := hid (show lq.length + (cnt x.toNat).length ≤ 70368744177664 from by have h1 := HEL.out; rw [HE.out] at h1; simp only [List.length_append] at h1; omega)
                          clear y1
                          go_wp2_with (at_builtin; go_loud (refine wpl_by rfl _ _ rfl W.heap.size W4.heap.size (.slice va lq.length vc) lq (cnt x.toNat) xa xc rfl HOW.out rfl HOC.out HLN.out HBS.out ?_))
                          intro v' wb23 ho' hg'
                          have HX23 := hid (box_grow HOW.out HXA.out (by decide) hg')
                          have HST := hid (st_app HST.out HBC.out ho' hg')
                          obtain ⟨va, vc, rfl⟩ := ownb_form ho'
                          clear ho' hg' HOC HBC HOW HBS HLN HXA
                          have HE := hid (show enc p = (lq ++ cnt x.toNat) ++ ((opc u2 y ++ (opc u3 z ++ ((p.cd.drop (k + 1)).flatMap insC.W)))) from by rw [HE.out, List.append_assoc])
                          obtain ⟨l23, hl'⟩ : ∃ l', l' = lq ++ cnt x.toNat := ⟨_, rfl⟩
                          rw [← hl'] at HST HE ⊢
                          clear hl'
                          go_upto_region 43 with fail
                          cases u2 with
                          | false =>
                            have HE := hid (show enc p = l23 ++ ((opc u3 z ++ ((p.cd.drop (k + 1)).flatMap insC.W))) from HE.out)
                            go_upto_region 45 with fail
                            cases u3 with
                            | false =>
                              have HE := hid (show enc p = l23 ++ (((p.cd.drop (k + 1)).flatMap insC.W)) from HE.out)
                              go_wp2_with fail
                              exact ⟨⟨k + 1, l23, _, _, by omega, rfl, by go_num, HST, HE⟩, by simp [intOf]; omega⟩
                            | true =>
                              have HE := hid (show enc p = l23 ++ (cnt z.toNat ++ (((p.cd.drop (k + 1)).flatMap insC.W))) from HE.out)
                              have y3 : wb23.cell? ⟨gi, 3, none⟩ = some (.int .i64 z) := cell_of_row _ _ 3 _ _ _ HX23.out
                              go_wp2_with fail
                              refine (HC3.out (by first | trivial | rfl) wb23).mono ?_
                              rintro e wa24 ⟨vx, rfl, hoc, hbc⟩
                              have HOC := hid hoc
                              have HBC := hid hbc
                              clear hoc hbc
                              obtain ⟨xa, xc, rfl⟩ := ownb_form HOC.out
                              have HOW := hid (row_low HST.out.2 HBC.out)
                              have HBS := hid (show W.heap.size ≤ wa24.heap.size from Nat.le_trans HST.out.1.size HBC.out.size)
                              have HXA := hid ((HBC.out.block _ (lt_blk HX23.out)).trans HX23.out)
                              have HLN := hid (show l23.length + (cnt z.toNat).length ≤ 70368744177664 from by have h1 := HEL.out; rw [HE.out] at h1; simp only [List.length_append] at h1; omega)
                              clear y3
                              go_wp2_with (at_builtin; go_loud (refine wpl_by rfl _ _ rfl W.heap.size wb23.heap.size (.slice va l23.length vc) l23 (cnt z.toNat) xa xc rfl HOW.out rfl HOC.out HLN.out HBS.out ?_))
                              intro v' wb24 ho' hg'
                              have HX24 := hid (box_grow HOW.out HXA.out (by decide) hg')
                              have HST := hid (st_app HST.out HBC.out ho' hg')
                              obtain ⟨va, vc, rfl⟩ := ownb_form ho'
                              clear ho' hg' HOC HBC HOW HBS HLN HXA
                              have HE := hid (show enc p = (l23 ++ cnt z.toNat) ++ (((p.cd.drop (k + 1)).flatMap insC.W)) from by rw [HE.out, List.append_assoc])
                              obtain ⟨l24, hl'⟩ : ∃ l', l' = l23 ++ cnt z.toNat := ⟨_, rfl⟩
                              rw [← hl'] at HST HE ⊢
                              clear hl'
                              go_wp2_with fail
                              exact ⟨⟨k + 1, l24, _, _, by omega, rfl, by go_num, HST, HE⟩, by simp [intOf]; omega⟩
                          | true =>
                            have HE := hid (show enc p = l23 ++ (cnt y.toNat ++ ((opc u3 z ++ ((p.cd.drop (k + 1)).flatMap insC.W)))) from HE.out)
                            have y2 : wb23.cell? ⟨gi, 2, none⟩ = some (.int .i64 y) := cell_of_row _ _ 2 _ _ _ HX23.out
                            go_wp2_with fail
                            refine (HC2.out (by first | trivial | rfl) wb23).mono ?_
                            rintro e wa25 ⟨vx, rfl, hoc, hbc⟩
                            have HOC := hid hoc
                            have HBC := hid hbc
                            clear hoc hbc
                            obtain ⟨xa, xc, rfl⟩ := ownb_form HOC.out
                            have HOW := hid (row_low HST.out.2 HBC.out)
                            have HBS := hid (show W.heap.size ≤ wa25.heap.size from Nat.le_trans HST.out.1.size HBC.out.size)
                            have HXA := hid ((HBC.out.block _ (lt_blk HX23.out)).trans HX23.out)
                            have HLN := hid (show l23.length + (cnt y.toNat).length ≤ 70368744177664 from by have h1 := HEL.out; rw [HE.out] at h1; simp only [List.length_append] at h1; omega)
                            clear y2
                            go_wp2_with (at_builtin; go_loud (refine wpl_by rfl _ _ rfl W.heap.size wb23.heap.size (.slice va l23.length vc) l23 (cnt y.toNat) xa xc rfl HOW.out rfl HOC.out HLN.out HBS.out ?_))
                            intro v' wb25 ho' hg'
                            have HX25 := hid (box_grow HOW.out HXA.out (by decide) hg')
                            have HST := hid (st_app HST.out HBC.out ho' hg')
                            obtain ⟨va, vc, rfl⟩ := ownb_form ho'
                            clear ho' hg' HOC HBC HOW HBS HLN HXA
                            have HE := hid (show enc p = (l23 ++ cnt y.toNat) ++ ((opc u3 z ++ ((p.cd.drop (k + 1)).flatMap insC.W))) from by rw [HE.out, List.append_assoc])
                            obtain ⟨l25, hl'⟩ : ∃ l', l' = l23 ++ cnt y.toNat := ⟨_, rfl⟩
                            rw [← hl'] at HST HE ⊢
                            clear hl'
                            go_upto_region 45 with fail
                            cases u3 with
                            | false =>
                              have HE := hid (show enc p = l25 ++ (((p.cd.drop (k + 1)).flatMap insC.W)) from HE.out)
                              go_wp2_with fail
                              exact ⟨⟨k + 1, l25, _, _, by omega, rfl, by go_num, HST, HE⟩, by simp [intOf]; omega⟩
                            | true =>
                              have HE := hid (show enc p = l25 ++ (cnt z.toNat ++ (((p.cd.drop (k + 1)).flatMap insC.W))) from HE.out)
                              have y3 : wb25.cell? ⟨gi, 3, none⟩ = some (.int .i64 z) := cell_of_row _ _ 3 _ _ _ HX25.out
                              go_wp2_with fail
                              refine (HC3.out (by first | trivial | rfl) wb25).mono ?_
                              rintro e wa26 ⟨vx, rfl, hoc, hbc⟩
                              have HOC := hid hoc
                              have HBC := hid hbc
                              clear hoc hbc
                              obtain ⟨xa, xc, rfl⟩ := ownb_form HOC.out
                              have HOW := hid (row_low HST.out.2 HBC.out)
                              have HBS := hid (show W.heap.size ≤ wa26.heap.size from Nat.le_trans HST.out.1.size HBC.out.size)
                              have HXA := hid ((HBC.out.block _ (lt_blk HX25.out)).trans HX25.out)
                              have HLN := hid (show l25.length + (cnt z.toNat).length ≤ 70368744177664 from by have h1 := HEL.out; rw [HE.out] at h1; simp only [List.length_append] at h1; omega)
                              clear y3
                              go_wp2_with (at_builtin; go_loud (refine wpl_by rfl _ _ rfl W.heap.size wb25.heap.size (.slice va l25.length vc) l25 (cnt z.toNat) xa xc rfl HOW.out rfl HOC.out HLN.out HBS.out ?_))
                              intro v' wb26 ho' hg'
                              have HX26 := hid (box_grow HOW.out HXA.out (by decide) hg')
                              have HST := hid (st_app HST.out HBC.out ho' hg')
                              obtain ⟨va, vc, rfl⟩ := ownb_form ho'
                              clear ho' hg' HOC HBC HOW HBS HLN HXA
                              have HE := hid (show enc p = (l25 ++ cnt z.toNat) ++ (((p.cd.drop (k + 1)).flatMap insC.W)) from by rw [HE.out, List.append_assoc])
                              obtain ⟨l26, hl'⟩ : ∃ l', l' = l25 ++ cnt z.toNat := ⟨_, rfl⟩
                              rw [← hl'] at HST HE ⊢
                              clear hl'
                              go_wp2_with fail
                              exact ⟨⟨k + 1, l26, _, _, by omega, rfl, by go_num, HST, HE⟩, by simp [intOf]; omega⟩
                      · obtain rfl : k = p.cd.length := by omega
                        have g1 : ¬ (p.cd.length : Int) < (p.cd.length : Int) := by omega
                        have HE := hid (show enc p = lk from by rw [HE.out, List.drop_length, List.flatMap_nil, List.append_nil])
                        go_wp2_with fail
                        refine bodyPost_ret (results_tmp2 rfl _ _ _) rfl ?_
                        refine ⟨bch HB.out HST.out.1, _, rfl, ?_⟩
                        rw [HE.out]
                        exact own_base HST.out.2 HB.out.size
end Go.Proofs.Ytnclpdgbjefpmaa.L
