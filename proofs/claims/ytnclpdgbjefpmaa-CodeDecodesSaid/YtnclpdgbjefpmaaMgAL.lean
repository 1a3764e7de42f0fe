import Derived.Test.YtnclpdgbjefpmaaJa
namespace Go.Proofs.Ytnclpdgbjefpmaa.L
open Go.RowKit
set_option linter.unusedVariables false
set_option linter.unusedSimpArgs false
set_option maxHeartbeats 1000000 in
set_option maxRecDepth 100000 in
theorem dsgn_bad {g : Nat} {a : Option Addr} {cap : Nat} {B : List UInt8} {W : World} {k c p : Nat} (h : Dm g a cap B W k c p) (hc : c ≠ 0) :
    Calls Try.prog 71 #[.pointer (some ⟨g, 0, none⟩)] W fun e w' => e = .returned (.int .i64 0) ∧ w' = W := by
  have HC := hid (dcnt_bad h hc 0 2000000000000000000)
  clear h
  go_enter Try.func71, Try.ntmps71
  go_wp2_with fail
  refine HC.out.mono ?_
  rintro e w1 ⟨rfl, rfl⟩
  go_wp2_with fail
  go_ret
  exact ⟨rfl, rfl⟩
set_option maxHeartbeats 1000000 in
set_option maxRecDepth 100000 in
theorem dsgn_any {g : Nat} {a : Option Addr} {cap : Nat} {B : List UInt8} {W : World} {k : Nat} (h : Dm g a cap B W k 0 0) :
    Calls Try.prog 71 #[.pointer (some ⟨g, 0, none⟩)] W (Do (α := Int) g a cap B (fun (z : Int) v _ => v = .int .i64 z) (fun v _ => v = .int .i64 0) (sgnC.P B k) W) := by
  have HC := hid (dcnt_any h 0 2000000000000000000 (by decide) (by decide))
  rw [sgnC_P]
  obtain ⟨r, hr⟩ : ∃ r, r = cntD B k 0 2000000000000000000 9 0 k 0 := ⟨_, rfl⟩
  rw [← hr] at HC ⊢
  cases r with
  | error x =>
    obtain ⟨c, p⟩ := x
    clear hr h
    go_enter Try.func71, Try.ntmps71
    go_wp2_with fail
    refine HC.out.mono ?_
    rintro e w1 ⟨v, k', rfl, rfl, h0, h1, h2⟩
    have HF := hid h1
    have HGB := hid h2
    have HC0 := hid h0
    clear h1 h2 h0
    go_wp2_with fail
    go_ret
    exact ⟨_, k', rfl, rfl, HC0.out, HF.out, HGB.out⟩
  | ok x =>
    obtain ⟨n, k1⟩ := x
    have hle := (cntD_le hr.symm).2
    clear hr h
    have e1 := tmodN n 2
    have e2 := tdivN n 2
    show Calls _ _ _ _ (Do (α := Int) g a cap B (fun (z : Int) v _ => v = .int .i64 z) (fun v _ => v = .int .i64 0) (.ok (unz n, k1)) W)
    by_cases hod : n % 2 = 1
    · have e3 : (n : Int) % 2 = 1 := by omega
      have HU := hid (show unz n = (-(((n + 1) / 2 : Nat) : Int)) from by unfold unz; rw [if_pos hod])
      have HOD := hid hod
      clear hod
      go_enter Try.func71, Try.ntmps71
      go_wp2_with fail
      refine HC.out.mono ?_
      rintro e w1 ⟨v, rfl, rfl, h1, h2⟩
      have HR1 := hid h1
      have HGB := hid h2
      clear h1 h2
      go_wp2_with fail
      go_ret
      exact ⟨_, rfl, congrArg (Value.int .i64) (show _ = unz n from by rw [HU.out]; have := HOD.out; (try unfold wrap64); omega), HR1.out, HGB.out⟩
    · have e3 : (n : Int) % 2 = 0 := by omega
      have HU := hid (show unz n = ((n / 2 : Nat) : Int) from by unfold unz; rw [if_neg hod])
      clear hod
      go_enter Try.func71, Try.ntmps71
      go_wp2_with fail
      refine HC.out.mono ?_
      rintro e w1 ⟨v, rfl, rfl, h1, h2⟩
      have HR1 := hid h1
      have HGB := hid h2
      clear h1 h2
      go_wp2_with fail
      go_ret
      exact ⟨_, rfl, by rw [HU.out]; first | rfl | simp, HR1.out, HGB.out⟩
set_option maxHeartbeats 1000000 in
set_option maxRecDepth 100000 in
theorem dtxt_bad {g : Nat} {a : Option Addr} {cap : Nat} {B : List UInt8} {W : World} {k c p : Nat} (h : Dm g a cap B W k c p) (hc : c ≠ 0) :
    Calls Try.prog 70 #[.pointer (some ⟨g, 0, none⟩)] W fun e w' => e = .returned (.string ⟨#[]⟩) ∧ w' = W := by
  have HC := hid (dcnt_bad h hc 0 127)
  have c2 : W.cell? ⟨g, 2, none⟩ = some (.int .i64 (c : Int)) := cell_of_row _ _ 2 _ _ _ h.box
  have h1 : ((c : Int) != 0) = true := by simpa using hc
  have h2 : ((c : Int) == 0) = false := by simpa using hc
  clear h
  go_enter Try.func70, Try.ntmps70
  go_wp2_with fail
  refine HC.out.mono ?_
  rintro e w1 ⟨rfl, hw⟩
  subst hw
  go_wp2_with fail
  go_ret
  exact ⟨rfl, rfl⟩
set_option maxHeartbeats 1000000 in
set_option maxRecDepth 100000 in
theorem dtxt_any {g : Nat} {a : Option Addr} {cap : Nat} {B : List UInt8} {W : World} {k : Nat} (h : Dm g a cap B W k 0 0) :
    Calls Try.prog 70 #[.pointer (some ⟨g, 0, none⟩)] W (Do (α := ByteArray) g a cap B (fun (s : ByteArray) v _ => v = .string s) (fun v _ => v = .string ⟨#[]⟩) (textC.P B k) W) := by
  have HC := hid (dcnt_any h 0 127 (by decide) (by decide))
  have hlen := h.len
  have hcpl := h.cpl
  have hcpm := h.cpm
  have hbm : B.length ≤ maxLen := by unfold maxLen; omega
  rw [textC_P]
  obtain ⟨r, hr⟩ : ∃ r, r = cntD B k 0 127 9 0 k 0 := ⟨_, rfl⟩
  rw [← hr] at HC ⊢
  cases r with
  | error x =>
    obtain ⟨c, p⟩ := x
    clear hr h
    go_enter Try.func70, Try.ntmps70
    go_wp2_with fail
    refine HC.out.mono ?_
    rintro e w1 ⟨v, k', rfl, rfl, h0, h1, h2⟩
    have HF := hid h1
    have HGB := hid h2
    have HC0 := hid h0
    have c2 : w1.cell? ⟨g, 2, none⟩ = some (.int .i64 (c : Int)) := cell_of_row _ _ 2 _ _ _ h1.box
    have n1 : ((c : Int) != 0) = true := by simpa using h0
    have n2 : ((c : Int) == 0) = false := by simpa using h0
    clear h1 h2 h0
    go_wp2_with fail
    go_ret
    exact ⟨_, k', rfl, rfl, HC0.out, HF.out, HGB.out⟩
  | ok x =>
    obtain ⟨n, k1⟩ := x
    have hle := (cntD_le hr.symm).2
    have hk1 : 0 < B.length := by
      obtain ⟨u, _, _, _, _, _, ho, _⟩ := cnt_bwd 9 0 k 0 n k1 hr.symm
      have := ho.le
      have := cnt_pos u
      omega
    obtain ⟨b, off, rfl⟩ : ∃ b off, a = some ⟨b, off, none⟩ := by
      rcases h.row with h0 | ⟨b, off, e, _⟩
      · omega
      · exact ⟨b, off, e⟩
    clear hr h
    show Calls _ _ _ _ (Do (α := ByteArray) g (some ⟨b, off, none⟩) cap B (fun (s : ByteArray) v _ => v = .string s) (fun v _ => v = .string ⟨#[]⟩) (if B.length - k1 < n then .error (201, B.length) else .ok (⟨((B.drop k1).take n).toArray⟩, k1 + n)) W)
    by_cases hs : B.length - k1 < n
    · rw [if_pos hs]
      have HS := hid hs
      clear hs
      go_enter Try.func70, Try.ntmps70
      go_wp2_with fail
      refine HC.out.mono ?_
      rintro e w1 ⟨v, rfl, rfl, h1, h2⟩
      have hk1 := h1.le
      have HR1 := hid h1
      have HGB := hid h2
      have c0 : w1.cell? ⟨g, 0, none⟩ = some (.slice (some ⟨b, off, none⟩) B.length cap) := cell_of_row _ _ 0 _ _ _ h1.box
      have c1 : w1.cell? ⟨g, 1, none⟩ = some (.int .i64 (k1 : Int)) := cell_of_row _ _ 1 _ _ _ h1.box
      have c2 : w1.cell? ⟨g, 2, none⟩ = some (.int .i64 0) := cell_of_row _ _ 2 _ _ _ h1.box
      have a1 : (B.length : Int) - (k1 : Int) < (n : Int) := by have := HS.out; omega
      have a2 : ¬ (n : Int) ≤ (B.length : Int) - (k1 : Int) := by omega
      clear h1 h2
      go_upto_region 4 with fail
      go_quiet (fail)
      have HD := hid (drew_below w1 nq)
      have HR2 := hid (HR1.out.low' HD.out)
      have HG2 := hid (HGB.out.trans (Gb.of HD.out))
      generalize w1.drewN nq = V at *
      clear c0 c1 c2
      have c0 : V.cell? ⟨g, 0, none⟩ = some (.slice (some ⟨b, off, none⟩) B.length cap) := cell_of_row _ _ 0 _ _ _ HR2.out.box
      have HFA := hid (dfail_any HR2.out 201 B.length)
      go_wp2_with fail
      refine HFA.out.mono ?_
      rintro e w2 ⟨rfl, h1, h2⟩
      have HR4 := hid h1
      have HG4 := hid (HG2.out.trans h2)
      clear h1 h2 HFA
      go_wp2_with fail
      go_ret
      exact ⟨_, _, rfl, rfl, by decide, HR4.out, HG4.out⟩
    · rw [if_neg hs]
      have HS := hid hs
      clear hs
      go_enter Try.func70, Try.ntmps70
      go_wp2_with fail
      refine HC.out.mono ?_
      rintro e w1 ⟨v, rfl, rfl, h1, h2⟩
      have hk1 := h1.le
      have HR1 := hid h1
      have HGB := hid h2
      have c0 : w1.cell? ⟨g, 0, none⟩ = some (.slice (some ⟨b, off, none⟩) B.length cap) := cell_of_row _ _ 0 _ _ _ h1.box
      have c1 : w1.cell? ⟨g, 1, none⟩ = some (.int .i64 (k1 : Int)) := cell_of_row _ _ 1 _ _ _ h1.box
      have c2 : w1.cell? ⟨g, 2, none⟩ = some (.int .i64 0) := cell_of_row _ _ 2 _ _ _ h1.box
      have a1 : ¬ (B.length : Int) - (k1 : Int) < (n : Int) := by have := HS.out; omega
      clear h1 h2
      go_upto_region 4 with fail
      go_quiet (fail)
      have HD := hid (drew_below w1 nq)
      have HR2 := hid (HR1.out.low' HD.out)
      have HGC := hid (HGB.out.trans (Gb.of HD.out))
      generalize w1.drewN nq = V at *
      clear c0 c1 c2
      have c1 : V.cell? ⟨g, 1, none⟩ = some (.int .i64 (k1 : Int)) := cell_of_row _ _ 1 _ _ _ HR2.out.box
      have f1 : V.frozen? ⟨g, 1, none⟩ = false := frz_row HR2.out.box 1
      have HG2 := hid (gb_set HR2.out.box 1 (.int .i64 ((k1 : Int) + (n : Int))))
      have HB2 := hid (show (V.setCell ⟨g, 1, none⟩ (.int .i64 ((k1 : Int) + (n : Int)))).heap[g]? = some (.cells #[.slice (some ⟨b, off, none⟩) B.length cap, .int .i64 ((k1 + n : Nat) : Int), .int .i64 ((0 : Nat) : Int), .int .i64 ((0 : Nat) : Int)] 73 (0, 0)) from by
        rw [setCell_eq_setRow _ _ _ _ _ _ _ HR2.out.box, setRow_heap _ _ _ _ _ _ HR2.out.box]; rfl)
      have HR3 := hid (HR2.out.go HG2.out HB2.out (by have := HS.out; omega))
      have HGD := hid (HGC.out.trans HG2.out)
      go_upto_region 8 with fail
      generalize V.setCell ⟨g, 1, none⟩ (.int .i64 ((k1 : Int) + (n : Int))) = U at *
      clear c1 f1
      have c0 : U.cell? ⟨g, 0, none⟩ = some (.slice (some ⟨b, off, none⟩) B.length cap) := cell_of_row _ _ 0 _ _ _ HR3.out.box
      have c1 : U.cell? ⟨g, 1, none⟩ = some (.int .i64 ((k1 : Int) + (n : Int))) := cell_of_row _ _ 1 _ _ _ HR3.out.box
      obtain ⟨tx, htx⟩ : ∃ tx, tx = (B.drop k1).take n := ⟨_, rfl⟩
      have htl : tx.length = n := by rw [htx]; have := HS.out; simp; omega
      obtain ⟨A, hA⟩ : ∃ A, A = (if cap = k1 then some ⟨b, off, none⟩ else some (⟨b, off + k1, none⟩ : Addr)) := ⟨_, rfl⟩
      have hcv : ∀ q, (convert 32 9 (.slice A n (cap - k1))).run Try.prog (U.drewN q) = .ok (.string ⟨tx.toArray⟩) (U.drewN q) := by
        intro q
        rw [← htl]
        by_cases hck : cap = k1
        · rw [hA, if_pos hck]
          refine run_convert_bytes_back (P := Try.prog) (U.drewN q) 32 9 5 ⟨b, off, none⟩ (cap - k1) tx Try.underlying32 Try.underlying5 Try.underlying9 (fun j hj => ?_)
          have := HS.out
          omega
        · rw [hA, if_neg hck]
          refine run_convert_bytes_back (P := Try.prog) (U.drewN q) 32 9 5 ⟨b, off + k1, none⟩ (cap - k1) tx Try.underlying32 Try.underlying5 Try.underlying9 (fun j hj => ?_)
          rcases HR3.out.row with h0 | ⟨b', off', e, hrow⟩
          · omega
          · injection e with e
            injection e with e1 e2
            subst e1 e2
            rw [Go.WideShapes.add_plain, World.cell?_drewN]
            have := hrow (k1 + j) (by have := HS.out; omega)
            rw [Nat.add_assoc, this]
            congr 2
            unfold iv
            congr 1
            rw [show tx[j] = B.getD (k1 + j) 0 from by simp only [htx]; rw [List.getElem_take, List.getElem_drop, List.getD_eq_getElem?_getD, List.getElem?_eq_getElem (by omega)]; rfl]
      have hnn : ((k1 : Int) + (n : Int)).toNat - k1 = n := by omega
      have HTX := hid htx
      have HTL := hid htl
      clear htx htl
      have a3 := HS.out
      have a4 : (k1 : Int) + (n : Int) ≤ (cap : Int) := by omega
      have hsz : ∀ q, (sizeOf (Try.prog.elem 32)).run Try.prog (U.drewN q) = .ok 1 (U.drewN q) := fun q => by kernel_rfl
      have a6 : (k1 : Int) ≤ (k1 : Int) + (n : Int) := by omega
      have a5 : IntKind.i64.wrap (k1 : Int) = (k1 : Int) := by rw [IntKind.wrap_i64]; omega
      have a7 : (k1 : Int) + (n : Int) - (n : Int) = (k1 : Int) := by omega
      refine wp_region_quiet_lit (by kernel_rfl) (by kernel_rfl) ?_
      iterate 14 (quiet_step (fail))
      refine wpQuiet_step (fun K hK => ?_)
      go_simp
      try rw [hnn]
      rw [← hA]
      refine hK _ ?_
      clear hK K
      have HA := hid hA
      clear hA hnn
      iterate 2 (quiet_step (fail))
      refine wpQuiet_nil ?_
      rintro _ ⟨nq, rfl⟩
      go_wp2_with fail
      go_ret
      exact ⟨_, rfl, by rw [← HTX.out]; rfl, HR3.out.low' (drew_below _ _), HGD.out.trans (Gb.of (drew_below _ _))⟩
end Go.Proofs.Ytnclpdgbjefpmaa.L
namespace Go.Proofs.Ytnclpdgbjefpmaa.L
open Go.RowKit
set_option linter.unusedVariables false
set_option linter.unusedSimpArgs false
def mg4 : List UInt8 := [0x42, 0x52, 0x54, 1]
theorem mg4_step (B : List UInt8) (j : Nat) (h : j < 4) : hqD B (mg4.drop j) j = if j < B.length then (if (B.getD j 0).toNat = (mg4.getD j 0).toNat then hqD B (mg4.drop (j + 1)) (j + 1) else .error (200, j)) else .error (201, j) := by
  rcases (by omega : j = 0 ∨ j = 1 ∨ j = 2 ∨ j = 3) with rfl | rfl | rfl | rfl <;> rfl
theorem mg4_cell {w : World} {mb : Nat} (h : w.heap[mb]? = some (.cells #[.int .u8 66, .int .u8 82, .int .u8 84, .int .u8 1] 5 (0, 0))) (j : Nat) (hj : j < 4) : w.cell? ⟨mb, j, none⟩ = some (.int .u8 (iv (mg4.getD j 0))) := by
  rcases (by omega : j = 0 ∨ j = 1 ∨ j = 2 ∨ j = 3) with rfl | rfl | rfl | rfl <;> exact cell_of_row _ _ _ _ _ _ h
set_option maxHeartbeats 2000000 in
set_option maxRecDepth 100000 in
theorem dhead_any {g : Nat} {a : Option Addr} {cap : Nat} {B : List UInt8} {W : World} (h : Dm g a cap B W 0 0 0) :
    Calls Try.prog 29 #[.pointer (some ⟨g, 0, none⟩)] W (Do (α := Unit) g a cap B (fun (_ : Unit) v _ => v = .tuple #[]) (fun v _ => v = .tuple #[]) (headC.P B 0) W) := by
  rw [headC_P]
  have hlen := h.len
  have hbm : B.length ≤ maxLen := by unfold maxLen; omega
  obtain ⟨res, hres⟩ : ∃ r, r = hqD B [0x42, 0x52, 0x54, 1] 0 := ⟨_, rfl⟩
  rw [← hres]
  have HRES := hid (show hqD B (mg4.drop 0) 0 = res from hres.symm)
  have HA := hid (belowA W (.cells #[.int .u8 66, .int .u8 82, .int .u8 84, .int .u8 1] 5))
  have HR := hid (h.low' HA.out)
  have HM := hid (heap_alloc_new W (.cells #[.int .u8 66, .int .u8 82, .int .u8 84, .int .u8 1] 5))
  have HLG := hid (lt_blk h.box)
  clear h hres
  go_enter Try.func29, Try.ntmps29
  go_upto_region 1 with fail
  have HG0 := hid (show Gb g W (W.alloc (.cells #[.int .u8 66, .int .u8 82, .int .u8 84, .int .u8 1] 5)) from Gb.of HA.out)
  generalize W.alloc (.cells #[.int .u8 66, .int .u8 82, .int .u8 84, .int .u8 1] 5) = W1 at *
  obtain ⟨mb, hmb⟩ : ∃ b, b = W.heap.size := ⟨_, rfl⟩
  rw [← hmb] at HM ⊢
  have HMB := hid (show mb ≠ g from by have := HLG.out; omega)
  clear hmb HLG HA
  go_wp2_with fail
  go_loopw [3] (fun i wr => ∃ (j : Nat), j ≤ 4 ∧ i = .int .i64 (j : Int) ∧ Hid (Dm g a cap B wr 0 0 0) ∧ Hid (Gb g W wr) ∧ Hid (wr.heap[mb]? = some (.cells #[.int .u8 66, .int .u8 82, .int .u8 84, .int .u8 1] 5 (0, 0))) ∧ Hid (hqD B (mg4.drop j) j = res) ∧ j ≤ B.length) (fun i _ => 4 - (intOf i).toNat)
  case atStart => exact ⟨0, by omega, rfl, HR, HG0, HM, HRES, Nat.zero_le _⟩
  case round =>
    obtain ⟨j, hj, rfl, HRJ, HGB, HMJ, HE, hjb⟩ := hrel
    by_cases hlt : j < 4
    · have g1 : (j : Int) < 4 := by omega
      have g2 : (0 : Int) ≤ (j : Int) := by omega
      have he := HE.out
      rw [mg4_step B j hlt] at he
      have c0 : wr.cell? ⟨g, 0, none⟩ = some (.slice a B.length cap) := cell_of_row _ _ 0 _ _ _ HRJ.out.box
      have c1 : wr.cell? ⟨g, 1, none⟩ = some (.int .i64 0) := cell_of_row _ _ 1 _ _ _ HRJ.out.box
      by_cases hkl : j < B.length
      · rw [if_pos hkl] at he
        obtain ⟨b, off, hae, hrow⟩ : ∃ b off, a = some ⟨b, off, none⟩ ∧ ∀ i, i < B.length → wr.cell? ⟨b, off + i, none⟩ = some (.int .u8 (iv (B.getD i 0))) := by
          rcases HRJ.out.row with h0 | ⟨b, off, e, h1⟩
          · omega
          · exact ⟨b, off, e, h1⟩
        subst hae
        have y0 := hrow j hkl
        have y1 := mg4_cell HMJ.out j hlt
        obtain ⟨n0, hn0⟩ : ∃ n, n = (B.getD j 0).toNat := ⟨_, rfl⟩
        obtain ⟨n1, hn1⟩ : ∃ n, n = (mg4.getD j 0).toNat := ⟨_, rfl⟩
        unfold iv at y0 y1
        rw [← hn0] at y0 he
        rw [← hn1] at y1 he
        have a1 : ¬ (B.length : Int) ≤ (j : Int) := by omega
        have a2 : (j : Int) < (B.length : Int) := by omega
        clear hrow hn0 hn1 hkl
        by_cases hq : n0 = n1
        · rw [if_pos hq] at he
          have HE3 := hid he
          have e1 : ((n0 : Int) != (n1 : Int)) = false := by rw [hq]; simp
          have e2 : ((n0 : Int) == (n1 : Int)) = true := by rw [hq]; simp
          have hj2 : j + 1 ≤ B.length := by omega
          clear he
          subst hq
          go_upto_region 6 with fail
          go_quiet (fail)
          have HD := hid (drew_below wr nq)
          have HR2 := hid (HRJ.out.low' HD.out)
          have HG2 := hid (HGB.out.trans (Gb.of HD.out))
          have HM2 := hid ((HD.out.block _ (lt_blk HMJ.out)).trans HMJ.out)
          generalize wr.drewN nq = V at *
          clear c0 c1 y0 y1
          go_wp2_with fail
          exact ⟨⟨j + 1, by omega, by go_num, HR2, HG2, HM2, HE3, hj2⟩, by simp [intOf]; omega⟩
        · rw [if_neg hq] at he
          have HE3 := hid he.symm
          have e1 : ((n0 : Int) != (n1 : Int)) = true := by simp; omega
          have e2 : ((n0 : Int) == (n1 : Int)) = false := by simp; omega
          clear he
          go_upto_region 6 with fail
          go_quiet (fail)
          have HD := hid (drew_below wr nq)
          have HR3 := hid (HRJ.out.low' HD.out)
          have HG3 := hid (HGB.out.trans (Gb.of HD.out))
          generalize wr.drewN nq = V at *
          clear c0 c1 y0 y1
          have HFA := hid (dfail_any HR3.out 200 j)
          go_wp2_with fail
          refine HFA.out.mono ?_
          rintro e w2 ⟨rfl, h1, h2⟩
          have HR4 := hid h1
          have HG4 := hid (HG3.out.trans h2)
          clear h1 h2 HFA
          go_wp2_with fail
          go_end0
          rw [HE3.out]
          exact ⟨_, _, rfl, rfl, by decide, HR4.out, HG4.out⟩
      · rw [if_neg hkl] at he
        have HE3 := hid he.symm
        have a1 : (B.length : Int) ≤ (j : Int) := by omega
        have HR3 := HRJ
        have HG3 := HGB
        clear he hkl
        have HFA := hid (dfail_any HR3.out 201 j)
        go_wp2_with fail
        refine HFA.out.mono ?_
        rintro e w2 ⟨rfl, h1, h2⟩
        have HR4 := hid h1
        have HG4 := hid (HG3.out.trans h2)
        clear h1 h2 HFA
        go_wp2_with fail
        go_end0
        rw [HE3.out]
        exact ⟨_, _, rfl, rfl, by decide, HR4.out, HG4.out⟩
    · obtain rfl : j = 4 := by omega
      have HE3 := hid (show res = .ok ((), 4) from HE.out.symm)
      have c1 : wr.cell? ⟨g, 1, none⟩ = some (.int .i64 0) := cell_of_row _ _ 1 _ _ _ HRJ.out.box
      have f1 : wr.frozen? ⟨g, 1, none⟩ = false := frz_row HRJ.out.box 1
      have HG2 := hid (gb_set HRJ.out.box 1 (.int .i64 4))
      have HB2 := hid (show (wr.setCell ⟨g, 1, none⟩ (.int .i64 4)).heap[g]? = some (.cells #[.slice a B.length cap, .int .i64 ((4 : Nat) : Int), .int .i64 ((0 : Nat) : Int), .int .i64 ((0 : Nat) : Int)] 73 (0, 0)) from by
        rw [setCell_eq_setRow _ _ _ _ _ _ _ HRJ.out.box, setRow_heap _ _ _ _ _ _ HRJ.out.box]; rfl)
      have HR3 := hid (HRJ.out.go HG2.out HB2.out hjb)
      have HG3 := hid (HGB.out.trans HG2.out)
      go_wp2_with fail
      go_end0
      rw [HE3.out]
      exact ⟨_, rfl, rfl, HR3.out, HG3.out⟩
end Go.Proofs.Ytnclpdgbjefpmaa.L
