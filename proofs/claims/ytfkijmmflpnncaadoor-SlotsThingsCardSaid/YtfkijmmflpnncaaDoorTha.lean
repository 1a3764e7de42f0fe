import Derived.Test.YtfkijmmflpnncaaDoorTh9
namespace Go.Proofs.YtfkijmmflpnncaaDoor.L
open Go.RowKit Bs Go.Maps
set_option linter.unusedVariables false
theorem sfB_7 : (rtC (rtC (rtC (rtC (rtC (rtC (rtC ((bdC (hdC (rtC (rtC (bdC (bdC (rtC (hdC (rtC (rtC (rtC (rtC (rtC (rtC (Option.getD Tryd.f3.body Code.skip))))))))))))))))))))))) = .seq (hdC (rtC (rtC (rtC (rtC (rtC (rtC (rtC ((bdC (hdC (rtC (rtC (bdC (bdC (rtC (hdC (rtC (rtC (rtC (rtC (rtC (rtC (Option.getD Tryd.f3.body Code.skip)))))))))))))))))))))))) (rtC (rtC (rtC (rtC (rtC (rtC (rtC (rtC ((bdC (hdC (rtC (rtC (bdC (bdC (rtC (hdC (rtC (rtC (rtC (rtC (rtC (rtC (Option.getD Tryd.f3.body Code.skip)))))))))))))))))))))))) := by kernel_rfl
set_option maxHeartbeats 16000000 in
set_option maxRecDepth 100000 in
theorem seg_7 (Q : Exit → Act → World → Prop) (w0 W : World) (l : List Rw) (d : List Dr) (pt pu : Nat) (Ft Fu : List Nat) (bm bo bn : Nat) (vn : Value) (o : Opd) (sv : Value) (sn sj : Int) (u : Nat → Value) (hpw : Pw w0) (hv : inR o.v)
    (hS : Sa w0 W l d pt pu Ft Fu bm bo bn vn vn o)
    (nx : ∀ (a' : Act) (W' : World), (∃ u' : Nat → Value, a' = { tmps := #[u' 0, u' 1, u' 2, .pointer (some ⟨pt, 0, none⟩), u' 4, .pointer (some ⟨pu, 0, none⟩), u' 6, .pointer (some ⟨bm, 0, none⟩), u' 8, u' 9, .pointer (some ⟨bo, 0, none⟩), u' 11, u' 12, u' 13, u' 14, u' 15, u' 16, u' 17, u' 18, u' 19, u' 20, u' 21, u' 22, u' 23, u' 24, u' 25, u' 26, u' 27, u' 28, u' 29, u' 30, u' 31, u' 32, u' 33, u' 34, u' 35, u' 36, u' 37, u' 38, u' 39, u' 40, u' 41, u' 42, u' 43, u' 44, u' 45, u' 46, u' 47, u' 48, u' 49, u' 50, u' 51, u' 52, u' 53, u' 54, u' 55, u' 56, u' 57, u' 58, u' 59, u' 60, u' 61, u' 62, u' 63, u' 64, sv, .int .i64 sn, .int .i64 sj, u' 68, u' 69, u' 70, u' 71, u' 72, u' 73, u' 74, u' 75, u' 76, u' 77, u' 78, u' 79, u' 80, u' 81, u' 82, u' 83, u' 84, u' 85, u' 86, u' 87, u' 88, u' 89, u' 90, u' 91, u' 92, u' 93, u' 94, u' 95, u' 96, u' 97, u' 98, u' 99, u' 100, u' 101, u' 102, u' 103, u' 104, u' 105, u' 106, u' 107, u' 108, u' 109, u' 110, u' 111, u' 112, u' 113, u' 114, u' 115, u' 116, u' 117, u' 118, u' 119, u' 120, u' 121, u' 122, u' 123, u' 124, u' 125, u' 126, u' 127, u' 128, u' 129, u' 130, u' 131, u' 132, u' 133, u' 134, u' 135, u' 136, u' 137, u' 138, u' 139, u' 140, u' 141, u' 142, u' 143, u' 144, u' 145, u' 146, u' 147, u' 148, u' 149, u' 150, u' 151, u' 152, u' 153, u' 154, u' 155, u' 156, u' 157, u' 158, u' 159, u' 160, u' 161, u' 162, u' 163, u' 164, u' 165, u' 166, u' 167, u' 168, u' 169, u' 170, u' 171, u' 172, u' 173, u' 174, u' 175, u' 176, u' 177, u' 178, u' 179, u' 180, u' 181, u' 182, u' 183, u' 184, u' 185, u' 186, u' 187, u' 188, u' 189, u' 190, u' 191, u' 192, u' 193, u' 194, u' 195, u' 196, u' 197, u' 198, u' 199, u' 200, u' 201, u' 202, u' 203, u' 204, u' 205, u' 206, u' 207, u' 208, u' 209, u' 210, u' 211, u' 212, u' 213, u' 214, u' 215, u' 216, u' 217, u' 218, u' 219, u' 220, u' 221, u' 222, u' 223, u' 224, u' 225, u' 226, u' 227, u' 228, u' 229, u' 230, u' 231, u' 232, u' 233, u' 234, u' 235, u' 236, u' 237, u' 238, u' 239, u' 240, u' 241, u' 242, u' 243, u' 244, u' 245, u' 246, u' 247, u' 248, u' 249, u' 250, u' 251, u' 252, u' 253, u' 254, u' 255, u' 256, u' 257, u' 258, u' 259, u' 260, u' 261, u' 262, u' 263, u' 264, u' 265, u' 266, u' 267, u' 268, u' 269, u' 270, u' 271, u' 272, u' 273, u' 274, u' 275, u' 276, u' 277, u' 278, u' 279, u' 280, u' 281, u' 282, u' 283, u' 284], defers := [] } ∧ True) → Sa w0 W' l d pt pu Ft Fu bm bo bn vn vn o → Q .normal a' W') :
    Code.wp Tryd.prog (rtC (rtC (rtC (rtC (rtC (rtC (rtC ((bdC (hdC (rtC (rtC (bdC (bdC (rtC (hdC (rtC (rtC (rtC (rtC (rtC (rtC (Option.getD Tryd.f3.body Code.skip))))))))))))))))))))))) Q { tmps := #[u 0, u 1, u 2, .pointer (some ⟨pt, 0, none⟩), u 4, .pointer (some ⟨pu, 0, none⟩), u 6, .pointer (some ⟨bm, 0, none⟩), u 8, u 9, .pointer (some ⟨bo, 0, none⟩), u 11, u 12, u 13, .pointer (some ⟨bn, 0, none⟩), u 15, u 16, u 17, u 18, u 19, u 20, u 21, u 22, u 23, u 24, u 25, u 26, u 27, u 28, u 29, u 30, u 31, u 32, u 33, u 34, u 35, u 36, u 37, u 38, u 39, u 40, u 41, u 42, u 43, u 44, u 45, u 46, u 47, u 48, u 49, u 50, u 51, u 52, u 53, u 54, u 55, u 56, u 57, u 58, u 59, u 60, u 61, u 62, u 63, u 64, sv, .int .i64 sn, .int .i64 sj, u 68, u 69, u 70, u 71, u 72, u 73, u 74, u 75, u 76, u 77, u 78, u 79, u 80, u 81, u 82, u 83, u 84, u 85, u 86, u 87, u 88, u 89, u 90, u 91, u 92, u 93, u 94, u 95, u 96, u 97, u 98, u 99, u 100, u 101, u 102, u 103, u 104, u 105, u 106, u 107, u 108, u 109, u 110, u 111, u 112, u 113, u 114, u 115, u 116, u 117, u 118, u 119, u 120, u 121, u 122, u 123, u 124, u 125, u 126, u 127, u 128, u 129, u 130, u 131, u 132, u 133, u 134, u 135, u 136, u 137, u 138, u 139, u 140, u 141, u 142, u 143, u 144, u 145, u 146, u 147, u 148, u 149, u 150, u 151, u 152, u 153, u 154, u 155, u 156, u 157, u 158, u 159, u 160, u 161, u 162, u 163, u 164, u 165, u 166, u 167, u 168, u 169, u 170, u 171, u 172, u 173, u 174, u 175, u 176, u 177, u 178, u 179, u 180, u 181, u 182, u 183, u 184, u 185, u 186, u 187, u 188, u 189, u 190, u 191, u 192, u 193, u 194, u 195, u 196, u 197, u 198, u 199, u 200, u 201, u 202, u 203, u 204, u 205, u 206, u 207, u 208, u 209, u 210, u 211, u 212, u 213, u 214, u 215, u 216, u 217, u 218, u 219, u 220, u 221, u 222, u 223, u 224, u 225, u 226, u 227, u 228, u 229, u 230, u 231, u 232, u 233, u 234, u 235, u 236, u 237, u 238, u 239, u 240, u 241, u 242, u 243, u 244, u 245, u 246, u 247, u 248, u 249, u 250, u 251, u 252, u 253, u 254, u 255, u 256, u 257, u 258, u 259, u 260, u 261, u 262, u 263, u 264, u 265, u 266, u 267, u 268, u 269, u 270, u 271, u 272, u 273, u 274, u 275, u 276, u 277, u 278, u 279, u 280, u 281, u 282, u 283, u 284], defers := [] } W := by
  have NX := hid nx
  have HS := hid hS
  have hdl : d.length ≤ 65536 := by rw [hS.rel.len]; exact Nat.le_trans hS.ro.ok.ct hS.ro.ok.mm
  obtain ⟨va, vc, hva, hit⟩ := own_itemsD hS.od
  have AS := hid (at_slot hS.sx hS.rel o.v)
  have RA := hid (fun (W' : World) (hb : Below W.heap.size W W') => rat_any 5 vn d o.v W' (own_itemsD (hS.od.low hb)) hdl)
  have HF := hid hS.fr
  have cv := cell_in (j := 4) hS.fr.op rfl
  have lo := lt_of_block hS.fr.op
  have HVA := hid hva
  clear nx hS hit
  rw [sfB_7]
  simp only [hdC, rtC, bdC, Option.getD, Tryd.f3]
  generalize hLd : d.length = L at *
  clear hLd
  rcases AS.out with ⟨hat, hcall⟩ | ⟨hat, hcall⟩
  · have CL := hid hcall
    clear hcall AS
    go_wp2_with fail
    refine CL.out.mono ?_
    rintro e w1 ⟨rfl, hb⟩
    have B1 := hid (hb.trans ((LT.belowA w1 (.cells #[.int .i64 0, .string ByteArray.empty] 29)).mono hb.size))
    have HX := hid (show (w1.alloc (.cells #[.int .i64 0, .string ByteArray.empty] 29)).heap[w1.heap.size]? = some (.cells #[.int .i64 0, .string ByteArray.empty] 29 (0, 0)) from heap_alloc_new w1 _)
    have F1 := hid (HF.out.low B1.out)
    have cm0 := cell_in (j := 0) F1.out.m rfl
    have cm1 := cell_in (j := 1) F1.out.m rfl
    have cv1 := cell_in (j := 4) F1.out.op rfl
    have lo1 := lt_of_block F1.out.op
    have lm1 := lt_of_block F1.out.m
    rw [HVA.out] at cm1
    have RA1 := hid (RA.out _ B1.out)
    rw [HVA.out] at RA1
    clear hb cv lo
    go_wp2_with fail
    generalize w1.alloc (.cells #[.int .i64 0, .string ByteArray.empty] 29) = w2 at *
    refine RA1.out.mono ?_
    rintro e w3 ⟨rfl, hb3⟩
    have B3 := hid (B1.out.trans (hb3.mono B1.out.size))
    have x0 := cell_in (j := 0) (cells_low HX.out hb3) rfl
    have x1 := cell_in (j := 1) (cells_low HX.out hb3) rfl
    have lx := lt_of_block (cells_low HX.out hb3)
    clear hb3 cm0 cm1 cv1 lo1 lm1
    rw [hat]
    go_wp2_with fail
    exact NX.out _ _ (ex_u rfl trivial) (HS.out.low B3.out)
  · have CL := hid hcall
    clear hcall AS
    go_wp2_with fail
    refine CL.out.mono ?_
    rintro e w1 ⟨⟨ss, xx, yy, rfl⟩, hb⟩
    have B1 := hid (hb.trans ((LT.belowA w1 (.cells #[.int .i64 xx, .string yy] 29)).mono hb.size))
    have HX := hid (show (w1.alloc (.cells #[.int .i64 xx, .string yy] 29)).heap[w1.heap.size]? = some (.cells #[.int .i64 xx, .string yy] 29 (0, 0)) from heap_alloc_new w1 _)
    have F1 := hid (HF.out.low B1.out)
    have cm0 := cell_in (j := 0) F1.out.m rfl
    have cm1 := cell_in (j := 1) F1.out.m rfl
    have cv1 := cell_in (j := 4) F1.out.op rfl
    have lo1 := lt_of_block F1.out.op
    have lm1 := lt_of_block F1.out.m
    rw [HVA.out] at cm1
    have RA1 := hid (RA.out _ B1.out)
    rw [HVA.out] at RA1
    clear hb cv lo
    go_wp2_with fail
    generalize w1.alloc (.cells #[.int .i64 xx, .string yy] 29) = w2 at *
    refine RA1.out.mono ?_
    rintro e w3 ⟨rfl, hb3⟩
    have B3 := hid (B1.out.trans (hb3.mono B1.out.size))
    have x0 := cell_in (j := 0) (cells_low HX.out hb3) rfl
    have x1 := cell_in (j := 1) (cells_low HX.out hb3) rfl
    have lx := lt_of_block (cells_low HX.out hb3)
    clear hb3 cm0 cm1 cv1 lo1 lm1
    generalize atD d o.v = at0 at *
    have ng : ¬ at0 < 0 := by omega
    go_wp2_with fail
    exact NX.out _ _ (ex_u rfl trivial) (HS.out.low B3.out)
end Go.Proofs.YtfkijmmflpnncaaDoor.L
