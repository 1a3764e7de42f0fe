import Derived.Test.YtfkijmmflpnncaaDoorThc
namespace Go.Proofs.YtfkijmmflpnncaaDoor.L
open Go.RowKit Bs Go.Maps
set_option linter.unusedVariables false
theorem sfS_0 : (Option.getD Tryd.f3.body Code.skip) = .seq (hdC (Option.getD Tryd.f3.body Code.skip)) (rtC (Option.getD Tryd.f3.body Code.skip)) := by kernel_rfl
theorem sfS_1 : (rtC (Option.getD Tryd.f3.body Code.skip)) = .seq (hdC (rtC (Option.getD Tryd.f3.body Code.skip))) (rtC (rtC (Option.getD Tryd.f3.body Code.skip))) := by kernel_rfl
theorem sfS_2 : (rtC (rtC (Option.getD Tryd.f3.body Code.skip))) = .seq (hdC (rtC (rtC (Option.getD Tryd.f3.body Code.skip)))) (rtC (rtC (rtC (Option.getD Tryd.f3.body Code.skip)))) := by kernel_rfl
theorem sfS_3 : (rtC (rtC (rtC (Option.getD Tryd.f3.body Code.skip)))) = .seq (hdC (rtC (rtC (rtC (Option.getD Tryd.f3.body Code.skip))))) (rtC (rtC (rtC (rtC (Option.getD Tryd.f3.body Code.skip))))) := by kernel_rfl
theorem sfS_4 : (rtC (rtC (rtC (rtC (Option.getD Tryd.f3.body Code.skip))))) = .seq (hdC (rtC (rtC (rtC (rtC (Option.getD Tryd.f3.body Code.skip)))))) (rtC (rtC (rtC (rtC (rtC (Option.getD Tryd.f3.body Code.skip)))))) := by kernel_rfl
theorem sfS_5 : (rtC (rtC (rtC (rtC (rtC (Option.getD Tryd.f3.body Code.skip)))))) = .seq (hdC (rtC (rtC (rtC (rtC (rtC (Option.getD Tryd.f3.body Code.skip))))))) (rtC (rtC (rtC (rtC (rtC (rtC (Option.getD Tryd.f3.body Code.skip))))))) := by kernel_rfl
set_option maxHeartbeats 16000000 in
set_option maxRecDepth 100000 in
theorem pre_law (Q : Exit → Act → World → Prop) (w : World) (sa : Option Addr) (sc n : Nat) (hta : Tab w)
    (nx : ∀ (a' : Act) (W' : World) (pt pu bm : Nat) (Ft Fu : List Nat), (∃ u' : Nat → Value, a' = { tmps := #[.slice sa n sc, u' 1, u' 2, .pointer (some ⟨pt, 0, none⟩), u' 4, .pointer (some ⟨pu, 0, none⟩), u' 6, .pointer (some ⟨bm, 0, none⟩), u' 8, u' 9, u' 10, u' 11, u' 12, u' 13, u' 14, u' 15, u' 16, u' 17, u' 18, u' 19, u' 20, u' 21, u' 22, u' 23, u' 24, u' 25, u' 26, u' 27, u' 28, u' 29, u' 30, u' 31, u' 32, u' 33, u' 34, u' 35, u' 36, u' 37, u' 38, u' 39, u' 40, u' 41, u' 42, u' 43, u' 44, u' 45, u' 46, u' 47, u' 48, u' 49, u' 50, u' 51, u' 52, u' 53, u' 54, u' 55, u' 56, u' 57, u' 58, u' 59, u' 60, u' 61, u' 62, u' 63, u' 64, u' 65, u' 66, u' 67, u' 68, u' 69, u' 70, u' 71, u' 72, u' 73, u' 74, u' 75, u' 76, u' 77, u' 78, u' 79, u' 80, u' 81, u' 82, u' 83, u' 84, u' 85, u' 86, u' 87, u' 88, u' 89, u' 90, u' 91, u' 92, u' 93, u' 94, u' 95, u' 96, u' 97, u' 98, u' 99, u' 100, u' 101, u' 102, u' 103, u' 104, u' 105, u' 106, u' 107, u' 108, u' 109, u' 110, u' 111, u' 112, u' 113, u' 114, u' 115, u' 116, u' 117, u' 118, u' 119, u' 120, u' 121, u' 122, u' 123, u' 124, u' 125, u' 126, u' 127, u' 128, u' 129, u' 130, u' 131, u' 132, u' 133, u' 134, u' 135, u' 136, u' 137, u' 138, u' 139, u' 140, u' 141, u' 142, u' 143, u' 144, u' 145, u' 146, u' 147, u' 148, u' 149, u' 150, u' 151, u' 152, u' 153, u' 154, u' 155, u' 156, u' 157, u' 158, u' 159, u' 160, u' 161, u' 162, u' 163, u' 164, u' 165, u' 166, u' 167, u' 168, u' 169, u' 170, u' 171, u' 172, u' 173, u' 174, u' 175, u' 176, u' 177, u' 178, u' 179, u' 180, u' 181, u' 182, u' 183, u' 184, u' 185, u' 186, u' 187, u' 188, u' 189, u' 190, u' 191, u' 192, u' 193, u' 194, u' 195, u' 196, u' 197, u' 198, u' 199, u' 200, u' 201, u' 202, u' 203, u' 204, u' 205, u' 206, u' 207, u' 208, u' 209, u' 210, u' 211, u' 212, u' 213, u' 214, u' 215, u' 216, u' 217, u' 218, u' 219, u' 220, u' 221, u' 222, u' 223, u' 224, u' 225, u' 226, u' 227, u' 228, u' 229, u' 230, u' 231, u' 232, u' 233, u' 234, u' 235, u' 236, u' 237, u' 238, u' 239, u' 240, u' 241, u' 242, u' 243, u' 244, u' 245, u' 246, u' 247, u' 248, u' 249, u' 250, u' 251, u' 252, u' 253, u' 254, u' 255, u' 256, u' 257, u' 258, u' 259, u' 260, u' 261, u' 262, u' 263, u' 264, u' 265, u' 266, u' 267, u' 268, u' 269, u' 270, u' 271, u' 272, u' 273, u' 274, u' 275, u' 276, u' 277, u' 278, u' 279, u' 280, u' 281, u' 282, u' 283, u' 284], defers := [] } ∧ True) → Sb w W' [] [] pt pu Ft Fu bm (.slice none 0 0) → Code.wp Tryd.prog (rtC (rtC (rtC (rtC (rtC (rtC (Option.getD Tryd.f3.body Code.skip))))))) Q a' W') :
    Code.wp Tryd.prog (Option.getD Tryd.f3.body Code.skip) Q { tmps := #[.slice sa n sc, undef, undef, undef, undef, undef, undef, undef, undef, undef, undef, undef, undef, undef, undef, undef, undef, undef, undef, undef, undef, undef, undef, undef, undef, undef, undef, undef, undef, undef, undef, undef, undef, undef, undef, undef, undef, undef, undef, undef, undef, undef, undef, undef, undef, undef, undef, undef, undef, undef, undef, undef, undef, undef, undef, undef, undef, undef, undef, undef, undef, undef, undef, undef, undef, undef, undef, undef, undef, undef, undef, undef, undef, undef, undef, undef, undef, undef, undef, undef, undef, undef, undef, undef, undef, undef, undef, undef, undef, undef, undef, undef, undef, undef, undef, undef, undef, undef, undef, undef, undef, undef, undef, undef, undef, undef, undef, undef, undef, undef, undef, undef, undef, undef, undef, undef, undef, undef, undef, undef, undef, undef, undef, undef, undef, undef, undef, undef, undef, undef, undef, undef, undef, undef, undef, undef, undef, undef, undef, undef, undef, undef, undef, undef, undef, undef, undef, undef, undef, undef, undef, undef, undef, undef, undef, undef, undef, undef, undef, undef, undef, undef, undef, undef, undef, undef, undef, undef, undef, undef, undef, undef, undef, undef, undef, undef, undef, undef, undef, undef, undef, undef, undef, undef, undef, undef, undef, undef, undef, undef, undef, undef, undef, undef, undef, undef, undef, undef, undef, undef, undef, undef, undef, undef, undef, undef, undef, undef, undef, undef, undef, undef, undef, undef, undef, undef, undef, undef, undef, undef, undef, undef, undef, undef, undef, undef, undef, undef, undef, undef, undef, undef, undef, undef, undef, undef, undef, undef, undef, undef, undef, undef, undef, undef, undef, undef, undef, undef, undef, undef, undef, undef, undef, undef, undef, undef, undef, undef, undef, undef, undef, undef, undef, undef, undef, undef, undef, undef, undef, undef, undef, undef, undef, undef, undef, undef, undef, undef, undef, undef, undef, undef, undef, undef, undef], defers := [] } w := by
  have NX := hid nx
  have FX := hid (fixed_any w hta)
  clear nx hta
  rw [sfS_0, sfS_1, sfS_2, sfS_3, sfS_4, sfS_5]
  generalize hT : (rtC (rtC (rtC (rtC (rtC (rtC (Option.getD Tryd.f3.body Code.skip))))))) = TL at *
  clear hT
  simp only [hdC, rtC, Option.getD, Tryd.f3]
  go_wp2_with fail
  refine FX.out.mono ?_
  rintro e w1 ⟨rfl, b1⟩
  have B1 := hid b1
  clear b1
  go_wp2_with fail
  refine (LT.new_any 5 w1 (by decide)).mono ?_
  rintro e w2 ⟨pt, Ft, rfl, T2, f2, b2⟩
  have HT2 := hid T2
  have HF2 := hid f2
  have HB2 := hid b2
  clear T2 f2 b2
  go_wp2_with fail
  refine (LS.new_any 5 w2 (by decide)).mono ?_
  rintro e w3 ⟨pu, Fu, rfl, T3, f3, b3⟩
  have HT3 := hid T3
  have HF3 := hid f3
  have HB3 := hid b3
  clear T3 f3 b3
  have RN := hid (rnew_any 5 w3)
  have hnd : newD 5 = .tuple #[.agg #[.int .i64 5, .slice none 0 0], .int .i64 0] := rfl
  rw [hnd] at RN
  clear hnd
  go_wp2_with fail
  refine RN.out.mono ?_
  rintro e w4 ⟨rfl, b4⟩
  have HB4 := hid b4
  clear b4
  go_wp2_with fail
  have bC := LT.belowA w4 (.cells #[.int .i64 5, .slice none 0 0] 35)
  have z1 := B1.out.size
  have z2 := HB2.out.size
  have z3 := HB3.out.size
  have z4 := HB4.out.size
  have b34 := HB4.out.trans (bC.mono HB4.out.size)
  have b24 := HB3.out.trans (b34.mono HB3.out.size)
  have b14 := HB2.out.trans (b24.mono HB2.out.size)
  have b04 := B1.out.trans (b14.mono B1.out.size)
  refine NX.out _ _ pt pu w4.heap.size Ft Fu (ex_u rfl trivial) ⟨⟨HT2.out.low b24, HT3.out.low b34, fun k hk hc => ?_, fun k hk => ?_, fun k hk => ?_, b04⟩, heap_alloc_new w4 _, World.ownsRow_nil _ _ _ _, Rel.nil, ⟨OkS.nil (by decide), fun i => inR_zero⟩, by omega⟩
  · have := HT2.out.lt k hk
    have := HF3.out k hc
    omega
  · have := HF2.out k hk
    omega
  · have := HF3.out k hk
    omega
set_option maxHeartbeats 16000000 in
set_option maxRecDepth 100000 in
theorem fin_law (Q : Exit → Act → World → Prop) (w0 W : World) (l : List Rw) (d : List Dr) (pt pu : Nat) (Ft Fu : List Nat) (bm : Nat) (v : Value) (u : Nat → Value) (hS : Sb w0 W l d pt pu Ft Fu bm v)
    (nx : ∀ (a' : Act) (W' : World), (∃ u' : Nat → Value, a' = { tmps := #[u' 0, u' 1, .bool true, u' 3, u' 4, u' 5, u' 6, u' 7, u' 8, u' 9, u' 10, u' 11, u' 12, u' 13, u' 14, u' 15, u' 16, u' 17, u' 18, u' 19, u' 20, u' 21, u' 22, u' 23, u' 24, u' 25, u' 26, u' 27, u' 28, u' 29, u' 30, u' 31, u' 32, u' 33, u' 34, u' 35, u' 36, u' 37, u' 38, u' 39, u' 40, u' 41, u' 42, u' 43, u' 44, u' 45, u' 46, u' 47, u' 48, u' 49, u' 50, u' 51, u' 52, u' 53, u' 54, u' 55, u' 56, u' 57, u' 58, u' 59, u' 60, u' 61, u' 62, u' 63, u' 64, u' 65, u' 66, u' 67, u' 68, u' 69, u' 70, u' 71, u' 72, u' 73, u' 74, u' 75, u' 76, u' 77, u' 78, u' 79, u' 80, u' 81, u' 82, u' 83, u' 84, u' 85, u' 86, u' 87, u' 88, u' 89, u' 90, u' 91, u' 92, u' 93, u' 94, u' 95, u' 96, u' 97, u' 98, u' 99, u' 100, u' 101, u' 102, u' 103, u' 104, u' 105, u' 106, u' 107, u' 108, u' 109, u' 110, u' 111, u' 112, u' 113, u' 114, u' 115, u' 116, u' 117, u' 118, u' 119, u' 120, u' 121, u' 122, u' 123, u' 124, u' 125, u' 126, u' 127, u' 128, u' 129, u' 130, u' 131, u' 132, u' 133, u' 134, u' 135, u' 136, u' 137, u' 138, u' 139, u' 140, u' 141, u' 142, u' 143, u' 144, u' 145, u' 146, u' 147, u' 148, u' 149, u' 150, u' 151, u' 152, u' 153, u' 154, u' 155, u' 156, u' 157, u' 158, u' 159, u' 160, u' 161, u' 162, u' 163, u' 164, u' 165, u' 166, u' 167, u' 168, u' 169, u' 170, u' 171, u' 172, u' 173, u' 174, u' 175, u' 176, u' 177, u' 178, u' 179, u' 180, u' 181, u' 182, u' 183, u' 184, u' 185, u' 186, u' 187, u' 188, u' 189, u' 190, u' 191, u' 192, u' 193, u' 194, u' 195, u' 196, u' 197, u' 198, u' 199, u' 200, u' 201, u' 202, u' 203, u' 204, u' 205, u' 206, u' 207, u' 208, u' 209, u' 210, u' 211, u' 212, u' 213, u' 214, u' 215, u' 216, u' 217, u' 218, u' 219, u' 220, u' 221, u' 222, u' 223, u' 224, u' 225, u' 226, u' 227, u' 228, u' 229, u' 230, u' 231, u' 232, u' 233, u' 234, u' 235, u' 236, u' 237, u' 238, u' 239, u' 240, u' 241, u' 242, u' 243, u' 244, u' 245, u' 246, u' 247, u' 248, u' 249, u' 250, u' 251, u' 252, u' 253, u' 254, u' 255, u' 256, u' 257, u' 258, u' 259, u' 260, u' 261, u' 262, u' 263, u' 264, u' 265, u' 266, u' 267, u' 268, u' 269, u' 270, u' 271, u' 272, u' 273, u' 274, u' 275, u' 276, u' 277, u' 278, u' 279, u' 280, u' 281, u' 282, u' 283, u' 284], defers := [] } ∧ True) → Below W.heap.size W W' → Q .ret a' W') :
    Code.wp Tryd.prog (rtC (rtC (rtC (rtC (rtC (rtC (rtC (Option.getD Tryd.f3.body Code.skip)))))))) Q { tmps := #[u 0, u 1, u 2, .pointer (some ⟨pt, 0, none⟩), u 4, .pointer (some ⟨pu, 0, none⟩), u 6, .pointer (some ⟨bm, 0, none⟩), u 8, u 9, u 10, u 11, u 12, u 13, u 14, u 15, u 16, u 17, u 18, u 19, u 20, u 21, u 22, u 23, u 24, u 25, u 26, u 27, u 28, u 29, u 30, u 31, u 32, u 33, u 34, u 35, u 36, u 37, u 38, u 39, u 40, u 41, u 42, u 43, u 44, u 45, u 46, u 47, u 48, u 49, u 50, u 51, u 52, u 53, u 54, u 55, u 56, u 57, u 58, u 59, u 60, u 61, u 62, u 63, u 64, u 65, u 66, u 67, u 68, u 69, u 70, u 71, u 72, u 73, u 74, u 75, u 76, u 77, u 78, u 79, u 80, u 81, u 82, u 83, u 84, u 85, u 86, u 87, u 88, u 89, u 90, u 91, u 92, u 93, u 94, u 95, u 96, u 97, u 98, u 99, u 100, u 101, u 102, u 103, u 104, u 105, u 106, u 107, u 108, u 109, u 110, u 111, u 112, u 113, u 114, u 115, u 116, u 117, u 118, u 119, u 120, u 121, u 122, u 123, u 124, u 125, u 126, u 127, u 128, u 129, u 130, u 131, u 132, u 133, u 134, u 135, u 136, u 137, u 138, u 139, u 140, u 141, u 142, u 143, u 144, u 145, u 146, u 147, u 148, u 149, u 150, u 151, u 152, u 153, u 154, u 155, u 156, u 157, u 158, u 159, u 160, u 161, u 162, u 163, u 164, u 165, u 166, u 167, u 168, u 169, u 170, u 171, u 172, u 173, u 174, u 175, u 176, u 177, u 178, u 179, u 180, u 181, u 182, u 183, u 184, u 185, u 186, u 187, u 188, u 189, u 190, u 191, u 192, u 193, u 194, u 195, u 196, u 197, u 198, u 199, u 200, u 201, u 202, u 203, u 204, u 205, u 206, u 207, u 208, u 209, u 210, u 211, u 212, u 213, u 214, u 215, u 216, u 217, u 218, u 219, u 220, u 221, u 222, u 223, u 224, u 225, u 226, u 227, u 228, u 229, u 230, u 231, u 232, u 233, u 234, u 235, u 236, u 237, u 238, u 239, u 240, u 241, u 242, u 243, u 244, u 245, u 246, u 247, u 248, u 249, u 250, u 251, u 252, u 253, u 254, u 255, u 256, u 257, u 258, u 259, u 260, u 261, u 262, u 263, u 264, u 265, u 266, u 267, u 268, u 269, u 270, u 271, u 272, u 273, u 274, u 275, u 276, u 277, u 278, u 279, u 280, u 281, u 282, u 283, u 284], defers := [] } W := by
  have NX := hid nx
  have hdl : d.length ≤ 65536 := by rw [hS.rel.len]; exact Nat.le_trans hS.ro.ok.ct hS.ro.ok.mm
  obtain ⟨va, vc, hva⟩ := own_slice hS.od
  have OD := hS.od
  rw [hva] at OD
  have hnm : (srt (nmL l)).length ≤ 65536 := by rw [srt_len, nmL_len]; exact Nat.le_trans hS.ro.ok.ct hS.ro.ok.mm
  have NT := hid (fun (X : World) (hb : Below W.heap.size W X) => namesLT_any pt 5 l Ft X (hS.sx.low hb).t)
  have NS := hid (fun (X : World) (hb : Below W.heap.size W X) => namesLS_any pu 5 l Fu X (hS.sx.low hb).u)
  have RN := hid (fun (X : World) (hb : Below W.heap.size W X) => rnamesL 5 va vc d.length d rfl X (OD.low hb) hdl)
  rw [hS.rel.names] at RN
  have HM := hid hS.m
  rw [hva] at HM
  have T1 := And.intro (cell_in (j := 0) HM.out rfl) (cell_in (j := 1) HM.out rfl)
  have lm := lt_of_block HM.out
  generalize hss : srt (nmL l) = ss at *
  have TX := hid (fun (X : World) (v1 v2 : Value) (b1 b2 : Nat) (o1 : OwnS X b1 v1 ss) (o2 : OwnS X b2 v2 ss) => show Calls Tryd.prog 22 #[v1, v2] X fun e w' => e = .returned (.bool true) ∧ Below X.heap.size X w' from by
    obtain ⟨a1, c1, rfl, i1⟩ := own_itemsS o1
    obtain ⟨a2, c2, rfl, i2⟩ := own_itemsS o2
    refine (texts_same a1 a2 c1 c2 ss X hnm i1 i2).mono ?_
    rintro e w' ⟨rfl, n, rfl⟩
    exact ⟨rfl, belowDn X n⟩)
  clear nx hS OD hss hva hnm
  generalize hLd : d.length = L at *
  clear hLd
  simp only [rtC, Option.getD, Tryd.f3]
  have B1 := hid (Below.refl W.heap.size W)
  have RN1 := hid RN.out
  have RN2 := hid RN.out
  have TX1 := hid TX.out
  have TX2 := hid TX.out
  clear RN TX
  go_wp2_with fail
  go_region_held3 (fun X => X.cell? ⟨bm, 0, none⟩ = some (.int .i64 5) ∧ X.cell? ⟨bm, 1, none⟩ = some (.slice va L vc))
    (first | exact T1 | exact T2 | exact T3 | exact T4 | exact T5 | exact T6 | exact T7)
    (first
      | (go_at_call 23; refine (NT.out _ B1.out.drew).mono ?_; rintro e w2 ⟨v1, rfl, ho1, hb⟩; have B2 := hid (B1.out.drew.trans (hb.mono B1.out.drew.size)); have H2 := hid (cells_low HM.out B2.out); have T2 := And.intro (cell_in (j := 0) H2.out rfl) (cell_in (j := 1) H2.out rfl); have O1 := hid ho1; clear hb ho1)
      | (go_at_call 24; refine (RN1.out _ B2.out).mono ?_; rintro e w3 ⟨v2, rfl, ho2, hb⟩; have B3 := hid (B2.out.trans (hb.mono B2.out.size)); have H3 := hid (cells_low HM.out B3.out); have T3 := And.intro (cell_in (j := 0) H3.out rfl) (cell_in (j := 1) H3.out rfl); have O2 := hid ho2; have O1' := hid (own_low O1.out hb); clear hb ho2 RN1)
      | (go_at_call 22; refine (TX1.out _ _ _ _ _ O1'.out O2.out).mono ?_; rintro e w4 ⟨rfl, hb⟩; have B4 := hid (B3.out.trans (hb.mono B3.out.size)); have H4 := hid (cells_low HM.out B4.out); have T4 := And.intro (cell_in (j := 0) H4.out rfl) (cell_in (j := 1) H4.out rfl); clear hb TX1)
      | (go_at_call 25; refine (NS.out _ B4.out).mono ?_; rintro e w5 ⟨v3, rfl, ho3, hb⟩; have B5 := hid (B4.out.trans (hb.mono B4.out.size)); have H5 := hid (cells_low HM.out B5.out); have T5 := And.intro (cell_in (j := 0) H5.out rfl) (cell_in (j := 1) H5.out rfl); have O3 := hid ho3; clear hb ho3)
      | (go_at_call 24; refine (RN2.out _ B5.out).mono ?_; rintro e w6 ⟨v4, rfl, ho4, hb⟩; have B6 := hid (B5.out.trans (hb.mono B5.out.size)); have H6 := hid (cells_low HM.out B6.out); have T6 := And.intro (cell_in (j := 0) H6.out rfl) (cell_in (j := 1) H6.out rfl); have O4 := hid ho4; have O3' := hid (own_low O3.out hb); clear hb ho4)
      | (go_at_call 22; refine (TX2.out _ _ _ _ _ O3'.out O4.out).mono ?_; rintro e w7 ⟨rfl, hb⟩; have B7 := hid (B6.out.trans (hb.mono B6.out.size)); have H7 := hid (cells_low HM.out B7.out); have T7 := And.intro (cell_in (j := 0) H7.out rfl) (cell_in (j := 1) H7.out rfl); clear hb))
  go_wp2_with fail
  exact NX.out _ _ (ex_u rfl trivial) (by first | exact B7.out | exact B7.out.drew | exact below_drewN B7.out _)
set_option maxHeartbeats 16000000 in
set_option maxRecDepth 100000 in
/-- THE LAW: tables of structs and of texts answer like one of numbers. -/
theorem things_any (v : Value) (os : List Opd) (w : World) (hv : ItemsO w v os) (hg : GoodO os) (hnum : ∀ o ∈ os, inR o.v) (ht : Tab w) (hp : Pw w) :
    Calls Tryd.prog 3 #[v] w fun e w' => e = .returned (.bool true) ∧ Below w.heap.size w w' := by
  have hv' := hv
  obtain ⟨sa, sc, rfl, _⟩ := hv
  go_enter Tryd.func3, Tryd.ntmps3
  refine pre_law _ w sa sc os.length ht ?_
  rintro a W pt pu bm Ft Fu ⟨u1, rfl, -⟩ S1
  refine loop_law _ w W [] [] pt pu Ft Fu bm _ sa sc os os.length rfl hg.1 u1 ht hp hv' hg hnum S1 ?_
  rintro a W2 l d F1 F2 v2 ⟨u2, rfl, -⟩ S2
  refine fin_law _ w W2 l d pt pu F1 F2 bm v2 u2 S2 ?_
  rintro a W3 ⟨u3, rfl, -⟩ hb
  go_ret
  exact ⟨rfl, S2.sx.lo.trans (hb.mono S2.sx.lo.size)⟩
end Go.Proofs.YtfkijmmflpnncaaDoor.L
