import Derived.Test.YtfkijmmflpnncaaDoorTh5
import Derived.Test.YtfkijmmflpnncaaDoorTh6
import Derived.Test.YtfkijmmflpnncaaDoorMgAT
import Derived.Test.YtfkijmmflpnncaaDoorTha
namespace Go.Proofs.YtfkijmmflpnncaaDoor.L
open Go.RowKit Bs Go.Maps
set_option linter.unusedVariables false
/-- What stands between the rounds. -/
structure Sb (w0 W : World) (l : List Rw) (d : List Dr) (pt pu : Nat) (Ft Fu : List Nat) (bm : Nat) (v : Value) : Prop where
  sx : Sx w0 W (mT l) (mS l) pt pu Ft Fu
  m : W.heap[bm]? = some (.cells #[.int .i64 5, v] 35 (0, 0))
  od : OwnD W v d
  rel : Rel l d
  ro : Ro 5 l
  hm : w0.heap.size ≤ bm
theorem sfB_0 : ((bdC (hdC (rtC (rtC (bdC (bdC (rtC (hdC (rtC (rtC (rtC (rtC (rtC (rtC (Option.getD Tryd.f3.body Code.skip)))))))))))))))) = .seq (hdC ((bdC (hdC (rtC (rtC (bdC (bdC (rtC (hdC (rtC (rtC (rtC (rtC (rtC (rtC (Option.getD Tryd.f3.body Code.skip))))))))))))))))) (rtC ((bdC (hdC (rtC (rtC (bdC (bdC (rtC (hdC (rtC (rtC (rtC (rtC (rtC (rtC (Option.getD Tryd.f3.body Code.skip))))))))))))))))) := by kernel_rfl
theorem sfB_1 : (rtC ((bdC (hdC (rtC (rtC (bdC (bdC (rtC (hdC (rtC (rtC (rtC (rtC (rtC (rtC (Option.getD Tryd.f3.body Code.skip))))))))))))))))) = .seq (hdC (rtC ((bdC (hdC (rtC (rtC (bdC (bdC (rtC (hdC (rtC (rtC (rtC (rtC (rtC (rtC (Option.getD Tryd.f3.body Code.skip)))))))))))))))))) (rtC (rtC ((bdC (hdC (rtC (rtC (bdC (bdC (rtC (hdC (rtC (rtC (rtC (rtC (rtC (rtC (Option.getD Tryd.f3.body Code.skip)))))))))))))))))) := by kernel_rfl
theorem sfB_2 : (rtC (rtC ((bdC (hdC (rtC (rtC (bdC (bdC (rtC (hdC (rtC (rtC (rtC (rtC (rtC (rtC (Option.getD Tryd.f3.body Code.skip)))))))))))))))))) = .seq (hdC (rtC (rtC ((bdC (hdC (rtC (rtC (bdC (bdC (rtC (hdC (rtC (rtC (rtC (rtC (rtC (rtC (Option.getD Tryd.f3.body Code.skip))))))))))))))))))) (rtC (rtC (rtC ((bdC (hdC (rtC (rtC (bdC (bdC (rtC (hdC (rtC (rtC (rtC (rtC (rtC (rtC (Option.getD Tryd.f3.body Code.skip))))))))))))))))))) := by kernel_rfl
theorem sfB_3 : (rtC (rtC (rtC ((bdC (hdC (rtC (rtC (bdC (bdC (rtC (hdC (rtC (rtC (rtC (rtC (rtC (rtC (Option.getD Tryd.f3.body Code.skip))))))))))))))))))) = .seq (hdC (rtC (rtC (rtC ((bdC (hdC (rtC (rtC (bdC (bdC (rtC (hdC (rtC (rtC (rtC (rtC (rtC (rtC (Option.getD Tryd.f3.body Code.skip)))))))))))))))))))) (rtC (rtC (rtC (rtC ((bdC (hdC (rtC (rtC (bdC (bdC (rtC (hdC (rtC (rtC (rtC (rtC (rtC (rtC (Option.getD Tryd.f3.body Code.skip)))))))))))))))))))) := by kernel_rfl
set_option maxHeartbeats 16000000 in
set_option maxRecDepth 100000 in
theorem body_law (Q : Exit → Act → World → Prop) (C : Code) (hC : C = (bdC (hdC (rtC (rtC (bdC (bdC (rtC (hdC (rtC (rtC (rtC (rtC (rtC (rtC (Option.getD Tryd.f3.body Code.skip)))))))))))))))) (w0 W : World) (l : List Rw) (d : List Dr) (pt pu : Nat) (Ft Fu : List Nat) (bm : Nat) (v : Value) (sa : Option Addr) (sc : Nat) (os : List Opd) (n j : Nat) (hn : n = os.length) (hj : j < n) (hnm : n ≤ maxLen) (u : Nat → Value)
    (hta : Tab w0) (hpw : Pw w0) (hit : ItemsO w0 (.slice sa n sc) os) (hgo : GoodO os) (hnum : ∀ o ∈ os, inR o.v) (hS : Sb w0 W l d pt pu Ft Fu bm v)
    (nx : ∀ (a' : Act) (W' : World) (l' : List Rw) (d' : List Dr) (Ft' Fu' : List Nat) (v' : Value), (∃ u' : Nat → Value, a' = { tmps := #[u' 0, u' 1, u' 2, .pointer (some ⟨pt, 0, none⟩), u' 4, .pointer (some ⟨pu, 0, none⟩), u' 6, .pointer (some ⟨bm, 0, none⟩), u' 8, u' 9, u' 10, u' 11, u' 12, u' 13, u' 14, u' 15, u' 16, u' 17, u' 18, u' 19, u' 20, u' 21, u' 22, u' 23, u' 24, u' 25, u' 26, u' 27, u' 28, u' 29, u' 30, u' 31, u' 32, u' 33, u' 34, u' 35, u' 36, u' 37, u' 38, u' 39, u' 40, u' 41, u' 42, u' 43, u' 44, u' 45, u' 46, u' 47, u' 48, u' 49, u' 50, u' 51, u' 52, u' 53, u' 54, u' 55, u' 56, u' 57, u' 58, u' 59, u' 60, u' 61, u' 62, u' 63, u' 64, .slice sa n sc, .int .i64 (n : Int), .int .i64 (j : Int), u' 68, u' 69, u' 70, u' 71, u' 72, u' 73, u' 74, u' 75, u' 76, u' 77, u' 78, u' 79, u' 80, u' 81, u' 82, u' 83, u' 84, u' 85, u' 86, u' 87, u' 88, u' 89, u' 90, u' 91, u' 92, u' 93, u' 94, u' 95, u' 96, u' 97, u' 98, u' 99, u' 100, u' 101, u' 102, u' 103, u' 104, u' 105, u' 106, u' 107, u' 108, u' 109, u' 110, u' 111, u' 112, u' 113, u' 114, u' 115, u' 116, u' 117, u' 118, u' 119, u' 120, u' 121, u' 122, u' 123, u' 124, u' 125, u' 126, u' 127, u' 128, u' 129, u' 130, u' 131, u' 132, u' 133, u' 134, u' 135, u' 136, u' 137, u' 138, u' 139, u' 140, u' 141, u' 142, u' 143, u' 144, u' 145, u' 146, u' 147, u' 148, u' 149, u' 150, u' 151, u' 152, u' 153, u' 154, u' 155, u' 156, u' 157, u' 158, u' 159, u' 160, u' 161, u' 162, u' 163, u' 164, u' 165, u' 166, u' 167, u' 168, u' 169, u' 170, u' 171, u' 172, u' 173, u' 174, u' 175, u' 176, u' 177, u' 178, u' 179, u' 180, u' 181, u' 182, u' 183, u' 184, u' 185, u' 186, u' 187, u' 188, u' 189, u' 190, u' 191, u' 192, u' 193, u' 194, u' 195, u' 196, u' 197, u' 198, u' 199, u' 200, u' 201, u' 202, u' 203, u' 204, u' 205, u' 206, u' 207, u' 208, u' 209, u' 210, u' 211, u' 212, u' 213, u' 214, u' 215, u' 216, u' 217, u' 218, u' 219, u' 220, u' 221, u' 222, u' 223, u' 224, u' 225, u' 226, u' 227, u' 228, u' 229, u' 230, u' 231, u' 232, u' 233, u' 234, u' 235, u' 236, u' 237, u' 238, u' 239, u' 240, u' 241, u' 242, u' 243, u' 244, u' 245, u' 246, u' 247, u' 248, u' 249, u' 250, u' 251, u' 252, u' 253, u' 254, u' 255, u' 256, u' 257, u' 258, u' 259, u' 260, u' 261, u' 262, u' 263, u' 264, u' 265, u' 266, u' 267, u' 268, u' 269, u' 270, u' 271, u' 272, u' 273, u' 274, u' 275, u' 276, u' 277, u' 278, u' 279, u' 280, u' 281, u' 282, u' 283, u' 284], defers := [] } ∧ True) → Sb w0 W' l' d' pt pu Ft' Fu' bm v' → Q .normal a' W') :
    Code.wp Tryd.prog C Q { tmps := #[u 0, u 1, u 2, .pointer (some ⟨pt, 0, none⟩), u 4, .pointer (some ⟨pu, 0, none⟩), u 6, .pointer (some ⟨bm, 0, none⟩), u 8, u 9, u 10, u 11, u 12, u 13, u 14, u 15, u 16, u 17, u 18, u 19, u 20, u 21, u 22, u 23, u 24, u 25, u 26, u 27, u 28, u 29, u 30, u 31, u 32, u 33, u 34, u 35, u 36, u 37, u 38, u 39, u 40, u 41, u 42, u 43, u 44, u 45, u 46, u 47, u 48, u 49, u 50, u 51, u 52, u 53, u 54, u 55, u 56, u 57, u 58, u 59, u 60, u 61, u 62, u 63, u 64, .slice sa n sc, .int .i64 (n : Int), .int .i64 (j : Int), u 68, u 69, u 70, u 71, u 72, u 73, u 74, u 75, u 76, u 77, u 78, u 79, u 80, u 81, u 82, u 83, u 84, u 85, u 86, u 87, u 88, u 89, u 90, u 91, u 92, u 93, u 94, u 95, u 96, u 97, u 98, u 99, u 100, u 101, u 102, u 103, u 104, u 105, u 106, u 107, u 108, u 109, u 110, u 111, u 112, u 113, u 114, u 115, u 116, u 117, u 118, u 119, u 120, u 121, u 122, u 123, u 124, u 125, u 126, u 127, u 128, u 129, u 130, u 131, u 132, u 133, u 134, u 135, u 136, u 137, u 138, u 139, u 140, u 141, u 142, u 143, u 144, u 145, u 146, u 147, u 148, u 149, u 150, u 151, u 152, u 153, u 154, u 155, u 156, u 157, u 158, u 159, u 160, u 161, u 162, u 163, u 164, u 165, u 166, u 167, u 168, u 169, u 170, u 171, u 172, u 173, u 174, u 175, u 176, u 177, u 178, u 179, u 180, u 181, u 182, u 183, u 184, u 185, u 186, u 187, u 188, u 189, u 190, u 191, u 192, u 193, u 194, u 195, u 196, u 197, u 198, u 199, u 200, u 201, u 202, u 203, u 204, u 205, u 206, u 207, u 208, u 209, u 210, u 211, u 212, u 213, u 214, u 215, u 216, u 217, u 218, u 219, u 220, u 221, u 222, u 223, u 224, u 225, u 226, u 227, u 228, u 229, u 230, u 231, u 232, u 233, u 234, u 235, u 236, u 237, u 238, u 239, u 240, u 241, u 242, u 243, u 244, u 245, u 246, u 247, u 248, u 249, u 250, u 251, u 252, u 253, u 254, u 255, u 256, u 257, u 258, u 259, u 260, u 261, u 262, u 263, u 264, u 265, u 266, u 267, u 268, u 269, u 270, u 271, u 272, u 273, u 274, u 275, u 276, u 277, u 278, u 279, u 280, u 281, u 282, u 283, u 284], defers := [] } W := by
  subst hC
  have NX := hid nx
  have HS := hid hS
  obtain ⟨a', c', es, hr⟩ := hit
  injection es with e1 e2 e3
  subst e1 e3
  have hjl : j < os.length := by omega
  obtain ⟨o, ho⟩ : ∃ o, o = os[j] := ⟨_, rfl⟩
  have hmem : o ∈ os := by rw [ho]; exact List.getElem_mem _
  have hv := hnum o hmem
  have hs := hgo.2 o hmem
  rcases hr with h0 | ⟨b, off, rfl, hbl, hc⟩
  · omega
  obtain ⟨p0, p1, p2, p3, p4⟩ := hc j hjl
  rw [← ho] at p0 p1 p2 p3 p4
  have hlo := hS.sx.lo
  rw [← hlo.cell (p := ⟨b, off + j * 5, none⟩) hbl] at p0
  rw [← hlo.cell (p := ⟨b, off + j * 5 + 1, none⟩) hbl] at p1
  rw [← hlo.cell (p := ⟨b, off + j * 5 + 2, none⟩) hbl] at p2
  rw [← hlo.cell (p := ⟨b, off + j * 5 + 3, none⟩) hbl] at p3
  rw [← hlo.cell (p := ⟨b, off + j * 5 + 4, none⟩) hbl] at p4
  have hbw : b < W.heap.size := Nat.lt_of_lt_of_le hbl hlo.size
  have IT := hid (fun (W' : World) (hb : Below w0.heap.size w0 W') => itoa_any o.v hv.1 hv.2 W' (hpw.low hb))
  have cm0 := cell_in (j := 0) hS.m rfl
  have cm1 := cell_in (j := 1) hS.m rfl
  have lm := lt_of_block hS.m
  obtain ⟨va, vc, hva⟩ := own_slice hS.od
  have HVA := hid hva
  rw [hva] at cm1
  have g1 : (j : Int) < (n : Int) := by omega
  have g0 : (0 : Int) ≤ (j : Int) := by omega
  unfold maxLen at hnm
  have HTA := hid hta
  have HPW := hid hpw
  have HV := hid hv
  have HSS := hid hs
  have HLO := hid hlo
  clear hS nx hc ho hmem hnum hgo hta hpw hlo hva hn hjl hv hs e2
  generalize hLd : d.length = L at *
  clear hLd
  have B1 := hid (HLO.out.alloc HLO.out.size (.cells #[.int .i64 o.k, .int .i64 o.a, .int .i64 o.t, .string o.s, .int .i64 o.v] 39))
  have r1 : (W.alloc (.cells #[.int .i64 o.k, .int .i64 o.a, .int .i64 o.t, .string o.s, .int .i64 o.v] 39)).heap[W.heap.size]? = some (.cells #[.int .i64 o.k, .int .i64 o.a, .int .i64 o.t, .string o.s, .int .i64 o.v] 39 (0, 0)) := heap_alloc_new W _
  have HO1 := hid r1
  have bA := hid (LT.belowA W (.cells #[.int .i64 o.k, .int .i64 o.a, .int .i64 o.t, .string o.s, .int .i64 o.v] 39))
  clear r1
  rw [sfB_0, sfB_1, sfB_2, sfB_3]
  generalize hT : (rtC (rtC (rtC (rtC ((bdC (hdC (rtC (rtC (bdC (bdC (rtC (hdC (rtC (rtC (rtC (rtC (rtC (rtC (Option.getD Tryd.f3.body Code.skip)))))))))))))))))))) = TL at *
  have HT := hid hT
  clear hT
  simp only [hdC, rtC, bdC, Option.getD, Tryd.f3]
  go_wp2_with fail
  generalize W.alloc (.cells #[.int .i64 o.k, .int .i64 o.a, .int .i64 o.t, .string o.s, .int .i64 o.v] 39) = w1 at *
  refine (IT.out w1 B1.out).mono ?_
  rintro e w2 ⟨rfl, hb2⟩
  have b2 := bA.out.trans (hb2.mono bA.out.size)
  have HO2 := hid (cells_low HO1.out hb2)
  have HM2 := hid (cells_low HS.out.m b2)
  have hcm0 := cell_in (j := 0) HM2.out rfl
  have hcm1 := cell_in (j := 1) HM2.out rfl
  rw [HVA.out] at hcm1
  have lm2 := lt_of_block HM2.out
  have HB2 := hid b2
  have HON := hid (show W.heap.size < w2.heap.size from lt_of_block HO2.out)
  clear hb2 b2 cm0 cm1 p0 p1 p2 p3 p4 HO1 lm
  go_wp2_with fail
  rw [← HT.out]
  have bC := LT.belowA w2 (.cells #[.int .i64 5, .slice va L vc] 35)
  have b3 := HB2.out.trans (bC.mono HB2.out.size)
  have lmW := lt_of_block HS.out.m
  have SA : Sa w0 (w2.alloc (.cells #[.int .i64 5, .slice va L vc] 35)) l d pt pu Ft Fu bm W.heap.size w2.heap.size v v o := by
    refine ⟨HS.out.sx.low b3, ⟨cells_low HS.out.m b3, cells_low HO2.out bC, ?_, lmW, HON.out, HS.out.hm⟩, HS.out.od.low b3, HS.out.rel, HS.out.ro⟩
    rw [HVA.out]
    exact heap_alloc_new w2 _
  have FIN : ∀ (a' : Act) (W' : World) (l' : List Rw) (d' : List Dr) (Ft' Fu' : List Nat) (vn : Value), (∃ u' : Nat → Value, a' = { tmps := #[u' 0, u' 1, u' 2, .pointer (some ⟨pt, 0, none⟩), u' 4, .pointer (some ⟨pu, 0, none⟩), u' 6, .pointer (some ⟨bm, 0, none⟩), u' 8, u' 9, .pointer (some ⟨W.heap.size, 0, none⟩), u' 11, u' 12, u' 13, .pointer (some ⟨w2.heap.size, 0, none⟩), u' 15, u' 16, u' 17, u' 18, u' 19, u' 20, u' 21, u' 22, u' 23, u' 24, u' 25, u' 26, u' 27, u' 28, u' 29, u' 30, u' 31, u' 32, u' 33, u' 34, u' 35, u' 36, u' 37, u' 38, u' 39, u' 40, u' 41, u' 42, u' 43, u' 44, u' 45, u' 46, u' 47, u' 48, u' 49, u' 50, u' 51, u' 52, u' 53, u' 54, u' 55, u' 56, u' 57, u' 58, u' 59, u' 60, u' 61, u' 62, u' 63, u' 64, .slice (some ⟨b, off, none⟩) n sc, .int .i64 (n : Int), .int .i64 (j : Int), u' 68, u' 69, u' 70, u' 71, u' 72, u' 73, u' 74, u' 75, u' 76, u' 77, u' 78, u' 79, u' 80, u' 81, u' 82, u' 83, u' 84, u' 85, u' 86, u' 87, u' 88, u' 89, u' 90, u' 91, u' 92, u' 93, u' 94, u' 95, u' 96, u' 97, u' 98, u' 99, u' 100, u' 101, u' 102, u' 103, u' 104, u' 105, u' 106, u' 107, u' 108, u' 109, u' 110, u' 111, u' 112, u' 113, u' 114, u' 115, u' 116, u' 117, u' 118, u' 119, u' 120, u' 121, u' 122, u' 123, u' 124, u' 125, u' 126, u' 127, u' 128, u' 129, u' 130, u' 131, u' 132, u' 133, u' 134, u' 135, u' 136, u' 137, u' 138, u' 139, u' 140, u' 141, u' 142, u' 143, u' 144, u' 145, u' 146, u' 147, u' 148, u' 149, u' 150, u' 151, u' 152, u' 153, u' 154, u' 155, u' 156, u' 157, u' 158, u' 159, u' 160, u' 161, u' 162, u' 163, u' 164, u' 165, u' 166, u' 167, u' 168, u' 169, u' 170, u' 171, u' 172, u' 173, u' 174, u' 175, u' 176, u' 177, u' 178, u' 179, u' 180, u' 181, u' 182, u' 183, u' 184, u' 185, u' 186, u' 187, u' 188, u' 189, u' 190, u' 191, u' 192, u' 193, u' 194, u' 195, u' 196, u' 197, u' 198, u' 199, u' 200, u' 201, u' 202, u' 203, u' 204, u' 205, u' 206, u' 207, u' 208, u' 209, u' 210, u' 211, u' 212, u' 213, u' 214, u' 215, u' 216, u' 217, u' 218, u' 219, u' 220, u' 221, u' 222, u' 223, u' 224, u' 225, u' 226, u' 227, u' 228, u' 229, u' 230, u' 231, u' 232, u' 233, u' 234, u' 235, u' 236, u' 237, u' 238, u' 239, u' 240, u' 241, u' 242, u' 243, u' 244, u' 245, u' 246, u' 247, u' 248, u' 249, u' 250, u' 251, u' 252, u' 253, u' 254, u' 255, u' 256, u' 257, u' 258, u' 259, u' 260, u' 261, u' 262, u' 263, u' 264, u' 265, u' 266, u' 267, u' 268, u' 269, u' 270, u' 271, u' 272, u' 273, u' 274, u' 275, u' 276, u' 277, u' 278, u' 279, u' 280, u' 281, u' 282, u' 283, u' 284], defers := [] } ∧ True) → Sa w0 W' l' d' pt pu Ft' Fu' bm W.heap.size w2.heap.size v vn o → Code.wp Tryd.prog (rtC (rtC (rtC (rtC (rtC ((bdC (hdC (rtC (rtC (bdC (bdC (rtC (hdC (rtC (rtC (rtC (rtC (rtC (rtC (Option.getD Tryd.f3.body Code.skip))))))))))))))))))))) Q a' W' := by
    rintro a1 W1 l1 d1 F1 F2 vn ⟨u1, rfl, -⟩ S1
    refine seg_5 Q w0 W1 l1 d1 pt pu F1 F2 bm W.heap.size w2.heap.size v vn o _ _ _ u1 S1 ?_
    rintro a2 W2 ⟨u2, rfl, -⟩ S2
    refine seg_6 Q w0 W2 l1 d1 pt pu F1 F2 bm W.heap.size w2.heap.size vn o _ _ _ u2 HPW.out HV.out S2 ?_
    rintro a3 W3 ⟨u3, rfl, -⟩ S3
    refine seg_7 Q w0 W3 l1 d1 pt pu F1 F2 bm W.heap.size w2.heap.size vn o _ _ _ u3 HPW.out HV.out S3 ?_
    rintro a4 W4 ⟨u4, rfl, -⟩ S4
    exact NX.out _ W4 l1 d1 F1 F2 vn (ex_u rfl trivial) ⟨S4.sx, S4.fr.m, S4.od, S4.rel, S4.ro, S4.fr.hm⟩
  have STEP : ∀ (a' : Act), (∃ u' : Nat → Value, a' = { tmps := #[u' 0, u' 1, u' 2, .pointer (some ⟨pt, 0, none⟩), u' 4, .pointer (some ⟨pu, 0, none⟩), u' 6, .pointer (some ⟨bm, 0, none⟩), u' 8, u' 9, .pointer (some ⟨W.heap.size, 0, none⟩), .string (tx o.v), .int .i64 0, .int .i64 0, .pointer (some ⟨w2.heap.size, 0, none⟩), u' 15, u' 16, u' 17, u' 18, u' 19, u' 20, u' 21, u' 22, u' 23, u' 24, u' 25, u' 26, u' 27, u' 28, u' 29, u' 30, u' 31, u' 32, u' 33, u' 34, u' 35, u' 36, u' 37, u' 38, u' 39, u' 40, u' 41, u' 42, u' 43, u' 44, u' 45, u' 46, u' 47, u' 48, u' 49, u' 50, u' 51, u' 52, u' 53, u' 54, u' 55, u' 56, u' 57, u' 58, u' 59, u' 60, u' 61, u' 62, u' 63, u' 64, .slice (some ⟨b, off, none⟩) n sc, .int .i64 (n : Int), .int .i64 (j : Int), u' 68, u' 69, u' 70, u' 71, u' 72, u' 73, u' 74, u' 75, u' 76, u' 77, u' 78, u' 79, u' 80, u' 81, u' 82, u' 83, u' 84, u' 85, u' 86, u' 87, u' 88, u' 89, u' 90, u' 91, u' 92, u' 93, u' 94, u' 95, u' 96, u' 97, u' 98, u' 99, u' 100, u' 101, u' 102, u' 103, u' 104, u' 105, u' 106, u' 107, u' 108, u' 109, u' 110, u' 111, u' 112, u' 113, u' 114, u' 115, u' 116, u' 117, u' 118, u' 119, u' 120, u' 121, u' 122, u' 123, u' 124, u' 125, u' 126, u' 127, u' 128, u' 129, u' 130, u' 131, u' 132, u' 133, u' 134, u' 135, u' 136, u' 137, u' 138, u' 139, u' 140, u' 141, u' 142, u' 143, u' 144, u' 145, u' 146, u' 147, u' 148, u' 149, u' 150, u' 151, u' 152, u' 153, u' 154, u' 155, u' 156, u' 157, u' 158, u' 159, u' 160, u' 161, u' 162, u' 163, u' 164, u' 165, u' 166, u' 167, u' 168, u' 169, u' 170, u' 171, u' 172, u' 173, u' 174, u' 175, u' 176, u' 177, u' 178, u' 179, u' 180, u' 181, u' 182, u' 183, u' 184, u' 185, u' 186, u' 187, u' 188, u' 189, u' 190, u' 191, u' 192, u' 193, u' 194, u' 195, u' 196, u' 197, u' 198, u' 199, u' 200, u' 201, u' 202, u' 203, u' 204, u' 205, u' 206, u' 207, u' 208, u' 209, u' 210, u' 211, u' 212, u' 213, u' 214, u' 215, u' 216, u' 217, u' 218, u' 219, u' 220, u' 221, u' 222, u' 223, u' 224, u' 225, u' 226, u' 227, u' 228, u' 229, u' 230, u' 231, u' 232, u' 233, u' 234, u' 235, u' 236, u' 237, u' 238, u' 239, u' 240, u' 241, u' 242, u' 243, u' 244, u' 245, u' 246, u' 247, u' 248, u' 249, u' 250, u' 251, u' 252, u' 253, u' 254, u' 255, u' 256, u' 257, u' 258, u' 259, u' 260, u' 261, u' 262, u' 263, u' 264, u' 265, u' 266, u' 267, u' 268, u' 269, u' 270, u' 271, u' 272, u' 273, u' 274, u' 275, u' 276, u' 277, u' 278, u' 279, u' 280, u' 281, u' 282, u' 283, u' 284], defers := [] } ∧ True) → Code.wp Tryd.prog (rtC (rtC (rtC (rtC ((bdC (hdC (rtC (rtC (bdC (bdC (rtC (hdC (rtC (rtC (rtC (rtC (rtC (rtC (Option.getD Tryd.f3.body Code.skip)))))))))))))))))))) Q a' (w2.alloc (.cells #[.int .i64 5, .slice va L vc] 35)) := by
    rintro a9 ⟨u9, rfl, -⟩
    by_cases k2 : o.k = 2
    · exact sw_2 Q w0 _ l d pt pu Ft Fu bm _ _ v o _ _ _ u9 HTA.out HV.out HSS.out SA k2 FIN
    by_cases k3 : o.k = 3
    · exact sw_3 Q w0 _ l d pt pu Ft Fu bm _ _ v o _ _ _ u9 HTA.out HV.out HSS.out SA k3 FIN
    by_cases k4 : o.k = 4
    · exact sw_4 Q w0 _ l d pt pu Ft Fu bm _ _ v o _ _ _ u9 HTA.out HV.out HSS.out SA k4 FIN
    exact sw_0 Q w0 _ l d pt pu Ft Fu bm _ _ v o _ _ _ u9 HTA.out HV.out HSS.out SA (by simpa using k2) (by simpa using k3) (by simpa using k4) FIN
  exact STEP _ (ex_u rfl trivial)
end Go.Proofs.YtfkijmmflpnncaaDoor.L
