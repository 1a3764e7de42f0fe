import Derived.Test.YtfkijmmflpnncaaDoorTh3
namespace Go.Proofs.YtfkijmmflpnncaaDoor.L
open Go.RowKit Bs Go.Maps
set_option linter.unusedVariables false
def rtC : Code → Code
  | .seq _ b => b
  | c => c
def hdC : Code → Code
  | .seq a _ => a
  | c => c
def bdC : Code → Code
  | .block _ b => b
  | .loop b => b
  | c => c
theorem ex_u {L : Array Value} {d : List Deferred} {f : (Nat → Value) → Act} {p : Prop} (h : f (fun i => L.toList.getD i undef) = ({ tmps := L, defers := d } : Act)) (hp : p) : ∃ u, ({ tmps := L, defers := d } : Act) = f u ∧ p := ⟨_, h.symm, hp⟩
/-- All that the law keeps while it makes a call. -/
structure Sa (w0 W : World) (l : List Rw) (d : List Dr) (pt pu : Nat) (Ft Fu : List Nat) (bm bo bn : Nat) (v vn : Value) (o : Opd) : Prop where
  sx : Sx w0 W (mT l) (mS l) pt pu Ft Fu
  fr : Fr w0 W bm bo bn v vn o
  od : OwnD W vn d
  rel : Rel l d
  ro : Ro 5 l
theorem own_slice {w : World} {v : Value} {d : List Dr} (h : OwnD w v d) : ∃ a cap, v = .slice a d.length cap := by
  obtain ⟨a, c, e, _⟩ := own_itemsD h
  exact ⟨a, c, e⟩
theorem Sa.low {w0 W W' : World} {l : List Rw} {d : List Dr} {pt pu : Nat} {Ft Fu : List Nat} {bm bo bn : Nat} {v vn : Value} {o : Opd} (h : Sa w0 W l d pt pu Ft Fu bm bo bn v vn o) (hb : Below W.heap.size W W') : Sa w0 W' l d pt pu Ft Fu bm bo bn v vn o := ⟨h.sx.low hb, h.fr.low hb, h.od.low hb, h.rel, h.ro⟩
theorem sfB_4 : (rtC (rtC (rtC (rtC ((bdC (hdC (rtC (rtC (bdC (bdC (rtC (hdC (rtC (rtC (rtC (rtC (rtC (rtC (Option.getD Tryd.f3.body Code.skip)))))))))))))))))))) = .seq (hdC (rtC (rtC (rtC (rtC ((bdC (hdC (rtC (rtC (bdC (bdC (rtC (hdC (rtC (rtC (rtC (rtC (rtC (rtC (Option.getD Tryd.f3.body Code.skip))))))))))))))))))))) (rtC (rtC (rtC (rtC (rtC ((bdC (hdC (rtC (rtC (bdC (bdC (rtC (hdC (rtC (rtC (rtC (rtC (rtC (rtC (Option.getD Tryd.f3.body Code.skip))))))))))))))))))))) := by kernel_rfl
set_option maxHeartbeats 16000000 in
set_option maxRecDepth 100000 in
theorem sw_2 (Q : Exit → Act → World → Prop) (w0 W : World) (l : List Rw) (d : List Dr) (pt pu : Nat) (Ft Fu : List Nat) (bm bo bn : Nat) (v : Value) (o : Opd) (sv : Value) (sn sj : Int) (u : Nat → Value)
    (hta : Tab w0) (hv : inR o.v) (hs : o.s.size ≤ maxLen) (hS : Sa w0 W l d pt pu Ft Fu bm bo bn v v o) (hk : o.k = 2)
    (nx : ∀ (a' : Act) (W' : World) (l' : List Rw) (d' : List Dr) (Ft' Fu' : List Nat) (vn : Value), (∃ u' : Nat → Value, a' = { tmps := #[u' 0, u' 1, u' 2, .pointer (some ⟨pt, 0, none⟩), u' 4, .pointer (some ⟨pu, 0, none⟩), u' 6, .pointer (some ⟨bm, 0, none⟩), u' 8, u' 9, .pointer (some ⟨bo, 0, none⟩), u' 11, u' 12, u' 13, .pointer (some ⟨bn, 0, none⟩), u' 15, u' 16, u' 17, u' 18, u' 19, u' 20, u' 21, u' 22, u' 23, u' 24, u' 25, u' 26, u' 27, u' 28, u' 29, u' 30, u' 31, u' 32, u' 33, u' 34, u' 35, u' 36, u' 37, u' 38, u' 39, u' 40, u' 41, u' 42, u' 43, u' 44, u' 45, u' 46, u' 47, u' 48, u' 49, u' 50, u' 51, u' 52, u' 53, u' 54, u' 55, u' 56, u' 57, u' 58, u' 59, u' 60, u' 61, u' 62, u' 63, u' 64, sv, .int .i64 sn, .int .i64 sj, u' 68, u' 69, u' 70, u' 71, u' 72, u' 73, u' 74, u' 75, u' 76, u' 77, u' 78, u' 79, u' 80, u' 81, u' 82, u' 83, u' 84, u' 85, u' 86, u' 87, u' 88, u' 89, u' 90, u' 91, u' 92, u' 93, u' 94, u' 95, u' 96, u' 97, u' 98, u' 99, u' 100, u' 101, u' 102, u' 103, u' 104, u' 105, u' 106, u' 107, u' 108, u' 109, u' 110, u' 111, u' 112, u' 113, u' 114, u' 115, u' 116, u' 117, u' 118, u' 119, u' 120, u' 121, u' 122, u' 123, u' 124, u' 125, u' 126, u' 127, u' 128, u' 129, u' 130, u' 131, u' 132, u' 133, u' 134, u' 135, u' 136, u' 137, u' 138, u' 139, u' 140, u' 141, u' 142, u' 143, u' 144, u' 145, u' 146, u' 147, u' 148, u' 149, u' 150, u' 151, u' 152, u' 153, u' 154, u' 155, u' 156, u' 157, u' 158, u' 159, u' 160, u' 161, u' 162, u' 163, u' 164, u' 165, u' 166, u' 167, u' 168, u' 169, u' 170, u' 171, u' 172, u' 173, u' 174, u' 175, u' 176, u' 177, u' 178, u' 179, u' 180, u' 181, u' 182, u' 183, u' 184, u' 185, u' 186, u' 187, u' 188, u' 189, u' 190, u' 191, u' 192, u' 193, u' 194, u' 195, u' 196, u' 197, u' 198, u' 199, u' 200, u' 201, u' 202, u' 203, u' 204, u' 205, u' 206, u' 207, u' 208, u' 209, u' 210, u' 211, u' 212, u' 213, u' 214, u' 215, u' 216, u' 217, u' 218, u' 219, u' 220, u' 221, u' 222, u' 223, u' 224, u' 225, u' 226, u' 227, u' 228, u' 229, u' 230, u' 231, u' 232, u' 233, u' 234, u' 235, u' 236, u' 237, u' 238, u' 239, u' 240, u' 241, u' 242, u' 243, u' 244, u' 245, u' 246, u' 247, u' 248, u' 249, u' 250, u' 251, u' 252, u' 253, u' 254, u' 255, u' 256, u' 257, u' 258, u' 259, u' 260, u' 261, u' 262, u' 263, u' 264, u' 265, u' 266, u' 267, u' 268, u' 269, u' 270, u' 271, u' 272, u' 273, u' 274, u' 275, u' 276, u' 277, u' 278, u' 279, u' 280, u' 281, u' 282, u' 283, u' 284], defers := [] } ∧ True) → Sa w0 W' l' d' pt pu Ft' Fu' bm bo bn v vn o → Code.wp Tryd.prog (rtC (rtC (rtC (rtC (rtC ((bdC (hdC (rtC (rtC (bdC (bdC (rtC (hdC (rtC (rtC (rtC (rtC (rtC (rtC (Option.getD Tryd.f3.body Code.skip))))))))))))))))))))) Q a' W') :
    Code.wp Tryd.prog (rtC (rtC (rtC (rtC ((bdC (hdC (rtC (rtC (bdC (bdC (rtC (hdC (rtC (rtC (rtC (rtC (rtC (rtC (Option.getD Tryd.f3.body Code.skip)))))))))))))))))))) Q { tmps := #[u 0, u 1, u 2, .pointer (some ⟨pt, 0, none⟩), u 4, .pointer (some ⟨pu, 0, none⟩), u 6, .pointer (some ⟨bm, 0, none⟩), u 8, u 9, .pointer (some ⟨bo, 0, none⟩), .string (tx o.v), .int .i64 0, .int .i64 0, .pointer (some ⟨bn, 0, none⟩), u 15, u 16, u 17, u 18, u 19, u 20, u 21, u 22, u 23, u 24, u 25, u 26, u 27, u 28, u 29, u 30, u 31, u 32, u 33, u 34, u 35, u 36, u 37, u 38, u 39, u 40, u 41, u 42, u 43, u 44, u 45, u 46, u 47, u 48, u 49, u 50, u 51, u 52, u 53, u 54, u 55, u 56, u 57, u 58, u 59, u 60, u 61, u 62, u 63, u 64, sv, .int .i64 sn, .int .i64 sj, u 68, u 69, u 70, u 71, u 72, u 73, u 74, u 75, u 76, u 77, u 78, u 79, u 80, u 81, u 82, u 83, u 84, u 85, u 86, u 87, u 88, u 89, u 90, u 91, u 92, u 93, u 94, u 95, u 96, u 97, u 98, u 99, u 100, u 101, u 102, u 103, u 104, u 105, u 106, u 107, u 108, u 109, u 110, u 111, u 112, u 113, u 114, u 115, u 116, u 117, u 118, u 119, u 120, u 121, u 122, u 123, u 124, u 125, u 126, u 127, u 128, u 129, u 130, u 131, u 132, u 133, u 134, u 135, u 136, u 137, u 138, u 139, u 140, u 141, u 142, u 143, u 144, u 145, u 146, u 147, u 148, u 149, u 150, u 151, u 152, u 153, u 154, u 155, u 156, u 157, u 158, u 159, u 160, u 161, u 162, u 163, u 164, u 165, u 166, u 167, u 168, u 169, u 170, u 171, u 172, u 173, u 174, u 175, u 176, u 177, u 178, u 179, u 180, u 181, u 182, u 183, u 184, u 185, u 186, u 187, u 188, u 189, u 190, u 191, u 192, u 193, u 194, u 195, u 196, u 197, u 198, u 199, u 200, u 201, u 202, u 203, u 204, u 205, u 206, u 207, u 208, u 209, u 210, u 211, u 212, u 213, u 214, u 215, u 216, u 217, u 218, u 219, u 220, u 221, u 222, u 223, u 224, u 225, u 226, u 227, u 228, u 229, u 230, u 231, u 232, u 233, u 234, u 235, u 236, u 237, u 238, u 239, u 240, u 241, u 242, u 243, u 244, u 245, u 246, u 247, u 248, u 249, u 250, u 251, u 252, u 253, u 254, u 255, u 256, u 257, u 258, u 259, u 260, u 261, u 262, u 263, u 264, u 265, u 266, u 267, u 268, u 269, u 270, u 271, u 272, u 273, u 274, u 275, u 276, u 277, u 278, u 279, u 280, u 281, u 282, u 283, u 284], defers := [] } W := by
  have NX := hid nx
  clear nx
  rw [sfB_4]
  generalize hT : (rtC (rtC (rtC (rtC (rtC ((bdC (hdC (rtC (rtC (bdC (bdC (rtC (hdC (rtC (rtC (rtC (rtC (rtC (rtC (Option.getD Tryd.f3.body Code.skip))))))))))))))))))))) = TL at *
  clear hT
  simp only [hdC, rtC, bdC, Option.getD, Tryd.f3]
  obtain ⟨l', sl, er, hp⟩ := putR_is hS.ro.ok o.s o.v
  have RO := hid (show Ro 5 l' from (hS.ro.put hv hp).1)
  have HP := hid hp
  have FS := hid hS.sx
  have FF := hid hS.fr
  have HO := hid hS.od
  have HR := hid hS.rel
  have HOK := hid hS.ro.ok
  obtain ⟨va, vc, hva⟩ := own_slice hS.od
  have HL := hid (rfl : d.length = d.length)
  have cm0 := cell_in (j := 0) hS.fr.m rfl
  have cm1 := cell_in (j := 1) hS.fr.m rfl
  have c0 := cell_in (j := 0) hS.fr.op rfl
  have cs := cell_in (j := 3) hS.fr.op rfl
  have cv := cell_in (j := 4) hS.fr.op rfl
  have lm := lt_of_block hS.fr.m
  have lo := lt_of_block hS.fr.op
  have ln := lt_of_block hS.fr.n
  rw [hk] at c0
  rw [hva] at cm1
  have HVA := hid hva
  generalize hLd : d.length = L at *
  have HLD := hid hLd
  clear hS hp hva hLd HL
  go_wp2_with fail
  refine (putLT_any HP.out pt Ft W FS.out.t (hta.low FS.out.lo) hs).mono ?_
  rintro e w1 ⟨rfl, F1, T1, M1⟩
  have S1 := hid (FS.out.onT T1 M1)
  have R1 := hid (FF.out.onT FS.out M1)
  have O1 := hid (FS.out.ownT M1 HO.out)
  clear T1 M1 cm0 cm1 c0 cs cv lm lo ln
  have cs := cell_in (j := 3) R1.out.op rfl
  have cv := cell_in (j := 4) R1.out.op rfl
  have lo := lt_of_block R1.out.op
  go_wp2_with fail
  refine (putLS_any HP.out pu Fu w1 S1.out.u (hta.low S1.out.lo) hs).mono ?_
  rintro e w2 ⟨rfl, F2, T2, M2⟩
  have S2 := hid (S1.out.onU T2 M2)
  have R2 := hid (R1.out.onU S1.out M2)
  have O2 := hid (S1.out.ownU M2 O1.out)
  clear T2 M2 cs cv lo S1 R1 O1
  have cm0 := cell_in (j := 0) R2.out.m rfl
  have cm1 := cell_in (j := 1) R2.out.m rfl
  rw [HVA.out] at cm1
  have cs := cell_in (j := 3) R2.out.op rfl
  have cv := cell_in (j := 4) R2.out.op rfl
  have lo := lt_of_block R2.out.op
  have lm := lt_of_block R2.out.m
  have O3 := O2.out
  rw [HVA.out] at O3
  have RP := hid (rput_uni HP.out HLD.out.symm w2 O3 HR.out HOK.out hs)
  clear O3
  go_wp2_with fail
  refine RP.out.mono ?_
  rintro e w3 ⟨v', d', rfl, o', r', b'⟩
  obtain ⟨va', vc', hva'⟩ := own_slice o'
  have S3 := hid (S2.out.low b')
  have R3 := hid (R2.out.low b')
  have O3 := hid o'
  have RL := hid r'
  have cn0 := cell_in (j := 0) R3.out.n rfl
  have cn1 := cell_in (j := 1) R3.out.n rfl
  have fn0 := free_in (j := 0) R3.out.n
  have fn1 := free_in (j := 1) R3.out.n
  have ln := lt_of_block R3.out.n
  have HN := hid (show w0.heap.size ≤ bn by have := R3.out.mo; have := R3.out.on; have := R3.out.hm; omega)
  clear o' r' b' cm0 cm1 cs cv lo lm S2 R2 O2 RP
  have FIN := hid (show Sa w0 ((w3.setCell ⟨bn, 0, none⟩ (.int .i64 5)).setCell ⟨bn, 1, none⟩ v') l' d' pt pu F1 F2 bm bo bn v v' o from ⟨S3.out.setB R3.out.n HN.out _ _, R3.out.setN _, O3.out.box R3.out.n (set_box R3.out.n).2, RL.out, RO.out⟩)
  generalize hLd' : d'.length = L' at *
  clear hLd'
  subst hva'
  rw [HVA.out] at cn1
  clear S3 R3 O3
  go_wp2_with fail
  exact NX.out _ _ _ _ _ _ _ (ex_u rfl trivial) FIN.out
end Go.Proofs.YtfkijmmflpnncaaDoor.L
