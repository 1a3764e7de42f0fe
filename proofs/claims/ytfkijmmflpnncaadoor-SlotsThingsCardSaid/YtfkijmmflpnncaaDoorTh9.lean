import Derived.Test.YtfkijmmflpnncaaDoorTh4
namespace Go.Proofs.YtfkijmmflpnncaaDoor.L
open Go.RowKit Bs Go.Maps
set_option linter.unusedVariables false
theorem vluT (l : List Rw) {i : Nat} (h : isT l i = true) : LT.vlu (mT l) i = (vlu l i, tx (vlu l i)) := by
  unfold LT.vlu
  rw [show (mT l)[i]? = _ from get_mp _ _ l i h]
  rfl
theorem vluS (l : List Rw) {i : Nat} (h : isT l i = true) : LS.vlu (mS l) i = tx (vlu l i) := by
  unfold LS.vlu
  rw [show (mS l)[i]? = _ from get_mp _ _ l i h]
  rfl
theorem find_row {w0 W : World} {l : List Rw} {d : List Dr} {pt pu : Nat} {Ft Fu : List Nat} (sx : Sx w0 W (mT l) (mS l) pt pu Ft Fu) (rel : Rel l d) {k : Nat} (hk : k < d.length) : Calls Tryd.prog 18 #[.pointer (some ⟨pt, 0, none⟩), .string (dn d k)] W fun e w' => e = .returned (.tuple #[.int .i64 (ds d k : Int), .agg #[.int .i64 (dl d k), .string (tx (dl d k))], .bool true]) ∧ Below W.heap.size W w' := by
  obtain ⟨h1, h2, h3⟩ := rel.row hk
  have := LT.find_yes pt 5 (ds d k) (mT l) Ft (dn d k) W sx.t (by rw [isT_mp]; exact h1) (by rw [nm_mp]; exact h2)
  rw [vluT l h1, h3] at this
  exact this
theorem at_row {w0 W : World} {l : List Rw} {d : List Dr} {pt pu : Nat} {Ft Fu : List Nat} (sx : Sx w0 W (mT l) (mS l) pt pu Ft Fu) (rel : Rel l d) {k : Nat} (hk : k < d.length) : Calls Tryd.prog 19 #[.pointer (some ⟨pu, 0, none⟩), .int .i64 (ds d k : Int)] W fun e w' => e = .returned (.tuple #[.string (dn d k), .string (tx (dl d k)), .bool true]) ∧ Below W.heap.size W w' := by
  obtain ⟨h1, h2, h3⟩ := rel.row hk
  refine (LS.at_yes pu 5 (ds d k) (mS l) Fu W sx.u (by rw [isT_mp]; exact h1)).mono ?_
  rintro e w' ⟨rfl, n, rfl⟩
  rw [vluS l h1, h3, nm_mp, h2]
  exact ⟨rfl, belowDn W n⟩
theorem at_slot {w0 W : World} {l : List Rw} {d : List Dr} {pt pu : Nat} {Ft Fu : List Nat} (sx : Sx w0 W (mT l) (mS l) pt pu Ft Fu) (rel : Rel l d) (i : Int) :
    (atD d i = -1 ∧ Calls Tryd.prog 20 #[.pointer (some ⟨pt, 0, none⟩), .int .i64 i] W fun e w' => e = .returned (.tuple #[.string ByteArray.empty, .agg #[.int .i64 0, .string ByteArray.empty], .bool false]) ∧ Below W.heap.size W w') ∨
    (0 ≤ atD d i ∧ Calls Tryd.prog 20 #[.pointer (some ⟨pt, 0, none⟩), .int .i64 i] W fun e w' => (∃ s x y, e = .returned (.tuple #[.string s, .agg #[.int .i64 x, .string y], .bool true])) ∧ Below W.heap.size W w') := by
  rcases rel.at_ i with ⟨h1, h2⟩ | ⟨k, h1, hk, h2, h3, _⟩
  · exact Or.inl ⟨h2, LT.at_no pt 5 (mT l) Ft i W sx.t (fun j hj => by rw [isT_mp]; exact h1 j hj)⟩
  · refine Or.inr ⟨by omega, ?_⟩
    subst h2
    refine (LT.at_yes pt 5 (ds d k) (mT l) Ft W sx.t (by rw [isT_mp]; exact h3)).mono ?_
    rintro e w' ⟨rfl, hb⟩
    exact ⟨⟨_, _, _, rfl⟩, hb⟩
theorem sfB_6 : (rtC (rtC (rtC (rtC (rtC (rtC ((bdC (hdC (rtC (rtC (bdC (bdC (rtC (hdC (rtC (rtC (rtC (rtC (rtC (rtC (Option.getD Tryd.f3.body Code.skip)))))))))))))))))))))) = .seq (hdC (rtC (rtC (rtC (rtC (rtC (rtC ((bdC (hdC (rtC (rtC (bdC (bdC (rtC (hdC (rtC (rtC (rtC (rtC (rtC (rtC (Option.getD Tryd.f3.body Code.skip))))))))))))))))))))))) (rtC (rtC (rtC (rtC (rtC (rtC (rtC ((bdC (hdC (rtC (rtC (bdC (bdC (rtC (hdC (rtC (rtC (rtC (rtC (rtC (rtC (Option.getD Tryd.f3.body Code.skip))))))))))))))))))))))) := by kernel_rfl
set_option maxHeartbeats 16000000 in
set_option maxRecDepth 100000 in
theorem seg_6 (Q : Exit → Act → World → Prop) (w0 W : World) (l : List Rw) (d : List Dr) (pt pu : Nat) (Ft Fu : List Nat) (bm bo bn : Nat) (vn : Value) (o : Opd) (sv : Value) (sn sj : Int) (u : Nat → Value) (hpw : Pw w0) (hv : inR o.v)
    (hS : Sa w0 W l d pt pu Ft Fu bm bo bn vn vn o)
    (nx : ∀ (a' : Act) (W' : World), (∃ u' : Nat → Value, a' = { tmps := #[u' 0, u' 1, u' 2, .pointer (some ⟨pt, 0, none⟩), u' 4, .pointer (some ⟨pu, 0, none⟩), u' 6, .pointer (some ⟨bm, 0, none⟩), u' 8, u' 9, .pointer (some ⟨bo, 0, none⟩), u' 11, u' 12, u' 13, .pointer (some ⟨bn, 0, none⟩), u' 15, u' 16, u' 17, u' 18, u' 19, u' 20, u' 21, u' 22, u' 23, u' 24, u' 25, u' 26, u' 27, u' 28, u' 29, u' 30, u' 31, u' 32, u' 33, u' 34, u' 35, u' 36, u' 37, u' 38, u' 39, u' 40, u' 41, u' 42, u' 43, u' 44, u' 45, u' 46, u' 47, u' 48, u' 49, u' 50, u' 51, u' 52, u' 53, u' 54, u' 55, u' 56, u' 57, u' 58, u' 59, u' 60, u' 61, u' 62, u' 63, u' 64, sv, .int .i64 sn, .int .i64 sj, u' 68, u' 69, u' 70, u' 71, u' 72, u' 73, u' 74, u' 75, u' 76, u' 77, u' 78, u' 79, u' 80, u' 81, u' 82, u' 83, u' 84, u' 85, u' 86, u' 87, u' 88, u' 89, u' 90, u' 91, u' 92, u' 93, u' 94, u' 95, u' 96, u' 97, u' 98, u' 99, u' 100, u' 101, u' 102, u' 103, u' 104, u' 105, u' 106, u' 107, u' 108, u' 109, u' 110, u' 111, u' 112, u' 113, u' 114, u' 115, u' 116, u' 117, u' 118, u' 119, u' 120, u' 121, u' 122, u' 123, u' 124, u' 125, u' 126, u' 127, u' 128, u' 129, u' 130, u' 131, u' 132, u' 133, u' 134, u' 135, u' 136, u' 137, u' 138, u' 139, u' 140, u' 141, u' 142, u' 143, u' 144, u' 145, u' 146, u' 147, u' 148, u' 149, u' 150, u' 151, u' 152, u' 153, u' 154, u' 155, u' 156, u' 157, u' 158, u' 159, u' 160, u' 161, u' 162, u' 163, u' 164, u' 165, u' 166, u' 167, u' 168, u' 169, u' 170, u' 171, u' 172, u' 173, u' 174, u' 175, u' 176, u' 177, u' 178, u' 179, u' 180, u' 181, u' 182, u' 183, u' 184, u' 185, u' 186, u' 187, u' 188, u' 189, u' 190, u' 191, u' 192, u' 193, u' 194, u' 195, u' 196, u' 197, u' 198, u' 199, u' 200, u' 201, u' 202, u' 203, u' 204, u' 205, u' 206, u' 207, u' 208, u' 209, u' 210, u' 211, u' 212, u' 213, u' 214, u' 215, u' 216, u' 217, u' 218, u' 219, u' 220, u' 221, u' 222, u' 223, u' 224, u' 225, u' 226, u' 227, u' 228, u' 229, u' 230, u' 231, u' 232, u' 233, u' 234, u' 235, u' 236, u' 237, u' 238, u' 239, u' 240, u' 241, u' 242, u' 243, u' 244, u' 245, u' 246, u' 247, u' 248, u' 249, u' 250, u' 251, u' 252, u' 253, u' 254, u' 255, u' 256, u' 257, u' 258, u' 259, u' 260, u' 261, u' 262, u' 263, u' 264, u' 265, u' 266, u' 267, u' 268, u' 269, u' 270, u' 271, u' 272, u' 273, u' 274, u' 275, u' 276, u' 277, u' 278, u' 279, u' 280, u' 281, u' 282, u' 283, u' 284], defers := [] } ∧ True) → Sa w0 W' l d pt pu Ft Fu bm bo bn vn vn o → Code.wp Tryd.prog (rtC (rtC (rtC (rtC (rtC (rtC (rtC ((bdC (hdC (rtC (rtC (bdC (bdC (rtC (hdC (rtC (rtC (rtC (rtC (rtC (rtC (Option.getD Tryd.f3.body Code.skip))))))))))))))))))))))) Q a' W') :
    Code.wp Tryd.prog (rtC (rtC (rtC (rtC (rtC (rtC ((bdC (hdC (rtC (rtC (bdC (bdC (rtC (hdC (rtC (rtC (rtC (rtC (rtC (rtC (Option.getD Tryd.f3.body Code.skip)))))))))))))))))))))) Q { tmps := #[u 0, u 1, u 2, .pointer (some ⟨pt, 0, none⟩), u 4, .pointer (some ⟨pu, 0, none⟩), u 6, .pointer (some ⟨bm, 0, none⟩), u 8, u 9, .pointer (some ⟨bo, 0, none⟩), u 11, u 12, u 13, .pointer (some ⟨bn, 0, none⟩), u 15, u 16, u 17, u 18, u 19, u 20, u 21, u 22, u 23, u 24, u 25, u 26, u 27, u 28, u 29, u 30, u 31, u 32, u 33, u 34, u 35, u 36, u 37, u 38, u 39, u 40, u 41, u 42, u 43, u 44, u 45, u 46, u 47, u 48, u 49, u 50, u 51, u 52, u 53, u 54, u 55, u 56, u 57, u 58, u 59, u 60, u 61, u 62, u 63, u 64, sv, .int .i64 sn, .int .i64 sj, u 68, u 69, u 70, u 71, u 72, u 73, u 74, u 75, u 76, u 77, u 78, u 79, u 80, u 81, u 82, u 83, u 84, u 85, u 86, u 87, u 88, u 89, u 90, u 91, u 92, u 93, u 94, u 95, u 96, u 97, u 98, u 99, u 100, u 101, u 102, u 103, u 104, u 105, u 106, u 107, u 108, u 109, u 110, u 111, u 112, u 113, u 114, u 115, u 116, u 117, u 118, u 119, u 120, u 121, u 122, u 123, u 124, u 125, u 126, u 127, u 128, u 129, u 130, u 131, u 132, u 133, u 134, u 135, u 136, u 137, u 138, u 139, u 140, u 141, u 142, u 143, u 144, u 145, u 146, u 147, u 148, u 149, u 150, u 151, u 152, u 153, u 154, u 155, u 156, u 157, u 158, u 159, u 160, u 161, u 162, u 163, u 164, u 165, u 166, u 167, u 168, u 169, u 170, u 171, u 172, u 173, u 174, u 175, u 176, u 177, u 178, u 179, u 180, u 181, u 182, u 183, u 184, u 185, u 186, u 187, u 188, u 189, u 190, u 191, u 192, u 193, u 194, u 195, u 196, u 197, u 198, u 199, u 200, u 201, u 202, u 203, u 204, u 205, u 206, u 207, u 208, u 209, u 210, u 211, u 212, u 213, u 214, u 215, u 216, u 217, u 218, u 219, u 220, u 221, u 222, u 223, u 224, u 225, u 226, u 227, u 228, u 229, u 230, u 231, u 232, u 233, u 234, u 235, u 236, u 237, u 238, u 239, u 240, u 241, u 242, u 243, u 244, u 245, u 246, u 247, u 248, u 249, u 250, u 251, u 252, u 253, u 254, u 255, u 256, u 257, u 258, u 259, u 260, u 261, u 262, u 263, u 264, u 265, u 266, u 267, u 268, u 269, u 270, u 271, u 272, u 273, u 274, u 275, u 276, u 277, u 278, u 279, u 280, u 281, u 282, u 283, u 284], defers := [] } W := by
  have NX := hid nx
  have HS := hid hS
  have HPW := hid hpw
  have hdl : d.length ≤ 65536 := by rw [hS.rel.len]; exact Nat.le_trans hS.ro.ok.ct hS.ro.ok.mm
  obtain ⟨va, vc, hva, hit⟩ := own_itemsD hS.od
  have cm1 := cell_in (j := 1) hS.fr.m rfl
  have lm := lt_of_block hS.fr.m
  rw [hva] at cm1
  have HIT := hid hit
  have ROW := hid (fun k (hk : k < d.length) (W' : World) (hb : Below W.heap.size W W') => find_row (hS.sx.low hb) hS.rel hk)
  have ATR := hid (fun k (hk : k < d.length) (W' : World) (hb : Below W.heap.size W W') => at_row (hS.sx.low hb) hS.rel hk)
  have ITO := hid (fun k (hk : k < d.length) (W' : World) (hb : Below W.heap.size W W') => itoa_any (dl d k) (by have := hS.ro.num (ds d k); rw [(hS.rel.row hk).2.2] at this; exact this.1) (by have := hS.ro.num (ds d k); rw [(hS.rel.row hk).2.2] at this; exact this.2) W' (hpw.low (hS.sx.low hb).lo))
  clear nx hS hpw hit
  generalize hLd : d.length = L at *
  have HLD := hid hLd
  clear hLd
  rw [sfB_6]
  generalize hT : (rtC (rtC (rtC (rtC (rtC (rtC (rtC ((bdC (hdC (rtC (rtC (bdC (bdC (rtC (hdC (rtC (rtC (rtC (rtC (rtC (rtC (Option.getD Tryd.f3.body Code.skip))))))))))))))))))))))) = TL at *
  clear hT
  simp only [hdC, rtC, bdC, Option.getD, Tryd.f3]
  go_wp2_with fail
  go_loopw [204] (fun i wr => ∃ k : Nat, k ≤ L ∧ i = .int .i64 k ∧ Hid (Below W.heap.size W wr)) (fun i _ => L - (intOf i).toNat)
  case atStart => exact ⟨0, Nat.zero_le _, rfl, hid (Below.refl _ _)⟩
  case round =>
    obtain ⟨k, hk, rfl, HB⟩ := hrel
    by_cases hlt : k < L
    · have g1 : (k : Int) < (L : Int) := by omega
      have g0 : (0 : Int) ≤ (k : Int) := by omega
      rcases HIT.out with h0 | ⟨b, rfl, hbl, hc⟩
      · omega
      obtain ⟨p0, p1, p2⟩ := hc k hlt
      rw [← HB.out.cell (p := ⟨b, k * 3, none⟩) hbl] at p0
      rw [← HB.out.cell (p := ⟨b, k * 3 + 1, none⟩) hbl] at p1
      rw [← HB.out.cell (p := ⟨b, k * 3 + 2, none⟩) hbl] at p2
      have RW := hid (ROW.out k hlt)
      have AT := hid (ATR.out k hlt)
      have IT := hid (ITO.out k hlt)
      clear hc
      have hbw : b < wr.heap.size := Nat.lt_of_lt_of_le hbl HB.out.size
      generalize ds d k = slot at *
      generalize dn d k = name at *
      generalize dl d k = num at *
      have b1 := HB.out.trans ((belowDn wr 0).mono HB.out.size)
      clear b1
      have B1 := hid (HB.out.alloc HB.out.size (.cells #[.int .i64 (slot : Int), .string name, .int .i64 num] 52))
      have r0 : (wr.alloc (.cells #[.int .i64 (slot : Int), .string name, .int .i64 num] 52)).heap[wr.heap.size]? = some (.cells #[.int .i64 (slot : Int), .string name, .int .i64 num] 52 (0, 0)) := heap_alloc_new wr _
      have HR0 := hid r0
      clear r0
      go_wp2_with fail
      generalize wr.alloc (.cells #[.int .i64 (slot : Int), .string name, .int .i64 num] 52) = w1 at *
      refine (RW.out w1 B1.out).mono ?_
      rintro e w2 ⟨rfl, hb2⟩
      have B2 := hid (B1.out.trans (hb2.mono B1.out.size))
      have HR1 := hid (cells_low HR0.out hb2)
      clear hb2 HR0
      have B3 := hid (B2.out.alloc B2.out.size (.cells #[.int .i64 num, .string (tx num)] 29))
      have r1 : (w2.alloc (.cells #[.int .i64 num, .string (tx num)] 29)).heap[w2.heap.size]? = some (.cells #[.int .i64 num, .string (tx num)] 29 (0, 0)) := heap_alloc_new w2 _
      have HX := hid r1
      have HR2 := hid (cells_low HR1.out (LT.belowA w2 (.cells #[.int .i64 num, .string (tx num)] 29)))
      have q0 := cell_in (j := 0) HR2.out rfl
      have lr := lt_of_block HR2.out
      clear r1 HR1
      go_wp2_with fail
      generalize w2.alloc (.cells #[.int .i64 num, .string (tx num)] 29) = w3 at *
      clear q0
      refine (AT.out w3 B3.out).mono ?_
      rintro e w4 ⟨rfl, hb4⟩
      have B4 := hid (B3.out.trans (hb4.mono B3.out.size))
      have HX4 := hid (cells_low HX.out hb4)
      have HR4 := hid (cells_low HR2.out hb4)
      have q2 := cell_in (j := 2) HR4.out rfl
      have lr4 := lt_of_block HR4.out
      clear hb4 HX HR2 lr
      go_wp2_with fail
      clear q2 lr4
      refine (IT.out w4 B4.out).mono ?_
      rintro e w5 ⟨rfl, hb5⟩
      have B5 := hid (B4.out.trans (hb5.mono B4.out.size))
      have x0 := cell_in (j := 0) (cells_low HX4.out hb5) rfl
      have x1 := cell_in (j := 1) (cells_low HX4.out hb5) rfl
      have q2 := cell_in (j := 2) (cells_low HR4.out hb5) rfl
      have lr5 := lt_of_block (cells_low HR4.out hb5)
      have lx5 := lt_of_block (cells_low HX4.out hb5)
      clear hb5 HX4 HR4
      generalize tx num = tn at *
      go_wp2_with fail
      exact ⟨⟨k + 1, by omega, by go_num, B5⟩, by simp [intOf]; omega⟩
    · obtain rfl : k = L := by omega
      have g1 : ¬ (k : Int) < (k : Int) := by omega
      go_wp2_with fail
      exact NX.out _ _ (ex_u rfl trivial) (HS.out.low HB.out)
end Go.Proofs.YtfkijmmflpnncaaDoor.L
