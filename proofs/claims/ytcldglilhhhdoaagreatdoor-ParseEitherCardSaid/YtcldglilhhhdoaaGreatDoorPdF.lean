import Derived.Test.YtcldglilhhhdoaaGreatDoorPdD
namespace Go.Proofs.YtcldglilhhhdoaaGreatDoor.L
open Go.RowKit
set_option linter.unusedVariables false
set_option linter.unusedSimpArgs false
set_option maxHeartbeats 4000000 in
set_option maxRecDepth 100000 in
theorem form_tail {K : Act → World → Prop} {R : Exit → Act → World → Prop} {u0 u1 u2 u5 u7 u8 u9 u10 u11 u12 u13 u14 u15 u16 u17 u18 u19 u20 u21 u22 u23 u24 u25 u26 u27 u28 u29 u30 u31 u32 u33 u34 u35 u36 u37 u38 u39 u40 u41 u42 u43 u44 u45 u46 u47 u48 u49 u50 u51 u52 u53 u54 u55 u56 u57 u58 u59 u60 u61 u62 u63 u64 u65 u66 u67 u68 u69 u70 u71 u72 u73 u74 u75 u76 u77 u78 u79 u80 u81 u82 u83 u84 u85 u86 u87 u88 u89 u90 u91 : Value} {W : World} {B k m n h : Nat} {va : Option Addr} {vc : Nat} {zs : List Int}
    (hK : ∀ a w, Code.wp Tryz.prog (Code.region 31 #[{ dst := some 79, op := Op.move (Operand.tmp 7), type := 26, pos := "law.go:134", after := #[], guard := none }, { dst := some 80, op := Op.move (Operand.tmp 4), type := 3, pos := "law.go:134", after := #[], guard := none }, { dst := some 81, op := Op.buildSlice 26 1 #[(0, Operand.tmp 80)], type := 26, pos := "law.go:134", after := #[{ on := 1, ground := Ground.data }], guard := none }, { dst := some 82, op := Op.call { callee := Callee.builtin Builtin.append, args := #[Operand.tmp 79, Operand.tmp 81], argTypes := #[26, 26] }, type := 26, pos := "law.go:134", after := #[{ on := 0, ground := Ground.data }, { on := 2, ground := Ground.data }], guard := none }, { dst := some 3, op := Op.assign (Operand.tmp 82), type := 26, pos := "law.go:134", after := #[{ on := 3, ground := Ground.data }, { on := 3, ground := Ground.chain }, { on := 0, ground := Ground.phase }, { on := 1, ground := Ground.phase }, { on := 2, ground := Ground.phase }, { on := 3, ground := Ground.phase }], guard := none }] false) R a w → K a w)
    (ow : OwnI W B (.slice va m vc) zs) (hm : m = zs.length) (hh : m = h + n) (hB : B ≤ W.heap.size) (hm1 : m ≤ 1000) (hk1 : k ≤ 1000)
    (nx : ∀ v' y7 y71 y72 y73 y74 y75 y76 y77 y78 y79 y80 y81 y82 W', OwnI W' B v' (zs.take h ++ [(k : Int)]) → Below B W W' → R .normal { tmps := #[u0, u1, u2, v', .int .i64 (k : Int), u5, .int .i64 (n : Int), y7, u8, u9, u10, u11, u12, u13, u14, u15, u16, u17, u18, u19, u20, u21, u22, u23, u24, u25, u26, u27, u28, u29, u30, u31, u32, u33, u34, u35, u36, u37, u38, u39, u40, u41, u42, u43, u44, u45, u46, u47, u48, u49, u50, u51, u52, u53, u54, u55, u56, u57, u58, u59, u60, u61, u62, u63, u64, u65, u66, u67, u68, u69, u70, y71, y72, y73, y74, y75, y76, y77, y78, y79, y80, y81, y82, u83, u84, u85, u86, u87, u88, u89, u90, u91], defers := [] } W') :
    Code.wp Tryz.prog (Code.region 30 #[{ dst := some 71, op := Op.buildSlice 26 0 #[], type := 26, pos := "law.go:133", after := #[], guard := none }, { dst := some 72, op := Op.move (Operand.tmp 3), type := 26, pos := "law.go:133", after := #[], guard := none }, { dst := some 73, op := Op.move (Operand.tmp 3), type := 26, pos := "law.go:133", after := #[], guard := none }, { dst := some 74, op := Op.call { callee := Callee.builtin Builtin.len, args := #[Operand.tmp 73], argTypes := #[26] }, type := 3, pos := "law.go:133", after := #[{ on := 2, ground := Ground.data }], guard := none }, { dst := some 75, op := Op.move (Operand.tmp 6), type := 3, pos := "law.go:133", after := #[], guard := none }, { dst := some 76, op := Op.binOp BinOp.sub 3 (Operand.tmp 74) (Operand.tmp 75) 3, type := 3, pos := "law.go:133", after := #[{ on := 3, ground := Ground.data }, { on := 4, ground := Ground.data }], guard := none }, { dst := some 77, op := Op.slice 26 (Operand.tmp 72) none (some (Operand.tmp 76)) none, type := 26, pos := "law.go:133", after := #[{ on := 1, ground := Ground.data }, { on := 5, ground := Ground.data }], guard := none }, { dst := some 78, op := Op.call { callee := Callee.builtin Builtin.append, args := #[Operand.tmp 71, Operand.tmp 77], argTypes := #[26, 26] }, type := 26, pos := "law.go:133", after := #[{ on := 0, ground := Ground.data }, { on := 6, ground := Ground.data }], guard := none }, { dst := some 7, op := Op.assign (Operand.tmp 78), type := 26, pos := "law.go:133", after := #[{ on := 7, ground := Ground.data }, { on := 7, ground := Ground.chain }, { on := 0, ground := Ground.phase }, { on := 1, ground := Ground.phase }, { on := 2, ground := Ground.phase }, { on := 3, ground := Ground.phase }, { on := 4, ground := Ground.phase }, { on := 5, ground := Ground.phase }, { on := 6, ground := Ground.phase }, { on := 7, ground := Ground.phase }], guard := none }] false) (Exit.then K R) { tmps := #[u0, u1, u2, .slice va m vc, .int .i64 (k : Int), u5, .int .i64 (n : Int), u7, u8, u9, u10, u11, u12, u13, u14, u15, u16, u17, u18, u19, u20, u21, u22, u23, u24, u25, u26, u27, u28, u29, u30, u31, u32, u33, u34, u35, u36, u37, u38, u39, u40, u41, u42, u43, u44, u45, u46, u47, u48, u49, u50, u51, u52, u53, u54, u55, u56, u57, u58, u59, u60, u61, u62, u63, u64, u65, u66, u67, u68, u69, u70, u71, u72, u73, u74, u75, u76, u77, u78, u79, u80, u81, u82, u83, u84, u85, u86, u87, u88, u89, u90, u91], defers := [] } W := by
  obtain ⟨i3, hi, hz0, hz1i, hz2⟩ := info_parts info3
  have NX := hid nx
  have HM := hid hm
  have HHH := hid hh
  have OW := hid ow
  have HK := hid hK
  have hmn : (m : Int) - (n : Int) = (h : Int) := by omega
  have HRN := head_run (h := h) OW.out HM.out (by omega)
  have hh1 : h ≤ 1000 := by omega
  have hmx : m ≤ maxLen := by unfold maxLen; omega
  have bV := belowA W (.cells #[] 3)
  have O2 := hid (own_low OW.out bV)
  have N0 := hid (own_new0 W B hB)
  have BV := hid (show Below B W (W.alloc (.cells #[] 3)) from bV.mono hB)
  clear bV
  have HC0 := hid (show h = (zs.take h).length by rw [List.length_take, ← HM.out]; omega)
  have RS := hid (own_rdI (own_take (show OwnI (W.alloc (.cells #[] 3)) B (.slice va zs.length vc) zs by rw [← HM.out]; exact O2.out) h (by rw [← HM.out]; omega))).2
  have HBD := hid (show ([] : List Int).length + (zs.take h).length ≤ 17592186044000 by rw [← HC0.out]; simp; omega)
  have HSZ := hid (show B ≤ (W.alloc (.cells #[] 3)).heap.size from Nat.le_trans hB BV.out.size)
  have hown : ∀ j, (Value.slice (some ⟨W.heap.size, 0, none⟩) 0 0).ownBlock = some j → B ≤ j := by
    intro j e
    simp [Value.ownBlock] at e
    omega
  have HOB := hid hown
  have HBB := hid hB
  clear hown nx hm hh ow hK hB
  go_wp2_with (at_builtin; refine append_src rfl _ _ rfl B _ [] rfl N0.out va h vc (zs.take h) HC0.out rfl RS.out.2 RS.out.1 HBD.out HSZ.out ?_)
  intro v2 w3 o3 g3
  (try rw [List.nil_append] at o3)
  have B3 := hid (show Below B W w3 from BV.out.grown g3 HSZ.out HOB.out)
  have O3 := hid o3
  obtain ⟨va3, vc3, rfl⟩ := own_form o3
  rw [← HC0.out]
  have own3 := hid (own_block o3)
  have O4 : w3.ownsRow B 3 1 (.slice va3 h vc3) h ((zs.take h).map (Value.int .i64)) := by
    have := o3
    unfold OwnI at this
    rw [← HC0.out] at this
    exact this
  have O5 := hid O4
  rw [← HC0.out] at own3
  clear o3 g3 O4 O2 N0 RS HRN
  go_wp2_with fail
  refine HK.out _ _ ?_
  go_wp2_with (at_builtin; refine wpList_append_own _ rfl _ _ 26 rfl B 3 i3 (.int .i64 0) 1 8 Tryz.underlying26 hi hz0 hz1i hz2 rfl (by decide) _ _ _ rfl (O5.out.alloc _) ⟨w3.heap.size, 0, none⟩ 1 1 [.int .i64 k] rfl rfl ?c1 ?c2 ?c3 ?c4 ?c5 ?_)
  case c1 => exact cell_one_new _ _ _
  case c2 => first | rfl | (intro x hx; simp at hx; subst hx; rfl)
  case c3 => unfold maxLen; omega
  case c4 => omega
  case c5 => have h1 := B3.out.size; have h2 := HBB.out; simp; omega
  intro v4 w4 hown' hgrow _
  have B4 := hid (show Below B W w4 from (B3.out.alloc (Nat.le_trans HBB.out B3.out.size) _).grown hgrow (by have h1 := B3.out.size; have h2 := HBB.out; simp; omega) (fun j e => (own3.out j e).1))
  have O6 := hid (show OwnI w4 B v4 (zs.take h ++ [(k : Int)]) by
    unfold OwnI
    rw [List.map_append, List.length_append, ← HC0.out, List.map_take]
    exact hown')
  clear hown' hgrow
  go_wp2_with fail
  exact NX.out _ _ _ _ _ _ _ _ _ _ _ _ _ _ _ O6.out B4.out
end Go.Proofs.YtcldglilhhhdoaaGreatDoor.L
