import Derived.Test.YtbpkfnnncglegaaDoorU2
import Derived.Laws.IdiomStrings
import Derived.Laws.BytesArg
import Derived.WideShapes
import Derived.Lib.ItoaMem
namespace Go.Proofs.YtbpkfnnncglegaaDoor.L
open Go.RowKit
set_option linter.unusedVariables false
set_option linter.unusedSimpArgs false
def hdC : Code → Code
  | .seq a _ => a
  | c => c
def rtC : Code → Code
  | .seq _ b => b
  | c => c
abbrev S (l : List UInt8) : ByteArray := ⟨l.toArray⟩
theorem S_size (l : List UInt8) : (S l).size = l.length := by
  show l.toArray.size = _
  simp
theorem S_app (a b : List UInt8) : S a ++ S b = S (a ++ b) := by
  apply ByteArray.ext
  simp [S]
theorem S_inj {a b : List UInt8} (h : S a = S b) : a = b := by
  have := congrArg (fun x => x.data.toList) h
  simpa using this
def iv (b : UInt8) : Int := (b.toNat : Int)
abbrev OwnB (w : World) (base : Nat) (v : Value) (l : List UInt8) : Prop := w.ownsRow base 5 1 v l.length (Lib.byteCells l)
theorem byteCells_eq (l : List UInt8) : Lib.byteCells l = l.map (fun b => Value.int .u8 (iv b)) := rfl
theorem ownb_form {w : World} {base : Nat} {v : Value} {l : List UInt8} (h : OwnB w base v l) : ∃ a cap, v = .slice a l.length cap := by
  rcases h.2 with ⟨e, n0⟩ | ⟨g, cap, cur, e, _⟩
  · exact ⟨none, 0, by rw [e, n0]⟩
  · exact ⟨_, _, e⟩
theorem conv_own {w : World} {base : Nat} {v : Value} {l : List UInt8} (h : OwnB w base v l) : (convert 38 9 v).run Tryd.prog w = .ok (.string ⟨l.toArray⟩) w := by
  rcases h.2 with ⟨rfl, n0⟩ | ⟨g, cap, cur, rfl, hb, hg, h1, h2, h3, h4⟩
  · have : l = [] := List.eq_nil_of_length_eq_zero n0
    subst this
    exact run_convert_bytes_nil (P := Tryd.prog) w 38 5 Tryd.underlying38 Tryd.underlying5 0 0 9 Tryd.underlying9
  · refine run_convert_bytes_back (P := Tryd.prog) w 38 9 5 ⟨g, 0, none⟩ cap l Tryd.underlying38 Tryd.underlying5 Tryd.underlying9 ?_
    intro j hj
    have hlen : (Lib.byteCells l)[j]? = some (.int .u8 (l[j].toNat : Int)) := by
      rw [byteCells_eq, List.getElem?_map, List.getElem?_eq_getElem hj]
      rfl
    rw [← h4, List.getElem?_take_of_lt (by omega)] at hlen
    rw [Go.WideShapes.add_plain, cell_of_row w g (0 + j) _ _ _ hg]
    simpa using hlen
theorem one_row (w : World) (c : UInt8) : OwnB (w.alloc (.cells #[.int .u8 (iv c)] 5)) w.heap.size (.slice (some ⟨w.heap.size, 0, none⟩) 1 1) [c] := World.ownsRow_lit (base := w.heap.size) (e := 5) (size := 1) w #[.int .u8 (iv c)] 1 (Nat.le_refl _) (by decide) (by simp)
theorem dgt_iv (D k : Nat) : iv (dgt D k) = 48 + ((D / 10 ^ k % 10 : Nat) : Int) := by
  unfold iv dgt
  have h : D / 10 ^ k % 10 < 10 := Nat.mod_lt _ (by decide)
  rw [UInt8.toNat_ofNat_of_lt' (by simp [UInt8.size]; omega)]
  omega
theorem wrap8 (q : Nat) (h : q < 10) : IntKind.u8.wrap (48 + (q : Int)) = 48 + (q : Int) := by unfold IntKind.wrap; simp [IntKind.bits, IntKind.signed]; omega
theorem wr_5_sf5 : (rtC (rtC (rtC (rtC (rtC (Option.getD Tryd.f10.body Code.skip)))))) = .seq (hdC (rtC (rtC (rtC (rtC (rtC (Option.getD Tryd.f10.body Code.skip))))))) (rtC (rtC (rtC (rtC (rtC (rtC (Option.getD Tryd.f10.body Code.skip))))))) := by kernel_rfl
theorem wr_5_sf6 : (rtC (rtC (rtC (rtC (rtC (rtC (Option.getD Tryd.f10.body Code.skip))))))) = .seq (hdC (rtC (rtC (rtC (rtC (rtC (rtC (Option.getD Tryd.f10.body Code.skip)))))))) (rtC (rtC (rtC (rtC (rtC (rtC (rtC (Option.getD Tryd.f10.body Code.skip)))))))) := by kernel_rfl
theorem wr_5_sf7 : (rtC (rtC (rtC (rtC (rtC (rtC (rtC (Option.getD Tryd.f10.body Code.skip)))))))) = .seq (hdC (rtC (rtC (rtC (rtC (rtC (rtC (rtC (Option.getD Tryd.f10.body Code.skip))))))))) (rtC (rtC (rtC (rtC (rtC (rtC (rtC (rtC (Option.getD Tryd.f10.body Code.skip))))))))) := by kernel_rfl
set_option maxHeartbeats 8000000 in
set_option maxRecDepth 100000 in
theorem wr_5 (w X : World) (out : List UInt8) (D p i : Nat) (B : Nat) (da : Option Addr) (m dc : Nat) {t0 t2 t3 t4 t6 t8 t9 t10 t11 t12 t13 t14 t15 t16 t17 t18 t19 t20 t21 t22 t23 t24 t25 t26 t27 t28 t29 t30 t31 t32 t33 t34 t35 t36 t37 t38 t39 t40 t41 t42 t43 t44 t45 t46 t47 t48 t49 t50 t51 t52 t53 t54 t55 t56 t57 t58 t59 t60 t61 t62 t63 t64 t65 t66 t67 t68 t69 t70 t71 t72 t73 t74 t75 t76 t77 t78 t79 t80 t81 t82 t83 t84 t85 t86 t87 t88 t89 t90 t91 t92 t93 t94 t95 t96 t97 t98 t99 t100 t101 t102 t103 t104 t105 t106 t107 t108 t109 : Value}
    (hO : OwnI X B (.slice da m dc) (dl D m)) (hL : D < 10 ^ m) (hm : m ≤ 200) (hlow : Below w.heap.size w X) (hB : w.heap.size ≤ B) (hBX : B ≤ X.heap.size) (hp : p ≤ 100)
    (nx : ∀ (W' : World) (da : Option Addr) (m2 dc top : Nat) {y0 y2 y3 y4 y6 y10 y11 y12 y13 y14 y15 y16 y17 y18 y19 y20 y21 y22 y23 y24 y25 y26 y27 y28 y29 y30 y31 y32 y33 y34 y35 y36 y37 y38 y39 y40 y41 y42 y43 y44 y45 y46 y47 y48 y49 y50 y51 y52 y53 y54 y55 y56 y57 y58 y59 y60 y61 y62 y63 y64 y65 y66 y67 y68 y69 y70 y71 y72 y73 y74 y75 y76 y77 y78 y79 y80 y81 y82 y83 y84 y85 y86 y87 y88 y89 y90 y91 y92 y93 y94 y95 y96 y97 y98 y99 y100 y101 y102 y103 y104 y105 y106 y107 y108 y109 : Value}, OwnI W' B (.slice da m2 dc) (dl D m2) → D < 10 ^ m2 → p < m2 → m2 ≤ 200 → m2 = top + 1 → Below w.heap.size w W' → Code.wp Tryd.prog (rtC (rtC (rtC (rtC (rtC (rtC (rtC (rtC (Option.getD Tryd.f10.body Code.skip))))))))) (bodyPost Tryd.prog Tryd.f10 (fun e w' => e = .returned (.string (S out)) ∧ Below w.heap.size w w')) { tmps := #[y0, .int .i64 (i : Int), y2, y3, y4, .slice da m2 dc, y6, .int .i64 (p : Int), .string (S []), .int .i64 (top : Int), y10, y11, y12, y13, y14, y15, y16, y17, y18, y19, y20, y21, y22, y23, y24, y25, y26, y27, y28, y29, y30, y31, y32, y33, y34, y35, y36, y37, y38, y39, y40, y41, y42, y43, y44, y45, y46, y47, y48, y49, y50, y51, y52, y53, y54, y55, y56, y57, y58, y59, y60, y61, y62, y63, y64, y65, y66, y67, y68, y69, y70, y71, y72, y73, y74, y75, y76, y77, y78, y79, y80, y81, y82, y83, y84, y85, y86, y87, y88, y89, y90, y91, y92, y93, y94, y95, y96, y97, y98, y99, y100, y101, y102, y103, y104, y105, y106, y107, y108, y109], defers := [] } W') :
    Code.wp Tryd.prog (rtC (rtC (rtC (rtC (rtC (Option.getD Tryd.f10.body Code.skip)))))) (bodyPost Tryd.prog Tryd.f10 (fun e w' => e = .returned (.string (S out)) ∧ Below w.heap.size w w')) { tmps := #[t0, .int .i64 (i : Int), t2, t3, t4, .slice da m dc, t6, .int .i64 (p : Int), t8, t9, t10, t11, t12, t13, t14, t15, t16, t17, t18, t19, t20, t21, t22, t23, t24, t25, t26, t27, t28, t29, t30, t31, t32, t33, t34, t35, t36, t37, t38, t39, t40, t41, t42, t43, t44, t45, t46, t47, t48, t49, t50, t51, t52, t53, t54, t55, t56, t57, t58, t59, t60, t61, t62, t63, t64, t65, t66, t67, t68, t69, t70, t71, t72, t73, t74, t75, t76, t77, t78, t79, t80, t81, t82, t83, t84, t85, t86, t87, t88, t89, t90, t91, t92, t93, t94, t95, t96, t97, t98, t99, t100, t101, t102, t103, t104, t105, t106, t107, t108, t109], defers := [] } X := by
  rw [wr_5_sf5, wr_5_sf6, wr_5_sf7]
  generalize hT : (rtC (rtC (rtC (rtC (rtC (rtC (rtC (rtC (Option.getD Tryd.f10.body Code.skip))))))))) = TL at *
  clear hT
  simp only [hdC, rtC, Option.getD, Tryd.f10]
  have NX := hid nx
  have O0 := hid hO
  have L0 := hid hlow
  have HL := hid hL
  have HBB := hid hB
  have HBX := hid hBX
  clear nx hO hlow hL hB hBX
  go_wp2_with fail
  go_loopw [5] (fun d wr => ∃ (k : Nat) (a : Option Addr) (c : Nat), (k = m ∨ (m ≤ k ∧ k ≤ p + 1)) ∧ d = .slice a k c ∧ Hid (OwnI wr B (.slice a k c) (dl D k)) ∧ Hid (D < 10 ^ k) ∧ Hid (Below w.heap.size w wr) ∧ Hid (B ≤ wr.heap.size)) (fun d _ => match d with | .slice _ k _ => p + 1 - k | _ => 0)
  case atStart => exact ⟨m, da, dc, .inl rfl, rfl, O0, HL, L0, HBX⟩
  case round =>
    clear O0 HL L0 HBX
    obtain ⟨k, ka, kc, hk, rfl, HO, HL, HB, HX⟩ := hrel
    by_cases hkp : k ≤ p
    · have g1 : (k : Int) ≤ (p : Int) := by omega
      have HDD := hid (show (0 : Int) = ((D / 10 ^ k % 10 : Nat) : Int) by rw [Nat.div_eq_of_lt HL.out]; rfl)
      have hk2 : k ≤ 1000 := by omega
      go_wp2_with (at_builtin; go_loud (refine wpList_dig rfl _ _ rfl B (.slice ka k kc) D k _ HDD.out rfl HO.out rfl hk2 HX.out ?_))
      intro v' w' ho' hb' hs'
      have HO' := hid ho'
      have HB' := hid (HB.out.trans (hb'.mono HBB.out))
      have HX' := hid (Nat.le_trans HX.out hs')
      clear ho' hb' hs'
      obtain ⟨ov', oc', rfl⟩ := own_form HO'.out
      rw [dl_len] at HO' ⊢
      have HL' := hid (show D < 10 ^ (k + 1) from Nat.lt_of_lt_of_le HL.out (Nat.pow_le_pow_right (by decide) (by omega)))
      go_wp2_with fail
      refine ⟨⟨k + 1, _, _, .inr ⟨by omega, by omega⟩, rfl, HO', HL', HB', HX'⟩, ?_⟩
      show p + 1 - (k + 1) < p + 1 - k
      omega
    · have g1 : ¬ ((k : Int) ≤ (p : Int)) := by omega
      have e1 : (k : Int) - 1 = ((k - 1 : Nat) : Int) := by omega
      have HT := hid (show k = k - 1 + 1 by omega)
      have HKP := hid (show p < k by omega)
      have hk200 := hid (show k ≤ 200 by omega)
      go_wp2_with fail
      exact NX.out _ _ _ _ _ HO.out HL.out HKP.out hk200.out HT.out HB.out

end Go.Proofs.YtbpkfnnncglegaaDoor.L
