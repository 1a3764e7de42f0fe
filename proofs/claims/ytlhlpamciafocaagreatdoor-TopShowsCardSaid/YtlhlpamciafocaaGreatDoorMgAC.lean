import Derived.Test.YtlhlpamciafocaaGreatDoorMgAB
import Derived.Sort.Row
import Derived.Test.YtlhlpamciafocaaGreatDoorMgAA
import Derived.Laws.IdiomStrings
import Derived.Laws.BytesArg
import Derived.WideShapes
namespace Go.Proofs.YtlhlpamciafocaaGreatDoor.L
open Go.RowKit Go.Shelf
set_option linter.unusedVariables false
/-- A token. -/
structure Tok where
  kind : Nat
  text : ByteArray
  num : Int
  a : Nat
  e : Nat
def tv (t : Tok) : Value := .agg #[.int .i64 t.kind, .string t.text, .int .i64 t.num, .int .i64 t.a, .int .i64 t.e]
def tok0 : Tok := ⟨0, ⟨#[]⟩, 0, 0, 0⟩
/-- What reading a token comes to. -/
inductive RR where
  | ok (t : Tok)
  | bad (c a : Nat)
def TR.rr (f : Nat) : TR → RR
  | .ok l e => .ok ⟨1, ⟨l.toArray⟩, 0, f, e⟩
  | .bad c a => .bad c a
/-- What the program answers of it. -/
def Rd (r : RR) (w : World) (e : Ending) (w' : World) : Prop :=
  match r with
  | .ok t => e = .returned (.tuple #[tv t, .nilIface]) ∧ Below w.heap.size w w'
  | .bad c a => ∃ N, e = .returned (.tuple #[tv tok0, fv N]) ∧ Flt w' N c a ∧ w.heap.size ≤ N ∧ Below w.heap.size w w'
theorem bt_from (s : ByteArray) (k j : Nat) : bt (s.extract k s.size) j = bt s (k + j) := by
  unfold bt
  rw [List.getD_eq_getElem?_getD, List.getD_eq_getElem?_getD]
  simp [ByteArray.data_extract]
  rw [List.take_of_length_le (by simp), List.getElem?_drop]
  simp
theorem esc3_from (s : ByteArray) (k : Nat) : escV (bt (s.extract k s.size) 1) (bt (s.extract k s.size) 2) (bt (s.extract k s.size) 3) = esc3 s k := by
  unfold esc3
  rw [bt_from, bt_from, bt_from]
theorem ext_size (s : ByteArray) (k : Nat) : (s.extract k s.size).size ≤ s.size := by simp
theorem iv_eq {c : UInt8} {x : Int} {n : Nat} (h : iv c = x) (hx : x = n) (hn : n < 256) : c = UInt8.ofNat n := u8_iv (h.trans hx) hn
theorem iv_ne {c : UInt8} {x : Int} {n : Nat} (h : iv c = x) (hx : ¬ x = (n : Int)) (hn : n < 256) : c ≠ UInt8.ofNat n := by
  intro e
  apply hx
  rw [← h, e]
  unfold iv
  simp
  omega
def zcells : Array Value := #[.int .i64 0, .string ⟨#[]⟩, .int .i64 0, .int .i64 0, .int .i64 0]
/-- The result's own block, not yet written. -/
def Rc (N : Nat) (W : World) : Prop := W.heap[N]? = some (.cells zcells 80 (0, 0))
theorem Rc.keep {N b : Nat} {W W' : World} (h : Rc N W) (hk : Lib.OthersKept 5 (some b) W W') (hn : N ≠ b) : Rc N W' := by
  unfold Rc at h ⊢
  exact hk N _ h (fun e => hn (Option.some.inj e)) (fun c fz e => by cases e)
theorem Rc.low {N B : Nat} {W W' : World} (h : Rc N W) (hb : Below B W W') (hn : N < B) : Rc N W' := by
  unfold Rc at h ⊢
  rw [hb.block N hn]
  exact h
theorem Rc.cells {N : Nat} {W : World} (h : Rc N W) : W.cell? ⟨N, 0, none⟩ = some (.int .i64 0) ∧ W.cell? ⟨N, 1, none⟩ = some (.string ⟨#[]⟩) ∧ W.cell? ⟨N, 2, none⟩ = some (.int .i64 0) ∧ W.cell? ⟨N, 3, none⟩ = some (.int .i64 0) ∧ W.cell? ⟨N, 4, none⟩ = some (.int .i64 0) := by
  unfold Rc at h
  refine ⟨?_, ?_, ?_, ?_, ?_⟩ <;> (unfold World.cell?; rw [h]; rfl)
theorem Rc.lt {N : Nat} {W : World} (h : Rc N W) : N < W.heap.size := by
  apply Classical.byContradiction
  intro n
  unfold Rc at h
  rw [Array.getElem?_eq_none (by omega)] at h
  cases h
theorem Rc.facts {N : Nat} {W : World} (h : Rc N W) : (W.cell? ⟨N, 0, none⟩ = some (.int .i64 0) ∧ W.cell? ⟨N, 1, none⟩ = some (.string ⟨#[]⟩) ∧ W.cell? ⟨N, 2, none⟩ = some (.int .i64 0) ∧ W.cell? ⟨N, 3, none⟩ = some (.int .i64 0) ∧ W.cell? ⟨N, 4, none⟩ = some (.int .i64 0)) ∧
    W.frozen? ⟨N, 0, none⟩ = false ∧ W.frozen? ⟨N, 1, none⟩ = false ∧ W.frozen? ⟨N, 2, none⟩ = false ∧ W.frozen? ⟨N, 3, none⟩ = false ∧ W.frozen? ⟨N, 4, none⟩ = false := by
  refine ⟨h.cells, ?_⟩
  unfold Rc at h
  refine ⟨?_, ?_, ?_, ?_, ?_⟩ <;> (unfold World.frozen?; rw [h]; rfl)
theorem below_row {B : Nat} {a w : World} (h : Below B a w) (g : Nat) (cs : Array Value) (hb : B ≤ g) : Below B a (w.setRow g cs) := by
  refine ⟨h.os, h.tape, h.output, ?_, fun k hk => ?_⟩
  · rw [setRow_size]; exact h.size
  · show (w.heap.modify g _)[k]? = _
    rw [Array.getElem?_modify, if_neg (by omega)]
    exact h.block k hk
theorem below_undrew {B n : Nat} {w w' : World} (h : Below B (w.drewN n) w') : Below B w w' := ⟨h.os, h.tape, h.output, h.size, h.block⟩
theorem below_set {B : Nat} {a w : World} (h : Below B a w) (b o : Nat) (v : Value) (hb : B ≤ b) : Below B a (w.setCell ⟨b, o, none⟩ v) := by
  rw [Go.Sort.setCell_eq]
  refine ⟨h.os, h.tape, h.output, ?_, fun k hk => ?_⟩
  · show a.heap.size ≤ (w.heap.modify b _).size
    rw [Array.size_modify]
    exact h.size
  · show (w.heap.modify b _)[k]? = _
    rw [Array.getElem?_modify, if_neg (by omega)]
    exact h.block k hk
/-- A token is written into a block. -/
def put5 (W : World) (N : Nat) (a b c d e : Value) : World := ((((W.setCell ⟨N, 0, none⟩ a).setCell ⟨N, 1, none⟩ b).setCell ⟨N, 2, none⟩ c).setCell ⟨N, 3, none⟩ d).setCell ⟨N, 4, none⟩ e
theorem below_put5 {B : Nat} {a w : World} (h : Below B a w) (N : Nat) (x0 x1 x2 x3 x4 : Value) (hb : B ≤ N) : Below B a (put5 w N x0 x1 x2 x3 x4) :=
  below_set (below_set (below_set (below_set (below_set h N 0 _ hb) N 1 _ hb) N 2 _ hb) N 3 _ hb) N 4 _ hb
theorem block_set (W : World) (b o : Nat) (v : Value) (k : Nat) (h : k ≠ b) : (W.setCell ⟨b, o, none⟩ v).heap[k]? = W.heap[k]? := by
  rw [Go.Sort.setCell_eq]
  show (W.heap.modify b _)[k]? = _
  rw [Array.getElem?_modify, if_neg (fun e => h e.symm)]
theorem block_put5 (W : World) (N : Nat) (x0 x1 x2 x3 x4 : Value) (k : Nat) (h : k ≠ N) : (put5 W N x0 x1 x2 x3 x4).heap[k]? = W.heap[k]? := by
  unfold put5
  rw [block_set _ _ _ _ _ h, block_set _ _ _ _ _ h, block_set _ _ _ _ _ h, block_set _ _ _ _ _ h, block_set _ _ _ _ _ h]
theorem Flt.put5 {W : World} {M c a : Nat} (h : Flt W M c a) (N : Nat) (x0 x1 x2 x3 x4 : Value) (hn : M ≠ N) : Flt (put5 W N x0 x1 x2 x3 x4) M c a := by
  unfold Flt at h ⊢
  rw [block_put5 _ _ _ _ _ _ _ _ hn]
  exact h
set_option maxHeartbeats 8000000 in
theorem readtext_any (s : ByteArray) (f : Nat) (w : World) (hs : s.size ≤ 4096) (hf : f < s.size) :
    Calls Tryz.prog 79 #[.string s, .int .i64 (f : Int)] w fun e w' => Rd ((txS s f (f + 1) []).rr f) w e w' := by
  have FA := hid (fun (c : Nat) (a : Nat) (W : World) => fault_any c a W)
  go_enter Tryz.func79, Tryz.ntmps79
  go_wp2_with fail
  have RC0 := hid (show Rc w.heap.size (w.alloc (.cells zcells 80)) from heap_alloc_new w _)
  have BL0 := hid (belowA w (.cells zcells 80))
  have hZ0 : (w.alloc (.cells zcells 80)).heap.size = w.heap.size + 1 := by simp
  unfold zcells at RC0 BL0 hZ0
  generalize w.alloc (.cells #[.int .i64 0, .string ⟨#[]⟩, .int .i64 0, .int .i64 0, .int .i64 0] 80) = W at *
  have RC1 := hid (Rc.low RC0.out (belowA W (.cells #[.pointer none, .slice none 0 0] 113)) (by omega))
  have BD1 := hid (bld_new W)
  have BL1 := hid (BL0.out.trans ((belowA W (.cells #[.pointer none, .slice none 0 0] 113)).mono (by omega)))
  have hZ1 : w.heap.size + 1 < (W.alloc (.cells #[.pointer none, .slice none 0 0] 113)).heap.size := by simp; omega
  rw [hZ0] at BD1
  generalize W.alloc (.cells #[.pointer none, .slice none 0 0] 113) = W0 at *
  clear RC0 BL0 hZ0
  have hN : w.heap.size ≠ w.heap.size + 1 := by omega
  go_loopw [7] (fun i wr => ∃ (k : Nat) (l : List UInt8), k ≤ s.size ∧ i = .int .i64 k ∧ Hid (Below w.heap.size w wr) ∧ w.heap.size + 1 < wr.heap.size ∧ Hid (Bld (w.heap.size + 1) (w.heap.size + 1) l wr) ∧ Hid (Rc w.heap.size wr) ∧ l.length ≤ k ∧ Hid (txS s f (f + 1) [] = txS s f k l)) (fun i _ => s.size - (intOf i).toNat)
  case atStart => exact ⟨f + 1, [], by omega, by go_num, BL1, hZ1, BD1, RC1, by simp, hid rfl⟩
  case round =>
    obtain ⟨k, l, hk, rfl, HB, hZ, BD, RC, hl, HT⟩ := hrel
    by_cases hlt : k < s.size
    · have hc := iv_get s k hlt
      obtain ⟨x, hx⟩ : ∃ x, iv (bt s k) = x := ⟨_, rfl⟩
      have HX := hid hx
      rw [hx] at hc
      clear hx
      by_cases c34 : x = 34
      · have h2 := txS_q s f k l hlt (iv_eq (n := 34) HX.out c34 (by decide))
        have HL := hid (blen_any _ _ l wr BD.out)
        by_cases c127 : 127 < l.length
        all_goals have c127' := c127
        all_goals rw [← Int.ofNat_lt] at c127'
        · rw [if_pos c127] at h2
          subst c34
          have HT := hid (HT.out.trans h2)
          have HF := hid (FA.out 115 f wr)
          clear h2
          go_wp2_with (first | (go_at_call 93; refine HL.out.mono ?_; rintro e w1 ⟨rfl, hww⟩; have hw2 := hww.symm; clear hww; subst hw2) | (go_at_call 67; refine HF.out.mono ?_; rintro e w1 ⟨he, f1, l1⟩; unfold fv at he; subst he; have F1 := hid f1; have L1 := hid l1; clear f1 l1; have R1 := hid (Rc.low RC.out L1.out (by omega)); have ⟨⟨q0, q1, q2, q3, q4⟩, f0, f1, f2, f3, f4⟩ := Rc.facts R1.out))
          (try simp only [Exit.inBlock, Exit.then])
          refine bodyPost_ret (v := .tuple #[tv tok0, fv wr.heap.size]) ?_ rfl (by rw [HT.out]; exact ⟨_, rfl, F1.out.put5 _ _ _ _ _ _ (by first | omega | (simp; omega)), by first | omega | (simp; omega), below_put5 (HB.out.trans (L1.out.mono HB.out.size)) _ _ _ _ _ _ (Nat.le_refl _)⟩)
          rw [results_cell_tmp rfl]
          go_simp
          first | rfl | exact ⟨rfl, rfl⟩
        · rw [if_neg c127] at h2
          have HT := hid (HT.out.trans h2)
          have HS := hid (bstr_any _ _ l wr BD.out (by omega))
          clear h2
          subst c34
          go_wp2_with (first | (go_at_call 93; refine HL.out.mono ?_; rintro e w1 ⟨rfl, hww⟩; have hw2 := hww.symm; clear hww; subst hw2) | (go_at_call 61; refine HS.out.mono ?_; rintro e w1 ⟨rfl, l1⟩; have L1 := hid l1; clear l1; have R1 := hid (Rc.low RC.out L1.out (by omega)); have ⟨⟨q0, q1, q2, q3, q4⟩, f0, f1, f2, f3, f4⟩ := Rc.facts R1.out))
          (try simp only [Exit.inBlock, Exit.then])
          refine bodyPost_ret (v := .tuple #[tv ⟨1, ⟨l.toArray⟩, 0, f, k + 1⟩, .nilIface]) ?_ rfl (by rw [HT.out]; exact ⟨rfl, below_put5 (HB.out.trans (L1.out.mono (by omega))) _ _ _ _ _ _ (Nat.le_refl _)⟩)
          rw [results_cell_tmp rfl]
          go_simp
          first | rfl | exact ⟨rfl, rfl⟩
      · have n34 := iv_ne (n := 34) HX.out c34 (by decide)
        by_cases c92 : x = 92
        · have i92 := iv_eq (n := 92) HX.out c92 (by decide)
          have HE := hid (rescape_any wr (s.extract k s.size) (by have := ext_size s k; unfold maxLen; omega))
          rw [esc3_from] at HE
          by_cases e0 : (esc3 s k).2 = 0
          · have h2 := txS_e0 s f k l hlt i92 e0
            rw [e0] at HE
            generalize (esc3 s k).1 = y at *
            clear n34 i92 e0 c34
            subst c92
            have HT := hid (HT.out.trans h2)
            have HF := hid (fun n => FA.out 113 k (wr.drewN n))
            clear h2
            go_wp2_with (first | (go_at_call 94; refine HE.out.mono ?_; rintro e w1 ⟨rfl, n1, hww⟩; have hw2 := hww.symm; clear hww; subst hw2) | (go_at_call 67; refine (HF.out _).mono ?_; rintro e w1 ⟨he, f1, l1⟩; unfold fv at he; subst he; have F1 := hid (show Flt w1 wr.heap.size 113 k from f1); have L1 := hid (show Below wr.heap.size wr w1 from below_undrew l1); clear f1 l1; have R1 := hid (Rc.low RC.out L1.out (by omega)); have ⟨⟨q0, q1, q2, q3, q4⟩, f0, f1, f2, f3, f4⟩ := Rc.facts R1.out))
            (try simp only [Exit.inBlock, Exit.then])
            refine bodyPost_ret (v := .tuple #[tv tok0, fv wr.heap.size]) ?_ rfl (by rw [HT.out]; exact ⟨_, rfl, F1.out.put5 _ _ _ _ _ _ (by first | omega | (simp; omega)), by first | omega | (simp; omega), below_put5 (HB.out.trans (L1.out.mono HB.out.size)) _ _ _ _ _ _ (Nat.le_refl _)⟩)
            rw [results_cell_tmp rfl]
            go_simp
            first | rfl | exact ⟨rfl, rfl⟩
          · have h2 := txS_e s f k l hlt i92 e0
            have he := esc_in e0
            have HT := hid (HT.out.trans h2)
            have HW := hid (fun n => wbyte_any _ _ l (esc3 s k).1 (wr.drewN n) (bld_drew BD.out n) (by omega) (show w.heap.size + 1 ≤ wr.heap.size by omega))
            generalize (esc3 s k).1 = y at *
            obtain ⟨m, hm⟩ : ∃ m, (esc3 s k).2 = m := ⟨_, rfl⟩
            rw [hm] at HE HT he e0
            have e0' : ¬ (m : Int) = 0 := by omega
            have e0'' : ((m : Int) == 0) = false := by simpa using e0
            clear n34 i92 c34 h2 hm
            subst c92
            go_wp2_with (first | (go_at_call 94; refine HE.out.mono ?_; rintro e w1 ⟨rfl, n1, hww⟩; have hw2 := hww.symm; clear hww; subst hw2) | (go_at_call 62; refine (HW.out _).mono ?_; rintro e w2 ⟨rfl, b2, l2, o2⟩; have B2 := hid b2; have L2 := hid l2; have R2 := hid (Rc.keep (W := wr) RC.out o2 (by omega)); clear b2 l2 o2))
            exact ⟨⟨k + m, l ++ [y], by omega, by go_num, hid (HB.out.trans ((below_undrew L2.out).mono (by omega))), Nat.lt_of_lt_of_le hZ L2.out.size, B2, R2, by simp; omega, HT⟩, by simp [intOf]; omega⟩
        · have n92 := iv_ne (n := 92) HX.out c92 (by decide)
          by_cases c32 : x < 32
          · have h2 := txS_low s f k l hlt n34 n92 (by rw [HX.out]; exact c32)
            have c34' : (x == 34) = false := by simpa using c34
            have c92' : (x == 92) = false := by simpa using c92
            clear n34 n92
            have HT := hid (HT.out.trans h2)
            have HF := hid (FA.out 111 k wr)
            clear h2
            go_wp2_with (go_at_call 67; refine HF.out.mono ?_; rintro e w1 ⟨he, f1, l1⟩; unfold fv at he; subst he; have F1 := hid f1; have L1 := hid l1; clear f1 l1; have R1 := hid (Rc.low RC.out L1.out (by omega)); have ⟨⟨q0, q1, q2, q3, q4⟩, f0, f1, f2, f3, f4⟩ := Rc.facts R1.out)
            (try simp only [Exit.inBlock, Exit.then])
            refine bodyPost_ret (v := .tuple #[tv tok0, fv wr.heap.size]) ?_ rfl (by rw [HT.out]; exact ⟨_, rfl, F1.out.put5 _ _ _ _ _ _ (by first | omega | (simp; omega)), by first | omega | (simp; omega), below_put5 (HB.out.trans (L1.out.mono HB.out.size)) _ _ _ _ _ _ (Nat.le_refl _)⟩)
            rw [results_cell_tmp rfl]
            go_simp
            first | rfl | exact ⟨rfl, rfl⟩
          · have h2 := txS_go s f k l hlt n34 n92 (by rw [HX.out]; exact c32)
            have HT := hid (HT.out.trans h2)
            have HW := hid (wbyte_any _ _ l (bt s k) wr BD.out (by omega) (by omega))
            rw [HX.out] at HW
            generalize bt s k = y at *
            have c34' : (x == 34) = false := by simpa using c34
            have c92' : (x == 92) = false := by simpa using c92
            clear n34 n92 h2
            go_wp2_with (go_at_call 62; refine HW.out.mono ?_; rintro e w2 ⟨rfl, b2, l2, o2⟩; have B2 := hid b2; have L2 := hid l2; have R2 := hid (Rc.keep (W := wr) RC.out o2 (by omega)); clear b2 l2 o2)
            exact ⟨⟨k + 1, l ++ [y], by omega, by go_num, hid (HB.out.trans (L2.out.mono (by omega))), Nat.lt_of_lt_of_le hZ L2.out.size, B2, R2, by simp; omega, HT⟩, by simp [intOf]; omega⟩
    · have h2 := txS_end s f k l hlt
      have HT := hid (HT.out.trans h2)
      have HF := hid (FA.out 112 f wr)
      clear h2
      go_wp2_with (go_at_call 67; refine HF.out.mono ?_; rintro e w1 ⟨he, f1, l1⟩; unfold fv at he; subst he; have F1 := hid f1; have L1 := hid l1; clear f1 l1; have R1 := hid (Rc.low RC.out L1.out (by omega)); have ⟨⟨q0, q1, q2, q3, q4⟩, f0, f1, f2, f3, f4⟩ := Rc.facts R1.out)
      (try simp only [Exit.inBlock, Exit.then])
      refine bodyPost_ret (v := .tuple #[tv tok0, fv wr.heap.size]) ?_ rfl (by rw [HT.out]; exact ⟨_, rfl, F1.out.put5 _ _ _ _ _ _ (by first | omega | (simp; omega)), by first | omega | (simp; omega), below_put5 (HB.out.trans (L1.out.mono HB.out.size)) _ _ _ _ _ _ (Nat.le_refl _)⟩)
      rw [results_cell_tmp rfl]
      go_simp
      first | rfl | exact ⟨rfl, rfl⟩
end Go.Proofs.YtlhlpamciafocaaGreatDoor.L
namespace Go.Proofs.YtlhlpamciafocaaGreatDoor.L
open Go.RowKit
set_option linter.unusedVariables false
/-- What the parser has come to: the place of the next token, the nest, the parts, their offsets. -/
structure PS where
  nx : Nat
  ns : Nat
  ps : List Pt
  os : List Int
/-- The token at a place. -/
def tk (T : List Tok) (k : Nat) : Tok := T.getD k tok0
abbrev PRes (α : Type) : Type := Except (Nat × Int) (α × PS)
def adv (s : PS) : PS := { s with nx := s.nx + 1 }
/-- The fault at a token that cannot stand there. -/
def rfE (T : List Tok) (s : PS) : Nat × Int := (if (tk T s.nx).kind = 0 then 121 else 120, ((tk T s.nx).a : Int))
def isM (T : List Tok) (s : PS) (m : List UInt8) : Bool := decide ((tk T s.nx).kind = 4) && decide ((tk T s.nx).text.toList = m)
def markP (T : List Tok) (s : PS) (m : List UInt8) : PRes Unit := if isM T s m = true then .ok ((), adv s) else .error (rfE T s)
def textP (T : List Tok) (s : PS) : PRes ByteArray := if (tk T s.nx).kind = 1 then .ok ((tk T s.nx).text, adv s) else .error (rfE T s)
def openP (T : List Tok) (s : PS) (m : List UInt8) : PRes Unit :=
  if isM T s m = true then (if s.ns = 32 then .error (122, ((tk T s.nx).a : Int)) else .ok ((), { adv s with ns := s.ns + 1 })) else .error (rfE T s)
def shutP (s : PS) : PS := { s with ns := s.ns - 1 }
def putP (s : PS) (p : Pt) (off : Int) : PRes Int := .ok ((s.ps.length : Int), { s with ps := s.ps ++ [p], os := s.os ++ [off] })
def bnd {α β : Type} (r : PRes α) (f : α → PS → PRes β) : PRes β :=
  match r with
  | .ok (a, s) => f a s
  | .error e => .error e
theorem bnd_ok {α β : Type} {a : α} {s : PS} {f : α → PS → PRes β} : bnd (.ok (a, s)) f = f a s := rfl
theorem bnd_bad {α β : Type} {e : Nat × Int} {f : α → PS → PRes β} : bnd (.error e) f = .error e := rfl
/-- A text in parentheses that count as no nest. -/
def namedP (T : List Tok) (s : PS) : PRes ByteArray :=
  bnd (markP T s [40]) fun _ s1 => bnd (textP T s1) fun t s2 => bnd (markP T s2 [41]) fun _ s3 => .ok (t, s3)
def constP (T : List Tok) (s : PS) (k : Int) : PRes Int := putP (adv s) ⟨k, ⟨#[]⟩, 0, []⟩ ((tk T s.nx).a : Int)
def tolP (T : List Tok) (s : PS) : PRes Int := bnd (namedP T (adv s)) fun t s1 => putP s1 ⟨10, t, 0, []⟩ ((tk T s.nx).a : Int)
def isEl (t : Tok) : Bool := decide (t.kind = 1) || decide (t.kind = 2)
def elP (T : List Tok) (s : PS) : PRes Int :=
  if (tk T s.nx).kind = 1 then putP (adv s) ⟨11, (tk T s.nx).text, 0, []⟩ ((tk T s.nx).a : Int) else putP (adv s) ⟨12, ⟨#[]⟩, (tk T s.nx).num, []⟩ ((tk T s.nx).a : Int)
def memP (T : List Tok) (s : PS) (ahead : Nat) : PRes Int :=
  if isEl (tk T s.nx) = true then (if ahead = 64 then .error (124, ((tk T s.nx).a : Int)) else elP T s) else .error (rfE T s)
/-- Further elements of a set. -/
def memsP (T : List Tok) : Nat → List Int → PS → PRes (List Int)
  | 0, ks, s => .ok (ks, s)
  | n + 1, ks, s => if isM T s [44] = true then bnd (memP T (adv s) ks.length) fun k s1 => memsP T n (ks ++ [k]) s1 else .ok (ks, s)
def setP (T : List Tok) (s : PS) : PRes Int :=
  bnd (markP T s [123]) fun _ s1 =>
    bnd (if isM T s1 [125] = true then .ok ([], s1) else bnd (memP T s1 0) fun k s2 => .ok ([k], s2)) fun ks s2 =>
      bnd (memsP T 4097 ks s2) fun ks s3 => bnd (markP T s3 [125]) fun _ s4 => putP s4 ⟨13, ⟨#[]⟩, 0, ks⟩ ((tk T s.nx).a : Int)
/-- The field that a token names, 0: none. -/
def fieldO (t : Tok) : Int :=
  if t.kind = 3 then
    if t.text.toList = [110, 97, 109, 101] then 15 else if t.text.toList = [107, 101, 121, 115] then 16 else if t.text.toList = [116, 97, 105, 110, 116, 115] then 17 else if t.text.toList = [99, 97, 112] then 18 else 0
  else 0
def fieldP (T : List Tok) (s : PS) : PRes Int := if fieldO (tk T s.nx) = 0 then .error (rfE T s) else .ok (fieldO (tk T s.nx), adv s)
def whoP (T : List Tok) (s : PS) (side : Int) : PRes Int :=
  if isM T (adv s) [91] = true then
    bnd (textP T (adv (adv s))) fun t s1 => bnd (markP T s1 [93]) fun _ s2 => putP s2 ⟨14, t, side, []⟩ ((tk T s.nx).a : Int)
  else
    bnd (markP T (adv s) [46]) fun _ s1 => bnd (fieldP T s1) fun k s2 =>
      if k = 18 then bnd (namedP T s2) fun t s3 => putP s3 ⟨18, t, side, []⟩ ((tk T s.nx).a : Int) else putP s2 ⟨k, ⟨#[]⟩, side, []⟩ ((tk T s.nx).a : Int)
/-- The comparison that a mark stands for, 0: none. -/
def cmpO (m : List UInt8) : Int :=
  if m = [61, 61] then 1 else if m = [33, 61] then 2 else if m = [60] then 3 else if m = [60, 61] then 4 else if m = [62] then 5 else if m = [62, 61] then 6 else 0
/-- What stands between two terms. -/
def betO (t : Tok) : Option (Int × Int) :=
  if t.kind = 4 then (if cmpO t.text.toList = 0 then none else some (6, cmpO t.text.toList))
  else if t.kind = 3 then (if t.text.toList = [105, 110] then some (7, 0) else if t.text.toList = [110, 111, 116, 105, 110] then some (7, 1) else none)
  else none
/-- The productions that lean on one another. -/
inductive Gr where
  | expr
  | conj
  | unit
  | term
/-- Further parts of a row. -/
def rowsP (T : List Tok) (one : PS → PRes Int) (m : List UInt8) : Nat → List Int → PS → PRes (List Int)
  | 0, ks, s => .ok (ks, s)
  | n + 1, ks, s => if isM T s m = true then bnd (one (adv s)) fun k s1 => rowsP T one m n (ks ++ [k]) s1 else .ok (ks, s)
def rowP (T : List Tok) (one : PS → PRes Int) (kd : Int) (m : List UInt8) (s : PS) : PRes Int :=
  bnd (one s) fun k0 s1 => bnd (rowsP T one m 4097 [k0] s1) fun ks s2 =>
    if ks.length = 1 then .ok (k0, s2) else putP s2 ⟨kd, ⟨#[]⟩, 0, ks⟩ ((tk T s1.nx).a : Int)
/-- What stands in parentheses that count as a nest. -/
def withP {α : Type} (T : List Tok) (inner : PS → PRes α) (s : PS) : PRes α :=
  bnd (openP T s [40]) fun _ s1 => bnd (inner s1) fun k s2 => bnd (markP T s2 [41]) fun _ s3 => .ok (k, shutP s3)
def selP (T : List Tok) (ex : PS → PRes Int) (kd : Int) (s : PS) : PRes Int :=
  bnd (withP T (fun s1 => bnd (textP T s1) fun t s2 => bnd (markP T s2 [44]) fun _ s3 => bnd (ex s3) fun k s4 => .ok ((t, k), s4)) (adv s)) fun tk2 s5 =>
    putP s5 ⟨kd, tk2.1, 0, [tk2.2]⟩ ((tk T s.nx).a : Int)
def negP (T : List Tok) (un : PS → PRes Int) (s : PS) : PRes Int :=
  bnd (openP T s [33]) fun _ s1 => bnd (un s1) fun k s2 => putP (shutP s2) ⟨3, ⟨#[]⟩, 0, [k]⟩ ((tk T s.nx).a : Int)
def compP (T : List Tok) (te : PS → PRes Int) (s : PS) : PRes Int :=
  bnd (te s) fun l s1 =>
    match betO (tk T s1.nx) with
    | none => .error (rfE T s1)
    | some (kd, nu) => bnd (te (adv s1)) fun r s2 => putP s2 ⟨kd, ⟨#[]⟩, nu, [l, r]⟩ ((tk T s1.nx).a : Int)
def atomP (T : List Tok) (ex te : PS → PRes Int) (s : PS) : PRes Int :=
  if (tk T s.nx).kind = 3 then
    if (tk T s.nx).text.toList = [116, 114, 117, 101] then constP T s 1
    else if (tk T s.nx).text.toList = [102, 97, 108, 115, 101] then constP T s 2
    else if (tk T s.nx).text.toList = [110, 101, 97, 114] then selP T ex 8 s
    else if (tk T s.nx).text.toList = [97, 112, 97, 114, 116] then selP T ex 9 s
    else if (tk T s.nx).text.toList = [116, 111, 108, 101, 114, 97, 116, 101, 100] then tolP T s
    else compP T te s
  else compP T te s
def wordP (T : List Tok) (ex te : PS → PRes Int) (s : PS) : PRes Int :=
  if (tk T s.nx).text.toList = [110, 111, 100, 101] then whoP T s 2
  else if (tk T s.nx).text.toList = [112, 111, 100] then whoP T s 1
  else if (tk T s.nx).text.toList = [105, 116] then whoP T s 3
  else if (tk T s.nx).text.toList = [105, 110, 116] then bnd (withP T te (adv s)) fun k s1 => putP s1 ⟨19, ⟨#[]⟩, 0, [k]⟩ ((tk T s.nx).a : Int)
  else if (tk T s.nx).text.toList = [99, 111, 117, 110, 116] then selP T ex 20 s
  else .error (rfE T s)
def unitP (T : List Tok) (ex un te : PS → PRes Int) (s : PS) : PRes Int :=
  if isM T s [33] = true then negP T un s
  else if isM T s [40] = true then withP T ex s
  else atomP T ex te s
def termP (T : List Tok) (ex te : PS → PRes Int) (s : PS) : PRes Int :=
  if isEl (tk T s.nx) = true then elP T s
  else if isM T s [123] = true then setP T s
  else if (tk T s.nx).kind = 3 then wordP T ex te s
  else .error (rfE T s)
/-- What a production gives, with so much strength. -/
def gr (T : List Tok) : Nat → Gr → PS → PRes Int
  | 0, _, _ => .error (0, 0)
  | n + 1, .expr, s => rowP T (gr T n .conj) 5 [124, 124] s
  | n + 1, .conj, s => rowP T (gr T n .unit) 4 [38, 38] s
  | n + 1, .unit, s => unitP T (gr T n .expr) (gr T n .unit) (gr T n .term) s
  | n + 1, .term, s => termP T (gr T n .expr) (gr T n .term) s
/-- What the whole source gives. -/
def wholeP (T : List Tok) (n : Nat) : PRes Unit :=
  bnd (gr T n .expr ⟨0, 0, [], []⟩) fun _ s =>
    if (tk T s.nx).kind = 0 then (if 1000 < s.ps.length then .error (123, s.os.getD 1000 0) else .ok ((), s)) else .error (rfE T s)
end Go.Proofs.YtlhlpamciafocaaGreatDoor.L
namespace Go.Proofs.YtlhlpamciafocaaGreatDoor.L
open Go.RowKit Go.Shelf
set_option linter.unusedVariables false
def digB (x : Int) : Bool := decide (48 ≤ x ∧ x ≤ 57)
end Go.Proofs.YtlhlpamciafocaaGreatDoor.L
namespace Go.Proofs.YtlhlpamciafocaaGreatDoor.L
open Go.RowKit
set_option linter.unusedVariables false
set_option maxHeartbeats 4000000
set_option maxRecDepth 100000
theorem results_cell1 {fn : Func} {p : Tmp} {ty : TypeId} (h : fn.results = #[.cell p ty]) (tmps : Array Value) (P : Program) (w : World) :
    (results fn tmps).run P w = ((asAddr (tmps.getD p undef)).run P w).andThen fun a w₁ => (loadVar ty a).run P w₁ := by
  unfold results
  rw [h]
  simp [go_sem, Result.andThen]
end Go.Proofs.YtlhlpamciafocaaGreatDoor.L
namespace Go.Proofs.YtlhlpamciafocaaGreatDoor.L
open Go.RowKit
set_option linter.unusedVariables false
/-- A list of numbers that can be read. -/
def RdI (w : World) (a : Option Addr) (zs : List Int) : Prop := zs.length = 0 ∨ ∃ b off, a = some ⟨b, off, none⟩ ∧ b < w.heap.size ∧ ∀ j, j < zs.length → w.cell? ⟨b, off + j, none⟩ = some (.int .i64 (zs.getD j 0))
theorem RdI.low {w w' : World} {a : Option Addr} {zs : List Int} (h : RdI w a zs) {B : Nat} (k : Below B w w') (hB : w.heap.size ≤ B) : RdI w' a zs := by
  rcases h with h | ⟨b, off, rfl, h2, h3⟩
  · exact Or.inl h
  · exact Or.inr ⟨b, off, rfl, Nat.lt_of_lt_of_le h2 k.size, fun j hj => (k.cell (p := ⟨b, off + j, none⟩) (Nat.lt_of_lt_of_le h2 hB)).trans (h3 j hj)⟩
/-- A list of parts that can be read, with its lists of kids. -/
def PL (w : World) (a : Option Addr) (T : List Pt) : Prop := T.length = 0 ∨ ∃ b off, a = some ⟨b, off, none⟩ ∧ b < w.heap.size ∧ ∀ j, j < T.length → ∃ ka kc,
  w.cell? ⟨b, off + j * 4, none⟩ = some (.int .i64 (pt T j).kind) ∧ w.cell? ⟨b, off + j * 4 + 1, none⟩ = some (.string (pt T j).text) ∧ w.cell? ⟨b, off + j * 4 + 2, none⟩ = some (.int .i64 (pt T j).num) ∧
  w.cell? ⟨b, off + j * 4 + 3, none⟩ = some (.slice ka (pt T j).kids.length kc) ∧ RdI w ka (pt T j).kids
theorem PL.low {w w' : World} {a : Option Addr} {T : List Pt} (h : PL w a T) (k : Below w.heap.size w w') : PL w' a T := by
  rcases h with h | ⟨b, off, rfl, h2, h3⟩
  · exact Or.inl h
  · refine Or.inr ⟨b, off, rfl, Nat.lt_of_lt_of_le h2 k.size, fun j hj => ?_⟩
    obtain ⟨ka, kc, c0, c1, c2, c3, r⟩ := h3 j hj
    exact ⟨ka, kc, (k.cell (p := ⟨b, off + j * 4, none⟩) h2).trans c0, (k.cell (p := ⟨b, off + j * 4 + 1, none⟩) h2).trans c1, (k.cell (p := ⟨b, off + j * 4 + 2, none⟩) h2).trans c2, (k.cell (p := ⟨b, off + j * 4 + 3, none⟩) h2).trans c3, r.low k (Nat.le_refl _)⟩
/-- The lists are not too long for a machine. -/
def GdT (T : List Pt) : Prop := T.length ≤ 140737488355328 ∧ ∀ j, j < T.length → (pt T j).kids.length ≤ 140737488355328
/-- A row of numbers of one's own. -/
abbrev OwnI (w : World) (base : Nat) (v : Value) (zs : List Int) : Prop := w.ownsRow base 3 1 v zs.length (zs.map (Value.int .i64))
theorem info3 : (Tryz.prog.info? 3).map (fun i => (i.zero, i.size, i.bytes)) = some (some (.int .i64 0), 1, 8) := by kernel_rfl
theorem own_form {w : World} {base : Nat} {v : Value} {zs : List Int} (h : OwnI w base v zs) : ∃ a cap, v = .slice a zs.length cap := by
  rcases h.2 with ⟨e, n0⟩ | ⟨g, cap, cur, e, _⟩
  · exact ⟨none, 0, by rw [e, n0]⟩
  · exact ⟨_, _, e⟩
theorem own_low {w w' : World} {base : Nat} {v : Value} {zs : List Int} (h : OwnI w base v zs) (hk : Below w.heap.size w w') : OwnI w' base v zs :=
  World.ownsRow.kept (row := none) h ⟨hk.os, hk.tape, hk.output, hk.size, fun k hkl _ => hk.block k hkl⟩ (by cases v.ownBlock <;> simp)
theorem own_block {w : World} {base : Nat} {v : Value} {zs : List Int} (h : OwnI w base v zs) : ∀ k, v.ownBlock = some k → base ≤ k ∧ k < w.heap.size := by
  intro k hk
  rcases h.2 with ⟨e, n0⟩ | ⟨g, cap, cur, e, hb, hg, _⟩
  · rw [e] at hk; cases hk
  · rw [e] at hk
    simp [Value.ownBlock] at hk
    subst hk
    exact ⟨hb, lt_blk hg⟩
/-- An own row, read from any place on. -/
theorem own_rd {w : World} {base : Nat} {a : Option Addr} {n cap : Nat} {zs : List Int} (h : OwnI w base (.slice a n cap) zs) (k : Nat) (hk : k ≤ zs.length) : n = zs.length ∧ (zs.length = 0 ∨ ∃ g, a = some ⟨g, 0, none⟩ ∧ base ≤ g ∧ g < w.heap.size ∧ zs.length ≤ cap ∧ (∀ j, j < zs.length → w.cell? ⟨g, j, none⟩ = some (.int .i64 (zs.getD j 0))) ∧ RdI w (some ⟨g, k, none⟩) (zs.drop k)) := by
  rcases h.2 with ⟨e, n0⟩ | ⟨g, cap', cur, e, hb, hg, h3, h4, h5, h6⟩
  · injection e with e1 e2 e3
    exact ⟨by omega, .inl n0⟩
  · injection e with e1 e2 e3
    subst e1 e2 e3
    refine ⟨rfl, .inr ⟨g, rfl, hb, lt_blk hg, h3, ?_⟩⟩
    have key : ∀ j, j < zs.length → w.cell? ⟨g, j, none⟩ = some (.int .i64 (zs.getD j 0)) := by
      intro j hj
      rw [cell_of_row w g j _ _ _ hg]
      have := congrArg (fun l => l[j]?) h6
      simp only [List.getElem?_take_of_lt (show j < zs.length * 1 by omega), List.getElem?_map] at this
      rw [Array.getElem?_toList] at this
      rw [this, List.getElem?_eq_getElem hj, List.getD_eq_getElem?_getD, List.getElem?_eq_getElem hj]
      rfl
    refine ⟨key, .inr ⟨g, k, rfl, lt_blk hg, fun j hj => ?_⟩⟩
    rw [List.length_drop] at hj
    rw [key (k + j) (by omega), List.getD_eq_getElem?_getD, List.getD_eq_getElem?_getD, List.getElem?_drop]
/-- The first k of an own row are an own row. -/
theorem own_take {w : World} {base : Nat} {a : Option Addr} {cap : Nat} {zs : List Int} (h : OwnI w base (.slice a zs.length cap) zs) (k : Nat) (hk : k ≤ zs.length) : OwnI w base (.slice a k cap) (zs.take k) := by
  have hl : (zs.take k).length = k := by simp; omega
  unfold OwnI
  rw [hl]
  refine ⟨by simp; omega, ?_⟩
  rcases h.2 with ⟨e, n0⟩ | ⟨g, cap', cur, e, hb, hg, h3, h4, h5, h6⟩
  · injection e with e1 e2 e3
    subst e1 e3
    have : k = 0 := by omega
    subst this
    exact .inl ⟨rfl, rfl⟩
  · injection e with e1 e2 e3
    subst e1 e3
    refine .inr ⟨g, cap, cur, rfl, hb, hg, by omega, h4, h5, ?_⟩
    rw [List.map_take, ← h6, List.take_take]
    congr 1
    omega
end Go.Proofs.YtlhlpamciafocaaGreatDoor.L
namespace Go.Proofs.YtlhlpamciafocaaGreatDoor.L
open Go.RowKit
set_option linter.unusedVariables false
theorem cells7 {W : World} {N : Nat} {a b c d e f g : Value} {ty : TypeId} (h : W.heap[N]? = some (.cells #[a, b, c, d, e, f, g] ty (0, 0))) : W.cell? ⟨N, 0, none⟩ = some a ∧ W.cell? ⟨N, 1, none⟩ = some b ∧ W.cell? ⟨N, 2, none⟩ = some c ∧ W.cell? ⟨N, 3, none⟩ = some d ∧ W.cell? ⟨N, 4, none⟩ = some e ∧ W.cell? ⟨N, 5, none⟩ = some f ∧ W.cell? ⟨N, 6, none⟩ = some g := by
  refine ⟨?_, ?_, ?_, ?_, ?_, ?_, ?_⟩ <;> (unfold World.cell?; rw [h]; rfl)
theorem cells4 {W : World} {N : Nat} {a b c d : Value} {ty : TypeId} (h : W.heap[N]? = some (.cells #[a, b, c, d] ty (0, 0))) : W.cell? ⟨N, 0, none⟩ = some a ∧ W.cell? ⟨N, 1, none⟩ = some b ∧ W.cell? ⟨N, 2, none⟩ = some c ∧ W.cell? ⟨N, 3, none⟩ = some d := by
  refine ⟨?_, ?_, ?_, ?_⟩ <;> (unfold World.cell?; rw [h]; rfl)
end Go.Proofs.YtlhlpamciafocaaGreatDoor.L
namespace Go.Proofs.YtlhlpamciafocaaGreatDoor.L
open Go.RowKit
set_option linter.unusedVariables false
theorem RdI.drew {w : World} {a : Option Addr} {zs : List Int} (h : RdI w a zs) (n : Nat) : RdI (w.drewN n) a zs := h
/-- What barred answers. -/
def BarR (T : List Pt) (i : Int) : Prop := (∃ j : Nat, i = j ∧ Bar T j) ∨ (i = ((T.length - 1 : Nat) : Int) ∧ Ok0 T ∧ Lst T) ∨ (i = -1 ∧ Ok0 T ∧ ¬ Lst T)
theorem ok_iff {T : List Pt} {k : Nat} (hk : k < 1000) : OkA T k ↔ (pt T k).kids.length ≤ (fre T k).length ∧ (pt T k).kids = (fre T k).drop ((fre T k).length - (pt T k).kids.length) ∧ tabP T (pt T k) := by
  constructor
  · intro h
    have h1 := h.many
    have h2 := fre_len T k
    exact ⟨h.many, h.kids, (tab_iff T _ (by omega)).2 h.tab⟩
  · rintro ⟨h1, h2, h3⟩
    have h4 := fre_len T k
    exact ⟨h1, h2, (tab_iff T _ (by omega)).1 h3⟩
set_option maxRecDepth 100000 in
theorem tail_nil (W : World) : (Instr.slice 34 (.slice none 0 0) (some (.int .i64 ((0 : Nat) : Int))) none none).run Tryz.prog W = .ok (.slice none 0 0) W := by kernel_rfl
set_option maxRecDepth 100000 in
/-- The end of an own row, from place h on. -/
theorem tail_run {w : World} {base : Nat} {va : Option Addr} {m vc h n : Nat} {zs : List Int} (o : OwnI w base (.slice va m vc) zs) (hz : m = zs.length) (hm : m = h + n) : ∃ x c', (∀ W, (Instr.slice 34 (.slice va m vc) (some (.int .i64 (h : Int))) none none).run Tryz.prog W = .ok (.slice x n c') W) ∧ ∀ W, Below w.heap.size w W → RdI W x (zs.drop h) := by
  rcases o.2 with ⟨e, n0⟩ | ⟨g, cap, cur, e, hb, hg, h3, h4, h5, h6⟩
  · injection e with e1 e2 e3
    subst e1 e3
    have h0 : h = 0 := by omega
    have nn : n = 0 := by omega
    have mm : m = 0 := by omega
    subst h0 nn mm
    exact ⟨none, 0, tail_nil, fun W _ => .inl (by rw [List.length_drop]; omega)⟩
  · injection e with e1 e2 e3
    subst e1 e3
    have k1 : (h : Int) ≤ (m : Int) := by omega
    refine ⟨if vc = h then some ⟨g, 0, none⟩ else some ⟨g, h, none⟩, vc - h, fun W => ?_, fun W hW => ?_⟩
    · have e1 : m - h = n := by omega
      have k2 : (0 : Int) ≤ (h : Int) := by omega
      have k3 : (m : Int) ≤ (vc : Int) := by omega
      clear hm hz e2
      go_simp
    · by_cases e : vc = h
      · exact .inl (by rw [List.length_drop]; omega)
      · rw [if_neg e]
        rw [hz] at o
        rcases (own_rd (own_low o hW) h (by omega)).2 with z | ⟨g', eg, _, _, _, _, r⟩
        · exact .inl (by rw [List.length_drop]; omega)
        · cases eg
          exact r
set_option maxRecDepth 100000 in
theorem head_nil (W : World) : (Instr.slice 34 (.slice none 0 0) none (some (.int .i64 ((0 : Nat) : Int))) none).run Tryz.prog W = .ok (.slice none 0 0) W := by kernel_rfl
set_option maxRecDepth 100000 in
theorem head_run {w : World} {base : Nat} {va : Option Addr} {m vc h : Nat} {zs : List Int} (o : OwnI w base (.slice va m vc) zs) (hz : m = zs.length) (hm : h ≤ m) : ∀ W, (Instr.slice 34 (.slice va m vc) none (some (.int .i64 (h : Int))) none).run Tryz.prog W = .ok (.slice va h vc) W := by
  rcases o.2 with ⟨e, n0⟩ | ⟨g, cap, cur, e, hb, hg, h3, h4, h5, h6⟩
  · injection e with e1 e2 e3
    subst e1 e3
    have h0 : h = 0 := by omega
    have mm : m = 0 := by omega
    subst h0 mm
    exact head_nil
  · injection e with e1 e2 e3
    subst e1 e3
    intro W
    have k1 : (h : Int) ≤ (vc : Int) := by omega
    have k2 : (0 : Int) ≤ (h : Int) := by omega
    clear hm hz e2
    go_simp
end Go.Proofs.YtlhlpamciafocaaGreatDoor.L
namespace Go.Proofs.YtlhlpamciafocaaGreatDoor.L
open Go.RowKit
set_option linter.unusedVariables false
theorem getD_mem {l : List Int} {k : Nat} (h : k < l.length) : l.getD k 0 ∈ l := by
  rw [List.getD_eq_getElem?_getD, List.getElem?_eq_getElem h]
  exact List.getElem_mem h
end Go.Proofs.YtlhlpamciafocaaGreatDoor.L
namespace Go.Proofs.YtlhlpamciafocaaGreatDoor.L
open Go.RowKit
set_option linter.unusedVariables false
theorem append_src {w : World} {ops : Array Oper} {rest : List Oper} {o : Oper} {a : Act} {Q : Exit → Act → World → Prop} (hgd : o.guard = none) (s x : Operand)
    (ho : o.op = .call { callee := .builtin .append, args := #[s, x], argTypes := #[34, 34] })
    (base : Nat) (v : Value) (zs : List Int) (hs : a.eval s = v) (hown : OwnI w base v zs) (xa : Option Addr) (n xc : Nat) (ys : List Int) (hn : n = ys.length) (hx : a.eval x = .slice xa n xc) (hno : xa = none → xc = 0) (hsrc : RdI w xa ys) (hbound : zs.length + ys.length ≤ 17592186044000) (hbase : base ≤ w.heap.size)
    (h : ∀ v'' w', OwnI w' base v'' (zs ++ ys) → w.grownBy w' v.ownBlock → wpList Tryz.prog ops Q rest (a.put o.dst v'') w') : wpList Tryz.prog ops Q (o :: rest) a w := by
  obtain ⟨i0, hi, hz0, hz1, hz2⟩ := info_parts info3
  subst hn
  cases xa with
  | none =>
    have hl : ys.length = 0 := by
      rcases hsrc with h | ⟨b, off, e, _⟩
      · exact h
      · cases e
    have he : ys = [] := List.length_eq_zero_iff.1 hl
    subst he
    rw [hno rfl] at hx
    refine wpList_append_own_none hgd s x 34 ho base 3 i0 1 Tryz.underlying34 hi v _ _ hs hown hx ?_
    exact h v w (by rw [List.append_nil]; exact hown) ⟨rfl, rfl, rfl, Nat.le_refl _, fun _ _ _ => rfl⟩
  | some ad =>
    refine wpList_append_own w hgd s x 34 ho base 3 i0 (.int .i64 0) 1 8 Tryz.underlying34 hi hz0 hz1 hz2 rfl (by decide) v _ _ hs hown ad ys.length xc (ys.map (Value.int .i64)) hx (by simp) ?_ (by intro u hu; simp at hu; obtain ⟨z, _, rfl⟩ := hu; rfl) (by unfold maxLen; omega) (by omega) hbase ?_
    · intro j u hu
      rw [List.getElem?_map] at hu
      by_cases hj : j < ys.length
      · rw [List.getElem?_eq_getElem hj] at hu
        cases hu
        rcases hsrc with h0 | ⟨b, off, e, hb, hc⟩
        · omega
        · cases e
          have := hc j hj
          rw [List.getD_eq_getElem?_getD, List.getElem?_eq_getElem hj] at this
          rw [Go.WideShapes.add_plain]
          exact this
      · rw [List.getElem?_eq_none (by omega)] at hu
        cases hu
    · intro v'' w' ho' hg _
      refine h v'' w' ?_ hg
      unfold OwnI
      rw [List.length_append, List.map_append]
      exact ho'
theorem own_rdI {w : World} {base : Nat} {a : Option Addr} {n cap : Nat} {zs : List Int} (h : OwnI w base (.slice a n cap) zs) : n = zs.length ∧ RdI w a zs ∧ (a = none → cap = 0) := by
  rcases h.2 with ⟨e, n0⟩ | ⟨g, cap', cur, e, hb, hg, h3, h4, h5, h6⟩
  · injection e with e1 e2 e3
    exact ⟨by omega, .inl n0, fun _ => e3⟩
  · obtain ⟨h1, h2⟩ := own_rd h 0 (Nat.zero_le _)
    injection e with e1 e2 e3
    subst e1
    refine ⟨h1, ?_, fun e => by cases e⟩
    rcases h2 with h2 | ⟨g', e', _, _, _, _, r⟩
    · exact .inl h2
    · cases e'
      exact r
theorem own_new0 (w : World) (base : Nat) (hb : base ≤ w.heap.size) : OwnI (w.alloc (.cells #[] 3)) base (.slice (some ⟨w.heap.size, 0, none⟩) 0 0) [] := World.ownsRow_made w #[] 0 hb (Nat.zero_le _) rfl
end Go.Proofs.YtlhlpamciafocaaGreatDoor.L
