import Derived.Test.YtcldglilhhhdoaaGreatDoorMgAA
import Derived.Sort.Row
import Derived.Laws.IdiomStrings
import Derived.Laws.BytesArg
import Derived.WideShapes
namespace Go.Proofs.YtcldglilhhhdoaaGreatDoor.L
open Go.RowKit Go.Shelf
set_option linter.unusedVariables false
/-- A token. -/
structure Tok where
  kind : Nat
  text : ByteArray
  num : Int
  a : Nat
  e : Nat
def tv (t : Tok) : Value := .agg #[.int .i64 t.kind, .string t.text, .int .i64 t.num, .int .i64 t.a, .int .i64 t.e]
def tok0 : Tok := ⟨0, ⟨#[]⟩, 0, 0, 0⟩
/-- What reading a token comes to. -/
inductive RR where
  | ok (t : Tok)
  | bad (c a : Nat)
def TR.rr (f : Nat) : TR → RR
  | .ok l e => .ok ⟨1, ⟨l.toArray⟩, 0, f, e⟩
  | .bad c a => .bad c a
/-- What the program answers of it. -/
def Rd (r : RR) (w : World) (e : Ending) (w' : World) : Prop :=
  match r with
  | .ok t => e = .returned (.tuple #[tv t, .nilIface]) ∧ Below w.heap.size w w'
  | .bad c a => ∃ N, e = .returned (.tuple #[tv tok0, fv N]) ∧ Flt w' N c a ∧ w.heap.size ≤ N ∧ Below w.heap.size w w'
theorem Rd.back {r : RR} {w w1 w' : World} {e : Ending} (h : Rd r w1 e w') (hb : Below w.heap.size w w1) : Rd r w e w' := by
  cases r with
  | ok t => exact ⟨h.1, hb.trans (h.2.mono hb.size)⟩
  | bad c a =>
    obtain ⟨N, h1, h2, h3, h4⟩ := h
    exact ⟨N, h1, h2, Nat.le_trans hb.size h3, hb.trans (h4.mono hb.size)⟩
theorem bt_from (s : ByteArray) (k j : Nat) : bt (s.extract k s.size) j = bt s (k + j) := by
  unfold bt
  rw [List.getD_eq_getElem?_getD, List.getD_eq_getElem?_getD]
  simp [ByteArray.data_extract]
  rw [List.take_of_length_le (by simp), List.getElem?_drop]
  simp
theorem esc3_from (s : ByteArray) (k : Nat) : escV (bt (s.extract k s.size) 1) (bt (s.extract k s.size) 2) (bt (s.extract k s.size) 3) = esc3 s k := by
  unfold esc3
  rw [bt_from, bt_from, bt_from]
theorem ext_size (s : ByteArray) (k : Nat) : (s.extract k s.size).size ≤ s.size := by simp
theorem iv_eq {c : UInt8} {x : Int} {n : Nat} (h : iv c = x) (hx : x = n) (hn : n < 256) : c = UInt8.ofNat n := u8_iv (h.trans hx) hn
theorem iv_ne {c : UInt8} {x : Int} {n : Nat} (h : iv c = x) (hx : ¬ x = (n : Int)) (hn : n < 256) : c ≠ UInt8.ofNat n := by
  intro e
  apply hx
  rw [← h, e]
  unfold iv
  simp
  omega
def zcells : Array Value := #[.int .i64 0, .string ⟨#[]⟩, .int .i64 0, .int .i64 0, .int .i64 0]
/-- The result's own block, not yet written. -/
def Rc (N : Nat) (W : World) : Prop := W.heap[N]? = some (.cells zcells 53 (0, 0))
theorem Rc.keep {N b : Nat} {W W' : World} (h : Rc N W) (hk : Lib.OthersKept 5 (some b) W W') (hn : N ≠ b) : Rc N W' := by
  unfold Rc at h ⊢
  exact hk N _ h (fun e => hn (Option.some.inj e)) (fun c fz e => by cases e)
theorem Rc.low {N B : Nat} {W W' : World} (h : Rc N W) (hb : Below B W W') (hn : N < B) : Rc N W' := by
  unfold Rc at h ⊢
  rw [hb.block N hn]
  exact h
theorem Rc.cells {N : Nat} {W : World} (h : Rc N W) : W.cell? ⟨N, 0, none⟩ = some (.int .i64 0) ∧ W.cell? ⟨N, 1, none⟩ = some (.string ⟨#[]⟩) ∧ W.cell? ⟨N, 2, none⟩ = some (.int .i64 0) ∧ W.cell? ⟨N, 3, none⟩ = some (.int .i64 0) ∧ W.cell? ⟨N, 4, none⟩ = some (.int .i64 0) := by
  unfold Rc at h
  refine ⟨?_, ?_, ?_, ?_, ?_⟩ <;> (unfold World.cell?; rw [h]; rfl)
theorem Rc.lt {N : Nat} {W : World} (h : Rc N W) : N < W.heap.size := by
  apply Classical.byContradiction
  intro n
  unfold Rc at h
  rw [Array.getElem?_eq_none (by omega)] at h
  cases h
theorem Rc.facts {N : Nat} {W : World} (h : Rc N W) : (W.cell? ⟨N, 0, none⟩ = some (.int .i64 0) ∧ W.cell? ⟨N, 1, none⟩ = some (.string ⟨#[]⟩) ∧ W.cell? ⟨N, 2, none⟩ = some (.int .i64 0) ∧ W.cell? ⟨N, 3, none⟩ = some (.int .i64 0) ∧ W.cell? ⟨N, 4, none⟩ = some (.int .i64 0)) ∧
    W.frozen? ⟨N, 0, none⟩ = false ∧ W.frozen? ⟨N, 1, none⟩ = false ∧ W.frozen? ⟨N, 2, none⟩ = false ∧ W.frozen? ⟨N, 3, none⟩ = false ∧ W.frozen? ⟨N, 4, none⟩ = false := by
  refine ⟨h.cells, ?_⟩
  unfold Rc at h
  refine ⟨?_, ?_, ?_, ?_, ?_⟩ <;> (unfold World.frozen?; rw [h]; rfl)
theorem below_row {B : Nat} {a w : World} (h : Below B a w) (g : Nat) (cs : Array Value) (hb : B ≤ g) : Below B a (w.setRow g cs) := by
  refine ⟨h.os, h.tape, h.output, ?_, fun k hk => ?_⟩
  · rw [setRow_size]; exact h.size
  · show (w.heap.modify g _)[k]? = _
    rw [Array.getElem?_modify, if_neg (by omega)]
    exact h.block k hk
theorem loadTok (W : World) (N : Nat) (a b c d e : Value) (h : W.heap[N]? = some (.cells #[a, b, c, d, e] 53 (0, 0))) : (loadVar 53 ⟨N, 0, none⟩).run Tryz.prog W = .ok (.agg #[a, b, c, d, e]) W := by
  have h0 : W.cell? ⟨N, 0, none⟩ = some a := by unfold World.cell?; rw [h]; rfl
  have h1 : W.cell? ⟨N, 1, none⟩ = some b := by unfold World.cell?; rw [h]; rfl
  have h2 : W.cell? ⟨N, 2, none⟩ = some c := by unfold World.cell?; rw [h]; rfl
  have h3 : W.cell? ⟨N, 3, none⟩ = some d := by unfold World.cell?; rw [h]; rfl
  have h4 : W.cell? ⟨N, 4, none⟩ = some e := by unfold World.cell?; rw [h]; rfl
  go_simp
theorem res_tok {fn : Func} {p u : Tmp} (hr : fn.results = #[.cell p 53, .tmp u]) (tmps : Array Value) (W : World) (N : Nat) (a b c d e : Value) (hp : tmps.getD p undef = .pointer (some ⟨N, 0, none⟩)) (h : W.heap[N]? = some (.cells #[a, b, c, d, e] 53 (0, 0))) :
    (results fn tmps).run Tryz.prog W = .ok (.tuple #[.agg #[a, b, c, d, e], tmps.getD u undef]) W := by
  rw [results_cell_tmp hr, hp]
  have := loadTok W N a b c d e h
  simp [asAddr, this, Result.andThen]
theorem below_undrew {B n : Nat} {w w' : World} (h : Below B (w.drewN n) w') : Below B w w' := ⟨h.os, h.tape, h.output, h.size, h.block⟩
theorem below_set {B : Nat} {a w : World} (h : Below B a w) (b o : Nat) (v : Value) (hb : B ≤ b) : Below B a (w.setCell ⟨b, o, none⟩ v) := by
  rw [Go.Sort.setCell_eq]
  refine ⟨h.os, h.tape, h.output, ?_, fun k hk => ?_⟩
  · show a.heap.size ≤ (w.heap.modify b _).size
    rw [Array.size_modify]
    exact h.size
  · show (w.heap.modify b _)[k]? = _
    rw [Array.getElem?_modify, if_neg (by omega)]
    exact h.block k hk
/-- A token is written into a block. -/
def put5 (W : World) (N : Nat) (a b c d e : Value) : World := ((((W.setCell ⟨N, 0, none⟩ a).setCell ⟨N, 1, none⟩ b).setCell ⟨N, 2, none⟩ c).setCell ⟨N, 3, none⟩ d).setCell ⟨N, 4, none⟩ e
theorem below_put5 {B : Nat} {a w : World} (h : Below B a w) (N : Nat) (x0 x1 x2 x3 x4 : Value) (hb : B ≤ N) : Below B a (put5 w N x0 x1 x2 x3 x4) :=
  below_set (below_set (below_set (below_set (below_set h N 0 _ hb) N 1 _ hb) N 2 _ hb) N 3 _ hb) N 4 _ hb
theorem block_set (W : World) (b o : Nat) (v : Value) (k : Nat) (h : k ≠ b) : (W.setCell ⟨b, o, none⟩ v).heap[k]? = W.heap[k]? := by
  rw [Go.Sort.setCell_eq]
  show (W.heap.modify b _)[k]? = _
  rw [Array.getElem?_modify, if_neg (fun e => h e.symm)]
theorem block_put5 (W : World) (N : Nat) (x0 x1 x2 x3 x4 : Value) (k : Nat) (h : k ≠ N) : (put5 W N x0 x1 x2 x3 x4).heap[k]? = W.heap[k]? := by
  unfold put5
  rw [block_set _ _ _ _ _ h, block_set _ _ _ _ _ h, block_set _ _ _ _ _ h, block_set _ _ _ _ _ h, block_set _ _ _ _ _ h]
theorem Flt.put5 {W : World} {M c a : Nat} (h : Flt W M c a) (N : Nat) (x0 x1 x2 x3 x4 : Value) (hn : M ≠ N) : Flt (put5 W N x0 x1 x2 x3 x4) M c a := by
  unfold Flt at h ⊢
  rw [block_put5 _ _ _ _ _ _ _ _ hn]
  exact h
set_option maxHeartbeats 8000000 in
theorem readtext_any (s : ByteArray) (f : Nat) (w : World) (hs : s.size ≤ 4096) (hf : f < s.size) :
    Calls Tryz.prog 84 #[.string s, .int .i64 (f : Int)] w fun e w' => Rd ((txS s f (f + 1) []).rr f) w e w' := by
  have FA := hid (fun (c : Nat) (a : Nat) (W : World) => fault_any c a W)
  go_enter Tryz.func84, Tryz.ntmps84
  go_wp2_with fail
  have RC0 := hid (show Rc w.heap.size (w.alloc (.cells zcells 53)) from heap_alloc_new w _)
  have BL0 := hid (belowA w (.cells zcells 53))
  have hZ0 : (w.alloc (.cells zcells 53)).heap.size = w.heap.size + 1 := by simp
  unfold zcells at RC0 BL0 hZ0
  generalize w.alloc (.cells #[.int .i64 0, .string ⟨#[]⟩, .int .i64 0, .int .i64 0, .int .i64 0] 53) = W at *
  have RC1 := hid (Rc.low RC0.out (belowA W (.cells #[.pointer none, .slice none 0 0] 86)) (by omega))
  have BD1 := hid (bld_new W)
  have BL1 := hid (BL0.out.trans ((belowA W (.cells #[.pointer none, .slice none 0 0] 86)).mono (by omega)))
  have hZ1 : w.heap.size + 1 < (W.alloc (.cells #[.pointer none, .slice none 0 0] 86)).heap.size := by simp; omega
  rw [hZ0] at BD1
  generalize W.alloc (.cells #[.pointer none, .slice none 0 0] 86) = W0 at *
  clear RC0 BL0 hZ0
  have hN : w.heap.size ≠ w.heap.size + 1 := by omega
  go_loopw [7] (fun i wr => ∃ (k : Nat) (l : List UInt8), k ≤ s.size ∧ i = .int .i64 k ∧ Hid (Below w.heap.size w wr) ∧ w.heap.size + 1 < wr.heap.size ∧ Hid (Bld (w.heap.size + 1) (w.heap.size + 1) l wr) ∧ Hid (Rc w.heap.size wr) ∧ l.length ≤ k ∧ Hid (txS s f (f + 1) [] = txS s f k l)) (fun i _ => s.size - (intOf i).toNat)
  case atStart => exact ⟨f + 1, [], by omega, by go_num, BL1, hZ1, BD1, RC1, by simp, hid rfl⟩
  case round =>
    obtain ⟨k, l, hk, rfl, HB, hZ, BD, RC, hl, HT⟩ := hrel
    by_cases hlt : k < s.size
    · have hc := iv_get s k hlt
      obtain ⟨x, hx⟩ : ∃ x, iv (bt s k) = x := ⟨_, rfl⟩
      have HX := hid hx
      rw [hx] at hc
      clear hx
      by_cases c34 : x = 34
      · have h2 := txS_q s f k l hlt (iv_eq (n := 34) HX.out c34 (by decide))
        have HL := hid (blen_any _ _ l wr BD.out)
        by_cases c127 : 127 < l.length
        all_goals have c127' := c127
        all_goals rw [← Int.ofNat_lt] at c127'
        · rw [if_pos c127] at h2
          subst c34
          have HT := hid (HT.out.trans h2)
          have HF := hid (FA.out 115 f wr)
          clear h2
          go_wp2_with (first | (go_at_call 96; refine HL.out.mono ?_; rintro e w1 ⟨rfl, hww⟩; have hw2 := hww.symm; clear hww; subst hw2) | (go_at_call 66; refine HF.out.mono ?_; rintro e w1 ⟨he, f1, l1⟩; unfold fv at he; subst he; have F1 := hid f1; have L1 := hid l1; clear f1 l1; have R1 := hid (Rc.low RC.out L1.out (by omega)); have ⟨⟨q0, q1, q2, q3, q4⟩, f0, f1, f2, f3, f4⟩ := Rc.facts R1.out))
          (try simp only [Exit.inBlock, Exit.then])
          refine bodyPost_ret (v := .tuple #[tv tok0, fv wr.heap.size]) ?_ rfl (by rw [HT.out]; exact ⟨_, rfl, F1.out.put5 _ _ _ _ _ _ (by first | omega | (simp; omega)), by first | omega | (simp; omega), below_put5 (HB.out.trans (L1.out.mono HB.out.size)) _ _ _ _ _ _ (Nat.le_refl _)⟩)
          rw [results_cell_tmp rfl]
          go_simp
          first | rfl | exact ⟨rfl, rfl⟩
        · rw [if_neg c127] at h2
          have HT := hid (HT.out.trans h2)
          have HS := hid (bstr_any _ _ l wr BD.out (by omega))
          clear h2
          subst c34
          go_wp2_with (first | (go_at_call 96; refine HL.out.mono ?_; rintro e w1 ⟨rfl, hww⟩; have hw2 := hww.symm; clear hww; subst hw2) | (go_at_call 33; refine HS.out.mono ?_; rintro e w1 ⟨rfl, l1⟩; have L1 := hid l1; clear l1; have R1 := hid (Rc.low RC.out L1.out (by omega)); have ⟨⟨q0, q1, q2, q3, q4⟩, f0, f1, f2, f3, f4⟩ := Rc.facts R1.out))
          (try simp only [Exit.inBlock, Exit.then])
          refine bodyPost_ret (v := .tuple #[tv ⟨1, ⟨l.toArray⟩, 0, f, k + 1⟩, .nilIface]) ?_ rfl (by rw [HT.out]; exact ⟨rfl, below_put5 (HB.out.trans (L1.out.mono (by omega))) _ _ _ _ _ _ (Nat.le_refl _)⟩)
          rw [results_cell_tmp rfl]
          go_simp
          first | rfl | exact ⟨rfl, rfl⟩
      · have n34 := iv_ne (n := 34) HX.out c34 (by decide)
        by_cases c92 : x = 92
        · have i92 := iv_eq (n := 92) HX.out c92 (by decide)
          have HE := hid (rescape_any wr (s.extract k s.size) (by have := ext_size s k; unfold maxLen; omega))
          rw [esc3_from] at HE
          by_cases e0 : (esc3 s k).2 = 0
          · have h2 := txS_e0 s f k l hlt i92 e0
            rw [e0] at HE
            generalize (esc3 s k).1 = y at *
            clear n34 i92 e0 c34
            subst c92
            have HT := hid (HT.out.trans h2)
            have HF := hid (fun n => FA.out 113 k (wr.drewN n))
            clear h2
            go_wp2_with (first | (go_at_call 97; refine HE.out.mono ?_; rintro e w1 ⟨rfl, n1, hww⟩; have hw2 := hww.symm; clear hww; subst hw2) | (go_at_call 66; refine (HF.out _).mono ?_; rintro e w1 ⟨he, f1, l1⟩; unfold fv at he; subst he; have F1 := hid (show Flt w1 wr.heap.size 113 k from f1); have L1 := hid (show Below wr.heap.size wr w1 from below_undrew l1); clear f1 l1; have R1 := hid (Rc.low RC.out L1.out (by omega)); have ⟨⟨q0, q1, q2, q3, q4⟩, f0, f1, f2, f3, f4⟩ := Rc.facts R1.out))
            (try simp only [Exit.inBlock, Exit.then])
            refine bodyPost_ret (v := .tuple #[tv tok0, fv wr.heap.size]) ?_ rfl (by rw [HT.out]; exact ⟨_, rfl, F1.out.put5 _ _ _ _ _ _ (by first | omega | (simp; omega)), by first | omega | (simp; omega), below_put5 (HB.out.trans (L1.out.mono HB.out.size)) _ _ _ _ _ _ (Nat.le_refl _)⟩)
            rw [results_cell_tmp rfl]
            go_simp
            first | rfl | exact ⟨rfl, rfl⟩
          · have h2 := txS_e s f k l hlt i92 e0
            have he := esc_in e0
            have HT := hid (HT.out.trans h2)
            have HW := hid (fun n => wbyte_any _ _ l (esc3 s k).1 (wr.drewN n) (bld_drew BD.out n) (by omega) (show w.heap.size + 1 ≤ wr.heap.size by omega))
            generalize (esc3 s k).1 = y at *
            obtain ⟨m, hm⟩ : ∃ m, (esc3 s k).2 = m := ⟨_, rfl⟩
            rw [hm] at HE HT he e0
            have e0' : ¬ (m : Int) = 0 := by omega
            have e0'' : ((m : Int) == 0) = false := by simpa using e0
            clear n34 i92 c34 h2 hm
            subst c92
            go_wp2_with (first | (go_at_call 97; refine HE.out.mono ?_; rintro e w1 ⟨rfl, n1, hww⟩; have hw2 := hww.symm; clear hww; subst hw2) | (go_at_call 31; refine (HW.out _).mono ?_; rintro e w2 ⟨rfl, b2, l2, o2⟩; have B2 := hid b2; have L2 := hid l2; have R2 := hid (Rc.keep (W := wr) RC.out o2 (by omega)); clear b2 l2 o2))
            exact ⟨⟨k + m, l ++ [y], by omega, by go_num, hid (HB.out.trans ((below_undrew L2.out).mono (by omega))), Nat.lt_of_lt_of_le hZ L2.out.size, B2, R2, by simp; omega, HT⟩, by simp [intOf]; omega⟩
        · have n92 := iv_ne (n := 92) HX.out c92 (by decide)
          by_cases c32 : x < 32
          · have h2 := txS_low s f k l hlt n34 n92 (by rw [HX.out]; exact c32)
            have c34' : (x == 34) = false := by simpa using c34
            have c92' : (x == 92) = false := by simpa using c92
            clear n34 n92
            have HT := hid (HT.out.trans h2)
            have HF := hid (FA.out 111 k wr)
            clear h2
            go_wp2_with (go_at_call 66; refine HF.out.mono ?_; rintro e w1 ⟨he, f1, l1⟩; unfold fv at he; subst he; have F1 := hid f1; have L1 := hid l1; clear f1 l1; have R1 := hid (Rc.low RC.out L1.out (by omega)); have ⟨⟨q0, q1, q2, q3, q4⟩, f0, f1, f2, f3, f4⟩ := Rc.facts R1.out)
            (try simp only [Exit.inBlock, Exit.then])
            refine bodyPost_ret (v := .tuple #[tv tok0, fv wr.heap.size]) ?_ rfl (by rw [HT.out]; exact ⟨_, rfl, F1.out.put5 _ _ _ _ _ _ (by first | omega | (simp; omega)), by first | omega | (simp; omega), below_put5 (HB.out.trans (L1.out.mono HB.out.size)) _ _ _ _ _ _ (Nat.le_refl _)⟩)
            rw [results_cell_tmp rfl]
            go_simp
            first | rfl | exact ⟨rfl, rfl⟩
          · have h2 := txS_go s f k l hlt n34 n92 (by rw [HX.out]; exact c32)
            have HT := hid (HT.out.trans h2)
            have HW := hid (wbyte_any _ _ l (bt s k) wr BD.out (by omega) (by omega))
            rw [HX.out] at HW
            generalize bt s k = y at *
            have c34' : (x == 34) = false := by simpa using c34
            have c92' : (x == 92) = false := by simpa using c92
            clear n34 n92 h2
            go_wp2_with (go_at_call 31; refine HW.out.mono ?_; rintro e w2 ⟨rfl, b2, l2, o2⟩; have B2 := hid b2; have L2 := hid l2; have R2 := hid (Rc.keep (W := wr) RC.out o2 (by omega)); clear b2 l2 o2)
            exact ⟨⟨k + 1, l ++ [y], by omega, by go_num, hid (HB.out.trans (L2.out.mono (by omega))), Nat.lt_of_lt_of_le hZ L2.out.size, B2, R2, by simp; omega, HT⟩, by simp [intOf]; omega⟩
    · have h2 := txS_end s f k l hlt
      have HT := hid (HT.out.trans h2)
      have HF := hid (FA.out 112 f wr)
      clear h2
      go_wp2_with (go_at_call 66; refine HF.out.mono ?_; rintro e w1 ⟨he, f1, l1⟩; unfold fv at he; subst he; have F1 := hid f1; have L1 := hid l1; clear f1 l1; have R1 := hid (Rc.low RC.out L1.out (by omega)); have ⟨⟨q0, q1, q2, q3, q4⟩, f0, f1, f2, f3, f4⟩ := Rc.facts R1.out)
      (try simp only [Exit.inBlock, Exit.then])
      refine bodyPost_ret (v := .tuple #[tv tok0, fv wr.heap.size]) ?_ rfl (by rw [HT.out]; exact ⟨_, rfl, F1.out.put5 _ _ _ _ _ _ (by first | omega | (simp; omega)), by first | omega | (simp; omega), below_put5 (HB.out.trans (L1.out.mono HB.out.size)) _ _ _ _ _ _ (Nat.le_refl _)⟩)
      rw [results_cell_tmp rfl]
      go_simp
      first | rfl | exact ⟨rfl, rfl⟩
end Go.Proofs.YtcldglilhhhdoaaGreatDoor.L
namespace Go.Proofs.YtcldglilhhhdoaaGreatDoor.L
open Go.RowKit Go.Shelf
set_option linter.unusedVariables false
/-- A row of bytes of one's own. -/
abbrev OwnB (w : World) (base : Nat) (v : Value) (l : List UInt8) : Prop := w.ownsRow base 5 1 v l.length (Lib.byteCells l)
theorem byteCells_eq (l : List UInt8) : Lib.byteCells l = l.map (fun b => Value.int .u8 (iv b)) := rfl
theorem ownb_form {w : World} {base : Nat} {v : Value} {l : List UInt8} (h : OwnB w base v l) : ∃ a cap, v = .slice a l.length cap := by
  rcases h.2 with ⟨e, n0⟩ | ⟨g, cap, cur, e, _⟩
  · exact ⟨none, 0, by rw [e, n0]⟩
  · exact ⟨_, _, e⟩
theorem ownb_block {w : World} {base : Nat} {v : Value} {l : List UInt8} (h : OwnB w base v l) : ∀ k, v.ownBlock = some k → base ≤ k := by
  intro k e
  rcases h.2 with ⟨e', _⟩ | ⟨g, cap, cur, e', hb, _⟩
  · rw [e'] at e; cases e
  · rw [e'] at e; cases e; exact hb
theorem conv_own {w : World} {base : Nat} {v : Value} {l : List UInt8} (h : OwnB w base v l) : (convert 84 9 v).run Tryz.prog w = .ok (.string ⟨l.toArray⟩) w := by
  rcases h.2 with ⟨rfl, n0⟩ | ⟨g, cap, cur, rfl, hb, hg, h1, h2, h3, h4⟩
  · have : l = [] := List.eq_nil_of_length_eq_zero n0
    subst this
    exact run_convert_bytes_nil (P := Tryz.prog) w 84 5 Tryz.underlying84 Tryz.underlying5 0 0 9 Tryz.underlying9
  · refine run_convert_bytes_back (P := Tryz.prog) w 84 9 5 ⟨g, 0, none⟩ cap l Tryz.underlying84 Tryz.underlying5 Tryz.underlying9 ?_
    intro j hj
    have hlen : (Lib.byteCells l)[j]? = some (.int .u8 (l[j].toNat : Int)) := by
      rw [byteCells_eq, List.getElem?_map, List.getElem?_eq_getElem hj]
      rfl
    rw [← h4, List.getElem?_take_of_lt (by omega)] at hlen
    rw [Go.WideShapes.add_plain, cell_of_row w g (0 + j) _ _ _ hg]
    simpa using hlen
theorem ownb_new (w : World) : OwnB (w.alloc (.cells #[] 5)) w.heap.size (.slice (some ⟨w.heap.size, 0, none⟩) 0 0) [] := World.ownsRow_made w #[] 0 (Nat.le_refl _) (Nat.zero_le _) rfl
theorem cell_one_new (w : World) (a : Value) (t : TypeId) : ∀ (j : Nat) (u : Value), [a][j]? = some u → (w.alloc (.cells #[a] t)).cell? ((⟨w.heap.size, 0, none⟩ : Addr).add j) = some u := by
  intro j u h
  rw [Go.WideShapes.add_plain]
  rw [cell_of_row (w.alloc (.cells #[a] t)) w.heap.size (0 + j) _ _ _ (heap_alloc_new w _)]
  simpa using h
theorem results_tmp4 {fn : Func} {t u v x : Tmp} (h : fn.results = #[.tmp t, .tmp u, .tmp v, .tmp x]) (tmps : Array Value) (P : Program) (w : World) :
    (results fn tmps).run P w = .ok (.tuple #[tmps.getD t undef, tmps.getD u undef, tmps.getD v undef, tmps.getD x undef]) w := by
  simp [results, h]
theorem infoB : (Tryz.prog.info? 5).map (fun i => (i.zero, i.size, i.bytes)) = some (some (.int .u8 0), 1, 1) := by kernel_rfl
def digB (x : Int) : Bool := decide (48 ≤ x ∧ x ≤ 57)
theorem rdig_any (x : Int) (w : World) : Calls Tryz.prog 77 #[.int .u8 x] w fun e w' => e = .returned (.bool (digB x)) ∧ w' = w := by
  unfold digB
  by_cases a : 48 ≤ x
  · by_cases b : x ≤ 57
    · go_enter Tryz.func77, Tryz.ntmps77
      go_wp2
      go_ret
      exact ⟨ret_bool (by simp [a, b]), rfl⟩
    · go_enter Tryz.func77, Tryz.ntmps77
      go_wp2
      go_ret
      exact ⟨ret_bool (by simp; omega), rfl⟩
  · go_enter Tryz.func77, Tryz.ntmps77
    go_wp2
    go_ret
    exact ⟨ret_bool (by simp; omega), rfl⟩
set_option maxHeartbeats 1000000 in
theorem rbyte_any (s : ByteArray) (k : Nat) (w : World) : Calls Tryz.prog 78 #[.string s, .int .i64 (k : Int)] w fun e w' => e = .returned (.int .u8 (iv (bt s k))) ∧ w' = w := by
  have h0 : ¬ ((k : Int) < 0) := by omega
  by_cases h : k < s.size
  · have hc := iv_get s k h
    have h1 : ¬ ((s.size : Int) ≤ k) := by omega
    generalize iv (bt s k) = x at *
    go_enter Tryz.func78, Tryz.ntmps78
    go_wp2
    go_ret
    exact ⟨rfl, rfl⟩
  · have h1 : ((s.size : Int) ≤ k) := by omega
    rw [bt_out s k (by omega)]
    go_enter Tryz.func78, Tryz.ntmps78
    go_wp2
    go_ret
    exact ⟨rfl, rfl⟩
set_option maxHeartbeats 1000000 in
theorem rhex_any (x : Int) (w : World) (hx : 0 ≤ x ∧ x < 256) : Calls Tryz.prog 107 #[.int .u8 x] w fun e w' => e = .returned (.int .i64 (hexv x)) ∧ w' = w := by
  have HD := hid (fun W => rdig_any x W)
  obtain ⟨r, hr⟩ : ∃ r, hexv x = r := ⟨_, rfl⟩
  rw [hr]
  unfold digB at HD
  unfold hexv at hr
  by_cases a : 48 ≤ x ∧ x ≤ 57
  · rw [if_pos a] at hr
    rw [decide_eq_true a] at HD
    obtain ⟨a1, a2⟩ := a
    subst hr
    go_enter Tryz.func107, Tryz.ntmps107
    go_wp2_with (go_at_call 77; refine (HD.out _).mono ?_; rintro e w1 ⟨rfl, hww⟩; subst hww)
    go_ret
    exact ⟨by go_num, rfl⟩
  · rw [if_neg a] at hr
    rw [decide_eq_false a] at HD
    by_cases b : 97 ≤ x
    · by_cases b2 : x ≤ 102
      · rw [if_pos ⟨b, b2⟩] at hr
        subst hr
        go_enter Tryz.func107, Tryz.ntmps107
        go_wp2_with (go_at_call 77; refine (HD.out _).mono ?_; rintro e w1 ⟨rfl, hww⟩; subst hww)
        go_ret
        exact ⟨by go_num, rfl⟩
      · have c : 65 ≤ x := by omega
        have c2 : ¬ x ≤ 70 := by omega
        rw [if_neg (by omega), if_neg (by omega)] at hr
        subst hr
        go_enter Tryz.func107, Tryz.ntmps107
        go_wp2_with (go_at_call 77; refine (HD.out _).mono ?_; rintro e w1 ⟨rfl, hww⟩; subst hww)
        go_ret
        exact ⟨rfl, rfl⟩
    · rw [if_neg (by omega)] at hr
      by_cases c : 65 ≤ x
      · by_cases c2 : x ≤ 70
        · rw [if_pos ⟨c, c2⟩] at hr
          subst hr
          go_enter Tryz.func107, Tryz.ntmps107
          go_wp2_with (go_at_call 77; refine (HD.out _).mono ?_; rintro e w1 ⟨rfl, hww⟩; subst hww)
          go_ret
          exact ⟨by go_num, rfl⟩
        · rw [if_neg (by omega)] at hr
          subst hr
          go_enter Tryz.func107, Tryz.ntmps107
          go_wp2_with (go_at_call 77; refine (HD.out _).mono ?_; rintro e w1 ⟨rfl, hww⟩; subst hww)
          go_ret
          exact ⟨rfl, rfl⟩
      · rw [if_neg (by omega)] at hr
        subst hr
        go_enter Tryz.func107, Tryz.ntmps107
        go_wp2_with (go_at_call 77; refine (HD.out _).mono ?_; rintro e w1 ⟨rfl, hww⟩; subst hww)
        go_ret
        exact ⟨rfl, rfl⟩
end Go.Proofs.YtcldglilhhhdoaaGreatDoor.L
namespace Go.Proofs.YtcldglilhhhdoaaGreatDoor.L
open Go.RowKit Go.Shelf
set_option linter.unusedVariables false
theorem iv_inj {a b : UInt8} (h : iv a = iv b) : a = b := by
  apply UInt8.toNat_inj.1
  unfold iv at h
  omega
theorem ne_iv {a : UInt8} {n : UInt8} (h : a ≠ n) : (iv a == iv n) = false := by
  simp
  intro e
  exact h (iv_inj e)
set_option maxHeartbeats 4000000 in
theorem rescp_fix (s : ByteArray) (k : Nat) (w : World) (hk : k ≤ 9007199254740992) (a v : UInt8) (ha : bt s (k + 1) = a) (h : (a = 34 ∧ v = 34) ∨ (a = 92 ∧ v = 92) ∨ (a = 110 ∧ v = 10) ∨ (a = 116 ∧ v = 9) ∨ (a = 114 ∧ v = 13)) :
    Calls Tryz.prog 95 #[.string s, .int .i64 (k : Int)] w fun e w' => e = .returned (.tuple #[.int .u8 (iv v), .int .i64 2]) ∧ w' = w := by
  have HB := hid (fun W => rbyte_any s (k + 1) W)
  rw [ha] at HB
  rcases h with ⟨rfl, rfl⟩ | ⟨rfl, rfl⟩ | ⟨rfl, rfl⟩ | ⟨rfl, rfl⟩ | ⟨rfl, rfl⟩ <;>
  · go_enter Tryz.func95, Tryz.ntmps95
    go_wp2_with (go_at_call 78; refine (HB.out _).mono ?_; rintro e w1 ⟨rfl, hww⟩; subst hww)
    go_ret2
    exact ⟨rfl, rfl⟩
set_option maxHeartbeats 4000000 in
theorem rescp_not (s : ByteArray) (k : Nat) (w : World) (hk : k ≤ 9007199254740992) (h1 : bt s (k + 1) ≠ 34) (h2 : bt s (k + 1) ≠ 92) (h3 : bt s (k + 1) ≠ 110) (h4 : bt s (k + 1) ≠ 116) (h5 : bt s (k + 1) ≠ 114) (h6 : bt s (k + 1) ≠ 120) :
    Calls Tryz.prog 95 #[.string s, .int .i64 (k : Int)] w fun e w' => e = .returned (.tuple #[.int .u8 0, .int .i64 0]) ∧ w' = w := by
  have HB := hid (fun W => rbyte_any s (k + 1) W)
  have g1 := ne_iv h1
  have g2 := ne_iv h2
  have g3 := ne_iv h3
  have g4 := ne_iv h4
  have g5 := ne_iv h5
  have g6 := ne_iv h6
  clear h1 h2 h3 h4 h5 h6
  generalize iv (bt s (k + 1)) = x at *
  rw [show iv 34 = 34 from rfl] at g1
  rw [show iv 92 = 92 from rfl] at g2
  rw [show iv 110 = 110 from rfl] at g3
  rw [show iv 116 = 116 from rfl] at g4
  rw [show iv 114 = 114 from rfl] at g5
  rw [show iv 120 = 120 from rfl] at g6
  go_enter Tryz.func95, Tryz.ntmps95
  go_wp2_with (go_at_call 78; refine (HB.out _).mono ?_; rintro e w1 ⟨rfl, hww⟩; subst hww)
  go_ret2
  exact ⟨rfl, rfl⟩
set_option maxHeartbeats 8000000 in
theorem rescp_hex (s : ByteArray) (k : Nat) (w : World) (hk : k ≤ 9007199254740992) (h : bt s (k + 1) = 120) :
    Calls Tryz.prog 95 #[.string s, .int .i64 (k : Int)] w fun e w' => e = .returned (.tuple #[.int .u8 (iv (esc3 s k).1), .int .i64 (esc3 s k).2]) ∧ w' = w := by
  have HB := hid (fun W => rbyte_any s (k + 1) W)
  have HB2 := hid (fun W => rbyte_any s (k + 2) W)
  have HB3 := hid (fun W => rbyte_any s (k + 3) W)
  rw [h, show iv 120 = 120 from rfl, show ((k + 1 : Nat) : Int) = (k : Int) + 1 by omega] at HB
  rw [show ((k + 2 : Nat) : Int) = (k : Int) + 2 by omega] at HB2
  rw [show ((k + 3 : Nat) : Int) = (k : Int) + 3 by omega] at HB3
  have HY := hid (fun W => rhex_any (iv (bt s (k + 2))) W (iv_lt _))
  have HZ := hid (fun W => rhex_any (iv (bt s (k + 3))) W (iv_lt _))
  have ry := hex_range (bt s (k + 2))
  have rz := hex_range (bt s (k + 3))
  have HE := hid (show esc3 s k = if 0 ≤ hexv (iv (bt s (k + 2))) ∧ 0 ≤ hexv (iv (bt s (k + 3))) then (UInt8.ofNat (16 * hexv (iv (bt s (k + 2))) + hexv (iv (bt s (k + 3)))).toNat, 4) else (0, 0) by
    unfold esc3 escV
    rw [h]
    simp)
  generalize esc3 s k = E at *
  generalize iv (bt s (k + 2)) = y at *
  generalize iv (bt s (k + 3)) = z at *
  generalize hexv y = p at *
  generalize hexv z = q at *
  clear h
  by_cases c : 0 ≤ p ∧ 0 ≤ q
  · rw [Hid, if_pos c] at HE
    obtain ⟨c1, c2⟩ := c
    have HE := hid HE
    have hp : p ≤ 15 := by omega
    have hq : q ≤ 15 := by omega
    clear ry rz
    go_enter Tryz.func95, Tryz.ntmps95
    go_wp2_with (first | (go_at_call 78; (first | (with_reducible refine (HB.out _).mono ?_) | (with_reducible refine (HB2.out _).mono ?_) | (with_reducible refine (HB3.out _).mono ?_)); rintro e w1 ⟨rfl, hww⟩; subst hww) | (go_at_call 107; (first | (with_reducible refine (HY.out _).mono ?_) | (with_reducible refine (HZ.out _).mono ?_)); rintro e w1 ⟨rfl, hww⟩; subst hww))
    go_ret2
    refine ⟨?_, rfl⟩
    rw [HE.out]
    have e1 : (16 * p + q) = iv (UInt8.ofNat (16 * p + q).toNat) := by
      unfold iv
      simp
      omega
    show Ending.returned (.tuple #[.int .u8 (16 * p + q), .int .i64 4]) = _
    rw [show Value.int .u8 (16 * p + q) = Value.int .u8 (iv (UInt8.ofNat (16 * p + q).toNat)) from congrArg _ e1]
    rfl
  · rw [Hid, if_neg c] at HE
    subst HE
    by_cases cp : p = -1
    · subst cp
      clear c ry
      go_enter Tryz.func95, Tryz.ntmps95
      go_wp2_with (first | (go_at_call 78; (first | (with_reducible refine (HB.out _).mono ?_) | (with_reducible refine (HB2.out _).mono ?_) | (with_reducible refine (HB3.out _).mono ?_)); rintro e w1 ⟨rfl, hww⟩; subst hww) | (go_at_call 107; (first | (with_reducible refine (HY.out _).mono ?_) | (with_reducible refine (HZ.out _).mono ?_)); rintro e w1 ⟨rfl, hww⟩; subst hww))
      go_ret2
      exact ⟨rfl, rfl⟩
    · have cq : q = -1 := by omega
      have cp' : 0 ≤ p := by omega
      subst cq
      clear c rz
      go_enter Tryz.func95, Tryz.ntmps95
      go_wp2_with (first | (go_at_call 78; (first | (with_reducible refine (HB.out _).mono ?_) | (with_reducible refine (HB2.out _).mono ?_) | (with_reducible refine (HB3.out _).mono ?_)); rintro e w1 ⟨rfl, hww⟩; subst hww) | (go_at_call 107; (first | (with_reducible refine (HY.out _).mono ?_) | (with_reducible refine (HZ.out _).mono ?_)); rintro e w1 ⟨rfl, hww⟩; subst hww))
      go_ret2
      exact ⟨rfl, rfl⟩
theorem rescp_any (s : ByteArray) (k : Nat) (w : World) (hk : k ≤ 9007199254740992) :
    Calls Tryz.prog 95 #[.string s, .int .i64 (k : Int)] w fun e w' => e = .returned (.tuple #[.int .u8 (iv (esc3 s k).1), .int .i64 (esc3 s k).2]) ∧ w' = w := by
  by_cases c1 : bt s (k + 1) = 34
  · rw [show esc3 s k = (34, 2) by unfold esc3; rw [c1]; simp [escV]]
    exact rescp_fix s k w hk 34 34 c1 (by simp)
  by_cases c2 : bt s (k + 1) = 92
  · rw [show esc3 s k = (92, 2) by unfold esc3; rw [c2]; simp [escV]]
    exact rescp_fix s k w hk 92 92 c2 (by simp)
  by_cases c3 : bt s (k + 1) = 110
  · rw [show esc3 s k = (10, 2) by unfold esc3; rw [c3]; simp [escV]]
    exact rescp_fix s k w hk 110 10 c3 (by simp)
  by_cases c4 : bt s (k + 1) = 116
  · rw [show esc3 s k = (9, 2) by unfold esc3; rw [c4]; simp [escV]]
    exact rescp_fix s k w hk 116 9 c4 (by simp)
  by_cases c5 : bt s (k + 1) = 114
  · rw [show esc3 s k = (13, 2) by unfold esc3; rw [c5]; simp [escV]]
    exact rescp_fix s k w hk 114 13 c5 (by simp)
  by_cases c6 : bt s (k + 1) = 120
  · exact rescp_hex s k w hk c6
  · rw [show esc3 s k = (0, 0) by simp [esc3, escV, c1, c2, c3, c4, c5, c6]]
    exact rescp_not s k w hk c1 c2 c3 c4 c5 c6
end Go.Proofs.YtcldglilhhhdoaaGreatDoor.L
