import Derived.Test.YtlhlpamciafocaaGreatDoorMgAB
import Derived.Sort.Row
namespace Go.Proofs.YtlhlpamciafocaaGreatDoor.L
open Go.RowKit Go.Shelf
set_option linter.unusedVariables false
/-- A token. -/
structure Tok where
  kind : Nat
  text : ByteArray
  num : Int
  a : Nat
  e : Nat
def tv (t : Tok) : Value := .agg #[.int .i64 t.kind, .string t.text, .int .i64 t.num, .int .i64 t.a, .int .i64 t.e]
def tok0 : Tok := ⟨0, ⟨#[]⟩, 0, 0, 0⟩
/-- What reading a token comes to. -/
inductive RR where
  | ok (t : Tok)
  | bad (c a : Nat)
def TR.rr (f : Nat) : TR → RR
  | .ok l e => .ok ⟨1, ⟨l.toArray⟩, 0, f, e⟩
  | .bad c a => .bad c a
/-- What the program answers of it. -/
def Rd (r : RR) (w : World) (e : Ending) (w' : World) : Prop :=
  match r with
  | .ok t => e = .returned (.tuple #[tv t, .nilIface]) ∧ Below w.heap.size w w'
  | .bad c a => ∃ N, e = .returned (.tuple #[tv tok0, fv N]) ∧ Flt w' N c a ∧ w.heap.size ≤ N ∧ Below w.heap.size w w'
theorem bt_from (s : ByteArray) (k j : Nat) : bt (s.extract k s.size) j = bt s (k + j) := by
  unfold bt
  rw [List.getD_eq_getElem?_getD, List.getD_eq_getElem?_getD]
  simp [ByteArray.data_extract]
  rw [List.take_of_length_le (by simp), List.getElem?_drop]
  simp
theorem esc3_from (s : ByteArray) (k : Nat) : escV (bt (s.extract k s.size) 1) (bt (s.extract k s.size) 2) (bt (s.extract k s.size) 3) = esc3 s k := by
  unfold esc3
  rw [bt_from, bt_from, bt_from]
theorem ext_size (s : ByteArray) (k : Nat) : (s.extract k s.size).size ≤ s.size := by simp
theorem iv_eq {c : UInt8} {x : Int} {n : Nat} (h : iv c = x) (hx : x = n) (hn : n < 256) : c = UInt8.ofNat n := u8_iv (h.trans hx) hn
theorem iv_ne {c : UInt8} {x : Int} {n : Nat} (h : iv c = x) (hx : ¬ x = (n : Int)) (hn : n < 256) : c ≠ UInt8.ofNat n := by
  intro e
  apply hx
  rw [← h, e]
  unfold iv
  simp
  omega
def zcells : Array Value := #[.int .i64 0, .string ⟨#[]⟩, .int .i64 0, .int .i64 0, .int .i64 0]
/-- The result's own block, not yet written. -/
def Rc (N : Nat) (W : World) : Prop := W.heap[N]? = some (.cells zcells 80 (0, 0))
theorem Rc.keep {N b : Nat} {W W' : World} (h : Rc N W) (hk : Lib.OthersKept 5 (some b) W W') (hn : N ≠ b) : Rc N W' := by
  unfold Rc at h ⊢
  exact hk N _ h (fun e => hn (Option.some.inj e)) (fun c fz e => by cases e)
theorem Rc.low {N B : Nat} {W W' : World} (h : Rc N W) (hb : Below B W W') (hn : N < B) : Rc N W' := by
  unfold Rc at h ⊢
  rw [hb.block N hn]
  exact h
theorem Rc.cells {N : Nat} {W : World} (h : Rc N W) : W.cell? ⟨N, 0, none⟩ = some (.int .i64 0) ∧ W.cell? ⟨N, 1, none⟩ = some (.string ⟨#[]⟩) ∧ W.cell? ⟨N, 2, none⟩ = some (.int .i64 0) ∧ W.cell? ⟨N, 3, none⟩ = some (.int .i64 0) ∧ W.cell? ⟨N, 4, none⟩ = some (.int .i64 0) := by
  unfold Rc at h
  refine ⟨?_, ?_, ?_, ?_, ?_⟩ <;> (unfold World.cell?; rw [h]; rfl)
theorem Rc.lt {N : Nat} {W : World} (h : Rc N W) : N < W.heap.size := by
  apply Classical.byContradiction
  intro n
  unfold Rc at h
  rw [Array.getElem?_eq_none (by omega)] at h
  cases h
theorem Rc.facts {N : Nat} {W : World} (h : Rc N W) : (W.cell? ⟨N, 0, none⟩ = some (.int .i64 0) ∧ W.cell? ⟨N, 1, none⟩ = some (.string ⟨#[]⟩) ∧ W.cell? ⟨N, 2, none⟩ = some (.int .i64 0) ∧ W.cell? ⟨N, 3, none⟩ = some (.int .i64 0) ∧ W.cell? ⟨N, 4, none⟩ = some (.int .i64 0)) ∧
    W.frozen? ⟨N, 0, none⟩ = false ∧ W.frozen? ⟨N, 1, none⟩ = false ∧ W.frozen? ⟨N, 2, none⟩ = false ∧ W.frozen? ⟨N, 3, none⟩ = false ∧ W.frozen? ⟨N, 4, none⟩ = false := by
  refine ⟨h.cells, ?_⟩
  unfold Rc at h
  refine ⟨?_, ?_, ?_, ?_, ?_⟩ <;> (unfold World.frozen?; rw [h]; rfl)
theorem below_row {B : Nat} {a w : World} (h : Below B a w) (g : Nat) (cs : Array Value) (hb : B ≤ g) : Below B a (w.setRow g cs) := by
  refine ⟨h.os, h.tape, h.output, ?_, fun k hk => ?_⟩
  · rw [setRow_size]; exact h.size
  · show (w.heap.modify g _)[k]? = _
    rw [Array.getElem?_modify, if_neg (by omega)]
    exact h.block k hk
theorem below_undrew {B n : Nat} {w w' : World} (h : Below B (w.drewN n) w') : Below B w w' := ⟨h.os, h.tape, h.output, h.size, h.block⟩
theorem below_set {B : Nat} {a w : World} (h : Below B a w) (b o : Nat) (v : Value) (hb : B ≤ b) : Below B a (w.setCell ⟨b, o, none⟩ v) := by
  rw [Go.Sort.setCell_eq]
  refine ⟨h.os, h.tape, h.output, ?_, fun k hk => ?_⟩
  · show a.heap.size ≤ (w.heap.modify b _).size
    rw [Array.size_modify]
    exact h.size
  · show (w.heap.modify b _)[k]? = _
    rw [Array.getElem?_modify, if_neg (by omega)]
    exact h.block k hk
/-- A token is written into a block. -/
def put5 (W : World) (N : Nat) (a b c d e : Value) : World := ((((W.setCell ⟨N, 0, none⟩ a).setCell ⟨N, 1, none⟩ b).setCell ⟨N, 2, none⟩ c).setCell ⟨N, 3, none⟩ d).setCell ⟨N, 4, none⟩ e
theorem below_put5 {B : Nat} {a w : World} (h : Below B a w) (N : Nat) (x0 x1 x2 x3 x4 : Value) (hb : B ≤ N) : Below B a (put5 w N x0 x1 x2 x3 x4) :=
  below_set (below_set (below_set (below_set (below_set h N 0 _ hb) N 1 _ hb) N 2 _ hb) N 3 _ hb) N 4 _ hb
theorem block_set (W : World) (b o : Nat) (v : Value) (k : Nat) (h : k ≠ b) : (W.setCell ⟨b, o, none⟩ v).heap[k]? = W.heap[k]? := by
  rw [Go.Sort.setCell_eq]
  show (W.heap.modify b _)[k]? = _
  rw [Array.getElem?_modify, if_neg (fun e => h e.symm)]
theorem block_put5 (W : World) (N : Nat) (x0 x1 x2 x3 x4 : Value) (k : Nat) (h : k ≠ N) : (put5 W N x0 x1 x2 x3 x4).heap[k]? = W.heap[k]? := by
  unfold put5
  rw [block_set _ _ _ _ _ h, block_set _ _ _ _ _ h, block_set _ _ _ _ _ h, block_set _ _ _ _ _ h, block_set _ _ _ _ _ h]
theorem Flt.put5 {W : World} {M c a : Nat} (h : Flt W M c a) (N : Nat) (x0 x1 x2 x3 x4 : Value) (hn : M ≠ N) : Flt (put5 W N x0 x1 x2 x3 x4) M c a := by
  unfold Flt at h ⊢
  rw [block_put5 _ _ _ _ _ _ _ _ hn]
  exact h
set_option maxHeartbeats 8000000 in
theorem readtext_any (s : ByteArray) (f : Nat) (w : World) (hs : s.size ≤ 4096) (hf : f < s.size) :
    Calls Tryz.prog 79 #[.string s, .int .i64 (f : Int)] w fun e w' => Rd ((txS s f (f + 1) []).rr f) w e w' := by
  have FA := hid (fun (c : Nat) (a : Nat) (W : World) => fault_any c a W)
  go_enter Tryz.func79, Tryz.ntmps79
  go_wp2_with fail
  have RC0 := hid (show Rc w.heap.size (w.alloc (.cells zcells 80)) from heap_alloc_new w _)
  have BL0 := hid (belowA w (.cells zcells 80))
  have hZ0 : (w.alloc (.cells zcells 80)).heap.size = w.heap.size + 1 := by simp
  unfold zcells at RC0 BL0 hZ0
  generalize w.alloc (.cells #[.int .i64 0, .string ⟨#[]⟩, .int .i64 0, .int .i64 0, .int .i64 0] 80) = W at *
  have RC1 := hid (Rc.low RC0.out (belowA W (.cells #[.pointer none, .slice none 0 0] 113)) (by omega))
  have BD1 := hid (bld_new W)
  have BL1 := hid (BL0.out.trans ((belowA W (.cells #[.pointer none, .slice none 0 0] 113)).mono (by omega)))
  have hZ1 : w.heap.size + 1 < (W.alloc (.cells #[.pointer none, .slice none 0 0] 113)).heap.size := by simp; omega
  rw [hZ0] at BD1
  generalize W.alloc (.cells #[.pointer none, .slice none 0 0] 113) = W0 at *
  clear RC0 BL0 hZ0
  have hN : w.heap.size ≠ w.heap.size + 1 := by omega
  go_loopw [7] (fun i wr => ∃ (k : Nat) (l : List UInt8), k ≤ s.size ∧ i = .int .i64 k ∧ Hid (Below w.heap.size w wr) ∧ w.heap.size + 1 < wr.heap.size ∧ Hid (Bld (w.heap.size + 1) (w.heap.size + 1) l wr) ∧ Hid (Rc w.heap.size wr) ∧ l.length ≤ k ∧ Hid (txS s f (f + 1) [] = txS s f k l)) (fun i _ => s.size - (intOf i).toNat)
  case atStart => exact ⟨f + 1, [], by omega, by go_num, BL1, hZ1, BD1, RC1, by simp, hid rfl⟩
  case round =>
    obtain ⟨k, l, hk, rfl, HB, hZ, BD, RC, hl, HT⟩ := hrel
    by_cases hlt : k < s.size
    · have hc := iv_get s k hlt
      obtain ⟨x, hx⟩ : ∃ x, iv (bt s k) = x := ⟨_, rfl⟩
      have HX := hid hx
      rw [hx] at hc
      clear hx
      by_cases c34 : x = 34
      · have h2 := txS_q s f k l hlt (iv_eq (n := 34) HX.out c34 (by decide))
        have HL := hid (blen_any _ _ l wr BD.out)
        by_cases c127 : 127 < l.length
        all_goals have c127' := c127
        all_goals rw [← Int.ofNat_lt] at c127'
        · rw [if_pos c127] at h2
          subst c34
          have HT := hid (HT.out.trans h2)
          have HF := hid (FA.out 115 f wr)
          clear h2
          go_wp2_with (first | (go_at_call 93; refine HL.out.mono ?_; rintro e w1 ⟨rfl, hww⟩; have hw2 := hww.symm; clear hww; subst hw2) | (go_at_call 67; refine HF.out.mono ?_; rintro e w1 ⟨he, f1, l1⟩; unfold fv at he; subst he; have F1 := hid f1; have L1 := hid l1; clear f1 l1; have R1 := hid (Rc.low RC.out L1.out (by omega)); have ⟨⟨q0, q1, q2, q3, q4⟩, f0, f1, f2, f3, f4⟩ := Rc.facts R1.out))
          (try simp only [Exit.inBlock, Exit.then])
          refine bodyPost_ret (v := .tuple #[tv tok0, fv wr.heap.size]) ?_ rfl (by rw [HT.out]; exact ⟨_, rfl, F1.out.put5 _ _ _ _ _ _ (by first | omega | (simp; omega)), by first | omega | (simp; omega), below_put5 (HB.out.trans (L1.out.mono HB.out.size)) _ _ _ _ _ _ (Nat.le_refl _)⟩)
          rw [results_cell_tmp rfl]
          go_simp
          first | rfl | exact ⟨rfl, rfl⟩
        · rw [if_neg c127] at h2
          have HT := hid (HT.out.trans h2)
          have HS := hid (bstr_any _ _ l wr BD.out (by omega))
          clear h2
          subst c34
          go_wp2_with (first | (go_at_call 93; refine HL.out.mono ?_; rintro e w1 ⟨rfl, hww⟩; have hw2 := hww.symm; clear hww; subst hw2) | (go_at_call 61; refine HS.out.mono ?_; rintro e w1 ⟨rfl, l1⟩; have L1 := hid l1; clear l1; have R1 := hid (Rc.low RC.out L1.out (by omega)); have ⟨⟨q0, q1, q2, q3, q4⟩, f0, f1, f2, f3, f4⟩ := Rc.facts R1.out))
          (try simp only [Exit.inBlock, Exit.then])
          refine bodyPost_ret (v := .tuple #[tv ⟨1, ⟨l.toArray⟩, 0, f, k + 1⟩, .nilIface]) ?_ rfl (by rw [HT.out]; exact ⟨rfl, below_put5 (HB.out.trans (L1.out.mono (by omega))) _ _ _ _ _ _ (Nat.le_refl _)⟩)
          rw [results_cell_tmp rfl]
          go_simp
          first | rfl | exact ⟨rfl, rfl⟩
      · have n34 := iv_ne (n := 34) HX.out c34 (by decide)
        by_cases c92 : x = 92
        · have i92 := iv_eq (n := 92) HX.out c92 (by decide)
          have HE := hid (rescape_any wr (s.extract k s.size) (by have := ext_size s k; unfold maxLen; omega))
          rw [esc3_from] at HE
          by_cases e0 : (esc3 s k).2 = 0
          · have h2 := txS_e0 s f k l hlt i92 e0
            rw [e0] at HE
            generalize (esc3 s k).1 = y at *
            clear n34 i92 e0 c34
            subst c92
            have HT := hid (HT.out.trans h2)
            have HF := hid (fun n => FA.out 113 k (wr.drewN n))
            clear h2
            go_wp2_with (first | (go_at_call 94; refine HE.out.mono ?_; rintro e w1 ⟨rfl, n1, hww⟩; have hw2 := hww.symm; clear hww; subst hw2) | (go_at_call 67; refine (HF.out _).mono ?_; rintro e w1 ⟨he, f1, l1⟩; unfold fv at he; subst he; have F1 := hid (show Flt w1 wr.heap.size 113 k from f1); have L1 := hid (show Below wr.heap.size wr w1 from below_undrew l1); clear f1 l1; have R1 := hid (Rc.low RC.out L1.out (by omega)); have ⟨⟨q0, q1, q2, q3, q4⟩, f0, f1, f2, f3, f4⟩ := Rc.facts R1.out))
            (try simp only [Exit.inBlock, Exit.then])
            refine bodyPost_ret (v := .tuple #[tv tok0, fv wr.heap.size]) ?_ rfl (by rw [HT.out]; exact ⟨_, rfl, F1.out.put5 _ _ _ _ _ _ (by first | omega | (simp; omega)), by first | omega | (simp; omega), below_put5 (HB.out.trans (L1.out.mono HB.out.size)) _ _ _ _ _ _ (Nat.le_refl _)⟩)
            rw [results_cell_tmp rfl]
            go_simp
            first | rfl | exact ⟨rfl, rfl⟩
          · have h2 := txS_e s f k l hlt i92 e0
            have he := esc_in e0
            have HT := hid (HT.out.trans h2)
            have HW := hid (fun n => wbyte_any _ _ l (esc3 s k).1 (wr.drewN n) (bld_drew BD.out n) (by omega) (show w.heap.size + 1 ≤ wr.heap.size by omega))
            generalize (esc3 s k).1 = y at *
            obtain ⟨m, hm⟩ : ∃ m, (esc3 s k).2 = m := ⟨_, rfl⟩
            rw [hm] at HE HT he e0
            have e0' : ¬ (m : Int) = 0 := by omega
            have e0'' : ((m : Int) == 0) = false := by simpa using e0
            clear n34 i92 c34 h2 hm
            subst c92
            go_wp2_with (first | (go_at_call 94; refine HE.out.mono ?_; rintro e w1 ⟨rfl, n1, hww⟩; have hw2 := hww.symm; clear hww; subst hw2) | (go_at_call 62; refine (HW.out _).mono ?_; rintro e w2 ⟨rfl, b2, l2, o2⟩; have B2 := hid b2; have L2 := hid l2; have R2 := hid (Rc.keep (W := wr) RC.out o2 (by omega)); clear b2 l2 o2))
            exact ⟨⟨k + m, l ++ [y], by omega, by go_num, hid (HB.out.trans ((below_undrew L2.out).mono (by omega))), Nat.lt_of_lt_of_le hZ L2.out.size, B2, R2, by simp; omega, HT⟩, by simp [intOf]; omega⟩
        · have n92 := iv_ne (n := 92) HX.out c92 (by decide)
          by_cases c32 : x < 32
          · have h2 := txS_low s f k l hlt n34 n92 (by rw [HX.out]; exact c32)
            have c34' : (x == 34) = false := by simpa using c34
            have c92' : (x == 92) = false := by simpa using c92
            clear n34 n92
            have HT := hid (HT.out.trans h2)
            have HF := hid (FA.out 111 k wr)
            clear h2
            go_wp2_with (go_at_call 67; refine HF.out.mono ?_; rintro e w1 ⟨he, f1, l1⟩; unfold fv at he; subst he; have F1 := hid f1; have L1 := hid l1; clear f1 l1; have R1 := hid (Rc.low RC.out L1.out (by omega)); have ⟨⟨q0, q1, q2, q3, q4⟩, f0, f1, f2, f3, f4⟩ := Rc.facts R1.out)
            (try simp only [Exit.inBlock, Exit.then])
            refine bodyPost_ret (v := .tuple #[tv tok0, fv wr.heap.size]) ?_ rfl (by rw [HT.out]; exact ⟨_, rfl, F1.out.put5 _ _ _ _ _ _ (by first | omega | (simp; omega)), by first | omega | (simp; omega), below_put5 (HB.out.trans (L1.out.mono HB.out.size)) _ _ _ _ _ _ (Nat.le_refl _)⟩)
            rw [results_cell_tmp rfl]
            go_simp
            first | rfl | exact ⟨rfl, rfl⟩
          · have h2 := txS_go s f k l hlt n34 n92 (by rw [HX.out]; exact c32)
            have HT := hid (HT.out.trans h2)
            have HW := hid (wbyte_any _ _ l (bt s k) wr BD.out (by omega) (by omega))
            rw [HX.out] at HW
            generalize bt s k = y at *
            have c34' : (x == 34) = false := by simpa using c34
            have c92' : (x == 92) = false := by simpa using c92
            clear n34 n92 h2
            go_wp2_with (go_at_call 62; refine HW.out.mono ?_; rintro e w2 ⟨rfl, b2, l2, o2⟩; have B2 := hid b2; have L2 := hid l2; have R2 := hid (Rc.keep (W := wr) RC.out o2 (by omega)); clear b2 l2 o2)
            exact ⟨⟨k + 1, l ++ [y], by omega, by go_num, hid (HB.out.trans (L2.out.mono (by omega))), Nat.lt_of_lt_of_le hZ L2.out.size, B2, R2, by simp; omega, HT⟩, by simp [intOf]; omega⟩
    · have h2 := txS_end s f k l hlt
      have HT := hid (HT.out.trans h2)
      have HF := hid (FA.out 112 f wr)
      clear h2
      go_wp2_with (go_at_call 67; refine HF.out.mono ?_; rintro e w1 ⟨he, f1, l1⟩; unfold fv at he; subst he; have F1 := hid f1; have L1 := hid l1; clear f1 l1; have R1 := hid (Rc.low RC.out L1.out (by omega)); have ⟨⟨q0, q1, q2, q3, q4⟩, f0, f1, f2, f3, f4⟩ := Rc.facts R1.out)
      (try simp only [Exit.inBlock, Exit.then])
      refine bodyPost_ret (v := .tuple #[tv tok0, fv wr.heap.size]) ?_ rfl (by rw [HT.out]; exact ⟨_, rfl, F1.out.put5 _ _ _ _ _ _ (by first | omega | (simp; omega)), by first | omega | (simp; omega), below_put5 (HB.out.trans (L1.out.mono HB.out.size)) _ _ _ _ _ _ (Nat.le_refl _)⟩)
      rw [results_cell_tmp rfl]
      go_simp
      first | rfl | exact ⟨rfl, rfl⟩
end Go.Proofs.YtlhlpamciafocaaGreatDoor.L
