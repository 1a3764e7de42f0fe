import Derived.Test.YtcldglilhhhdoaaGreatDoorMgAB
import Derived.Laws.IdiomStrings
import Derived.Laws.BytesArg
import Derived.WideShapes
namespace Go.Proofs.YtcldglilhhhdoaaGreatDoor.L
open Go.RowKit Go.Shelf
set_option linter.unusedVariables false
/-- A row of bytes of one's own. -/
abbrev OwnB (w : World) (base : Nat) (v : Value) (l : List UInt8) : Prop := w.ownsRow base 5 1 v l.length (Lib.byteCells l)
theorem byteCells_eq (l : List UInt8) : Lib.byteCells l = l.map (fun b => Value.int .u8 (iv b)) := rfl
theorem ownb_form {w : World} {base : Nat} {v : Value} {l : List UInt8} (h : OwnB w base v l) : ∃ a cap, v = .slice a l.length cap := by
 rcases h.2 with ⟨e, n0⟩ | ⟨g, cap, cur, e, _⟩
 ·exact ⟨none, 0, by rw [e, n0]⟩
 ·exact ⟨_, _, e⟩
theorem ownb_block {w : World} {base : Nat} {v : Value} {l : List UInt8} (h : OwnB w base v l) : ∀ k, v.ownBlock = some k → base ≤ k := by
 intro k e
 rcases h.2 with ⟨e', _⟩ | ⟨g, cap, cur, e', hb, _⟩
 ·rw [e'] at e; cases e
 ·rw [e'] at e; cases e; exact hb
theorem conv_own {w : World} {base : Nat} {v : Value} {l : List UInt8} (h : OwnB w base v l) : (convert 84 9 v).run Tryz.prog w = .ok (.string ⟨l.toArray⟩) w := by
 rcases h.2 with ⟨rfl, n0⟩ | ⟨g, cap, cur, rfl, hb, hg, h1, h2, h3, h4⟩
 ·have : l = [] := List.eq_nil_of_length_eq_zero n0
  subst this
  exact run_convert_bytes_nil (P := Tryz.prog) w 84 5 Tryz.underlying84 Tryz.underlying5 0 0 9 Tryz.underlying9
 ·refine run_convert_bytes_back (P := Tryz.prog) w 84 9 5 ⟨g, 0, none⟩ cap l Tryz.underlying84 Tryz.underlying5 Tryz.underlying9 ?_
  intro j hj
  have hlen : (Lib.byteCells l)[j]? = some (.int .u8 (l[j].toNat : Int)) := by
   rw [byteCells_eq, List.getElem?_map, List.getElem?_eq_getElem hj]
   rfl
  rw [← h4, List.getElem?_take_of_lt (by omega)] at hlen
  rw [Go.WideShapes.add_plain, cell_of_row w g (0 + j) _ _ _ hg]
  simpa using hlen
theorem ownb_new (w : World) : OwnB (w.alloc (.cells #[] 5)) w.heap.size (.slice (some ⟨w.heap.size, 0, none⟩) 0 0) [] := World.ownsRow_made w #[] 0 (Nat.le_refl _) (Nat.zero_le _) rfl
theorem cell_one_new (w : World) (a : Value) (t : TypeId) : ∀ (j : Nat) (u : Value), [a][j]? = some u → (w.alloc (.cells #[a] t)).cell? ((⟨w.heap.size, 0, none⟩ : Addr).add j) = some u := by
 intro j u h
 rw [Go.WideShapes.add_plain]
 rw [cell_of_row (w.alloc (.cells #[a] t)) w.heap.size (0 + j) _ _ _ (heap_alloc_new w _)]
 simpa using h
theorem results_tmp4 {fn : Func} {t u v x : Tmp} (h : fn.results = #[.tmp t, .tmp u, .tmp v, .tmp x]) (tmps : Array Value) (P : Program) (w : World) :
  (results fn tmps).run P w = .ok (.tuple #[tmps.getD t undef, tmps.getD u undef, tmps.getD v undef, tmps.getD x undef]) w := by
 simp [results, h]
theorem infoB : (Tryz.prog.info? 5).map (fun i => (i.zero, i.size, i.bytes)) = some (some (.int .u8 0), 1, 1) := by kernel_rfl
def digB (x : Int) : Bool := decide (48 ≤ x ∧ x ≤ 57)
theorem rdig_any (x : Int) (w : World) : Calls Tryz.prog 77 #[.int .u8 x] w fun e w' => e = .returned (.bool (digB x)) ∧ w' = w := by
 unfold digB
 by_cases a : 48 ≤ x
 ·by_cases b : x ≤ 57
  ·go_enter Tryz.func77, Tryz.ntmps77
   go_wp2
   go_ret
   exact ⟨ret_bool (by simp [a, b]), rfl⟩
  ·go_enter Tryz.func77, Tryz.ntmps77
   go_wp2
   go_ret
   exact ⟨ret_bool (by simp; omega), rfl⟩
 ·go_enter Tryz.func77, Tryz.ntmps77
  go_wp2
  go_ret
  exact ⟨ret_bool (by simp; omega), rfl⟩
set_option maxHeartbeats 1000000 in
theorem rbyte_any (s : ByteArray) (k : Nat) (w : World) : Calls Tryz.prog 78 #[.string s, .int .i64 (k : Int)] w fun e w' => e = .returned (.int .u8 (iv (bt s k))) ∧ w' = w := by
 have h0 : ¬ ((k : Int) < 0) := by omega
 by_cases h : k < s.size
 ·have hc := iv_get s k h
  have h1 : ¬ ((s.size : Int) ≤ k) := by omega
  generalize iv (bt s k) = x at *
  go_enter Tryz.func78, Tryz.ntmps78
  go_wp2
  go_ret
  exact ⟨rfl, rfl⟩
 ·have h1 : ((s.size : Int) ≤ k) := by omega
  rw [bt_out s k (by omega)]
  go_enter Tryz.func78, Tryz.ntmps78
  go_wp2
  go_ret
  exact ⟨rfl, rfl⟩
set_option maxHeartbeats 1000000 in
theorem rhex_any (x : Int) (w : World) (hx : 0 ≤ x ∧ x < 256) : Calls Tryz.prog 107 #[.int .u8 x] w fun e w' => e = .returned (.int .i64 (hexv x)) ∧ w' = w := by
 have HD := hid (fun W => rdig_any x W)
 obtain ⟨r, hr⟩ : ∃ r, hexv x = r := ⟨_, rfl⟩
 rw [hr]
 unfold digB at HD
 unfold hexv at hr
 by_cases a : 48 ≤ x ∧ x ≤ 57
 ·rw [if_pos a] at hr
  rw [decide_eq_true a] at HD
  obtain ⟨a1, a2⟩ := a
  subst hr
  go_enter Tryz.func107, Tryz.ntmps107
  go_wp2_with (go_at_call 77; refine (HD.out _).mono ?_; rintro e w1 ⟨rfl, hww⟩; subst hww)
  go_ret
  exact ⟨by go_num, rfl⟩
 ·rw [if_neg a] at hr
  rw [decide_eq_false a] at HD
  by_cases b : 97 ≤ x
  ·by_cases b2 : x ≤ 102
   ·rw [if_pos ⟨b, b2⟩] at hr
    subst hr
    go_enter Tryz.func107, Tryz.ntmps107
    go_wp2_with (go_at_call 77; refine (HD.out _).mono ?_; rintro e w1 ⟨rfl, hww⟩; subst hww)
    go_ret
    exact ⟨by go_num, rfl⟩
   ·have c : 65 ≤ x := by omega
    have c2 : ¬ x ≤ 70 := by omega
    rw [if_neg (by omega), if_neg (by omega)] at hr
    subst hr
    go_enter Tryz.func107, Tryz.ntmps107
    go_wp2_with (go_at_call 77; refine (HD.out _).mono ?_; rintro e w1 ⟨rfl, hww⟩; subst hww)
    go_ret
    exact ⟨rfl, rfl⟩
  ·rw [if_neg (by omega)] at hr
   by_cases c : 65 ≤ x
   ·by_cases c2 : x ≤ 70
    ·rw [if_pos ⟨c, c2⟩] at hr
     subst hr
     go_enter Tryz.func107, Tryz.ntmps107
     go_wp2_with (go_at_call 77; refine (HD.out _).mono ?_; rintro e w1 ⟨rfl, hww⟩; subst hww)
     go_ret
     exact ⟨by go_num, rfl⟩
    ·rw [if_neg (by omega)] at hr
     subst hr
     go_enter Tryz.func107, Tryz.ntmps107
     go_wp2_with (go_at_call 77; refine (HD.out _).mono ?_; rintro e w1 ⟨rfl, hww⟩; subst hww)
     go_ret
     exact ⟨rfl, rfl⟩
   ·rw [if_neg (by omega)] at hr
    subst hr
    go_enter Tryz.func107, Tryz.ntmps107
    go_wp2_with (go_at_call 77; refine (HD.out _).mono ?_; rintro e w1 ⟨rfl, hww⟩; subst hww)
    go_ret
    exact ⟨rfl, rfl⟩
end Go.Proofs.YtcldglilhhhdoaaGreatDoor.L
namespace Go.Proofs.YtcldglilhhhdoaaGreatDoor.L
open Go.RowKit Go.Shelf
set_option linter.unusedVariables false
theorem iv_inj {a b : UInt8} (h : iv a = iv b) : a = b := by
 apply UInt8.toNat_inj.1
 unfold iv at h
 omega
theorem ne_iv {a : UInt8} {n : UInt8} (h : a ≠ n) : (iv a == iv n) = false := by
 simp
 intro e
 exact h (iv_inj e)
set_option maxHeartbeats 4000000 in
theorem rescp_fix (s : ByteArray) (k : Nat) (w : World) (hk : k ≤ 9007199254740992) (a v : UInt8) (ha : bt s (k + 1) = a) (h : (a = 34 ∧ v = 34) ∨ (a = 92 ∧ v = 92) ∨ (a = 110 ∧ v = 10) ∨ (a = 116 ∧ v = 9) ∨ (a = 114 ∧ v = 13)) :
  Calls Tryz.prog 95 #[.string s, .int .i64 (k : Int)] w fun e w' => e = .returned (.tuple #[.int .u8 (iv v), .int .i64 2]) ∧ w' = w := by
 have HB := hid (fun W => rbyte_any s (k + 1) W)
 rw [ha] at HB
 rcases h with ⟨rfl, rfl⟩ | ⟨rfl, rfl⟩ | ⟨rfl, rfl⟩ | ⟨rfl, rfl⟩ | ⟨rfl, rfl⟩ <;>
 ·go_enter Tryz.func95, Tryz.ntmps95
  go_wp2_with (go_at_call 78; refine (HB.out _).mono ?_; rintro e w1 ⟨rfl, hww⟩; subst hww)
  go_ret2
  exact ⟨rfl, rfl⟩
set_option maxHeartbeats 4000000 in
theorem rescp_not (s : ByteArray) (k : Nat) (w : World) (hk : k ≤ 9007199254740992) (h1 : bt s (k + 1) ≠ 34) (h2 : bt s (k + 1) ≠ 92) (h3 : bt s (k + 1) ≠ 110) (h4 : bt s (k + 1) ≠ 116) (h5 : bt s (k + 1) ≠ 114) (h6 : bt s (k + 1) ≠ 120) :
  Calls Tryz.prog 95 #[.string s, .int .i64 (k : Int)] w fun e w' => e = .returned (.tuple #[.int .u8 0, .int .i64 0]) ∧ w' = w := by
 have HB := hid (fun W => rbyte_any s (k + 1) W)
 have g1 := ne_iv h1
 have g2 := ne_iv h2
 have g3 := ne_iv h3
 have g4 := ne_iv h4
 have g5 := ne_iv h5
 have g6 := ne_iv h6
 clear h1 h2 h3 h4 h5 h6
 generalize iv (bt s (k + 1)) = x at *
 rw [show iv 34 = 34 from rfl] at g1
 rw [show iv 92 = 92 from rfl] at g2
 rw [show iv 110 = 110 from rfl] at g3
 rw [show iv 116 = 116 from rfl] at g4
 rw [show iv 114 = 114 from rfl] at g5
 rw [show iv 120 = 120 from rfl] at g6
 go_enter Tryz.func95, Tryz.ntmps95
 go_wp2_with (go_at_call 78; refine (HB.out _).mono ?_; rintro e w1 ⟨rfl, hww⟩; subst hww)
 go_ret2
 exact ⟨rfl, rfl⟩
set_option maxHeartbeats 8000000 in
theorem rescp_hex (s : ByteArray) (k : Nat) (w : World) (hk : k ≤ 9007199254740992) (h : bt s (k + 1) = 120) :
  Calls Tryz.prog 95 #[.string s, .int .i64 (k : Int)] w fun e w' => e = .returned (.tuple #[.int .u8 (iv (esc3 s k).1), .int .i64 (esc3 s k).2]) ∧ w' = w := by
 have HB := hid (fun W => rbyte_any s (k + 1) W)
 have HB2 := hid (fun W => rbyte_any s (k + 2) W)
 have HB3 := hid (fun W => rbyte_any s (k + 3) W)
 rw [h, show iv 120 = 120 from rfl, show ((k + 1 : Nat) : Int) = (k : Int) + 1 by omega] at HB
 rw [show ((k + 2 : Nat) : Int) = (k : Int) + 2 by omega] at HB2
 rw [show ((k + 3 : Nat) : Int) = (k : Int) + 3 by omega] at HB3
 have HY := hid (fun W => rhex_any (iv (bt s (k + 2))) W (iv_lt _))
 have HZ := hid (fun W => rhex_any (iv (bt s (k + 3))) W (iv_lt _))
 have ry := hex_range (bt s (k + 2))
 have rz := hex_range (bt s (k + 3))
 have HE := hid (show esc3 s k = if 0 ≤ hexv (iv (bt s (k + 2))) ∧ 0 ≤ hexv (iv (bt s (k + 3))) then (UInt8.ofNat (16 * hexv (iv (bt s (k + 2))) + hexv (iv (bt s (k + 3)))).toNat, 4) else (0, 0) by
  unfold esc3 escV
  rw [h]
  simp)
 generalize esc3 s k = E at *
 generalize iv (bt s (k + 2)) = y at *
 generalize iv (bt s (k + 3)) = z at *
 generalize hexv y = p at *
 generalize hexv z = q at *
 clear h
 by_cases c : 0 ≤ p ∧ 0 ≤ q
 ·rw [Hid, if_pos c] at HE
  obtain ⟨c1, c2⟩ := c
  have HE := hid HE
  have hp : p ≤ 15 := by omega
  have hq : q ≤ 15 := by omega
  clear ry rz
  go_enter Tryz.func95, Tryz.ntmps95
  go_wp2_with (first | (go_at_call 78; (first | (with_reducible refine (HB.out _).mono ?_) | (with_reducible refine (HB2.out _).mono ?_) | (with_reducible refine (HB3.out _).mono ?_)); rintro e w1 ⟨rfl, hww⟩; subst hww) | (go_at_call 107; (first | (with_reducible refine (HY.out _).mono ?_) | (with_reducible refine (HZ.out _).mono ?_)); rintro e w1 ⟨rfl, hww⟩; subst hww))
  go_ret2
  refine ⟨?_, rfl⟩
  rw [HE.out]
  have e1 : (16 * p + q) = iv (UInt8.ofNat (16 * p + q).toNat) := by
   unfold iv
   simp
   omega
  show Ending.returned (.tuple #[.int .u8 (16 * p + q), .int .i64 4]) = _
  rw [show Value.int .u8 (16 * p + q) = Value.int .u8 (iv (UInt8.ofNat (16 * p + q).toNat)) from congrArg _ e1]
  rfl
 ·rw [Hid, if_neg c] at HE
  subst HE
  by_cases cp : p = -1
  ·subst cp
   clear c ry
   go_enter Tryz.func95, Tryz.ntmps95
   go_wp2_with (first | (go_at_call 78; (first | (with_reducible refine (HB.out _).mono ?_) | (with_reducible refine (HB2.out _).mono ?_) | (with_reducible refine (HB3.out _).mono ?_)); rintro e w1 ⟨rfl, hww⟩; subst hww) | (go_at_call 107; (first | (with_reducible refine (HY.out _).mono ?_) | (with_reducible refine (HZ.out _).mono ?_)); rintro e w1 ⟨rfl, hww⟩; subst hww))
   go_ret2
   exact ⟨rfl, rfl⟩
  ·have cq : q = -1 := by omega
   have cp' : 0 ≤ p := by omega
   subst cq
   clear c rz
   go_enter Tryz.func95, Tryz.ntmps95
   go_wp2_with (first | (go_at_call 78; (first | (with_reducible refine (HB.out _).mono ?_) | (with_reducible refine (HB2.out _).mono ?_) | (with_reducible refine (HB3.out _).mono ?_)); rintro e w1 ⟨rfl, hww⟩; subst hww) | (go_at_call 107; (first | (with_reducible refine (HY.out _).mono ?_) | (with_reducible refine (HZ.out _).mono ?_)); rintro e w1 ⟨rfl, hww⟩; subst hww))
   go_ret2
   exact ⟨rfl, rfl⟩
theorem rescp_any (s : ByteArray) (k : Nat) (w : World) (hk : k ≤ 9007199254740992) :
  Calls Tryz.prog 95 #[.string s, .int .i64 (k : Int)] w fun e w' => e = .returned (.tuple #[.int .u8 (iv (esc3 s k).1), .int .i64 (esc3 s k).2]) ∧ w' = w := by
 by_cases c1 : bt s (k + 1) = 34
 ·rw [show esc3 s k = (34, 2) by unfold esc3; rw [c1]; simp [escV]]
  exact rescp_fix s k w hk 34 34 c1 (by simp)
 by_cases c2 : bt s (k + 1) = 92
 ·rw [show esc3 s k = (92, 2) by unfold esc3; rw [c2]; simp [escV]]
  exact rescp_fix s k w hk 92 92 c2 (by simp)
 by_cases c3 : bt s (k + 1) = 110
 ·rw [show esc3 s k = (10, 2) by unfold esc3; rw [c3]; simp [escV]]
  exact rescp_fix s k w hk 110 10 c3 (by simp)
 by_cases c4 : bt s (k + 1) = 116
 ·rw [show esc3 s k = (9, 2) by unfold esc3; rw [c4]; simp [escV]]
  exact rescp_fix s k w hk 116 9 c4 (by simp)
 by_cases c5 : bt s (k + 1) = 114
 ·rw [show esc3 s k = (13, 2) by unfold esc3; rw [c5]; simp [escV]]
  exact rescp_fix s k w hk 114 13 c5 (by simp)
 by_cases c6 : bt s (k + 1) = 120
 ·exact rescp_hex s k w hk c6
 ·rw [show esc3 s k = (0, 0) by simp [esc3, escV, c1, c2, c3, c4, c5, c6]]
  exact rescp_not s k w hk c1 c2 c3 c4 c5 c6
end Go.Proofs.YtcldglilhhhdoaaGreatDoor.L
namespace Go.Proofs.YtcldglilhhhdoaaGreatDoor.L
open Go.RowKit Go.Shelf
set_option linter.unusedVariables false
def textV : TR → Value
 | .ok l e => .tuple #[.string ⟨l.toArray⟩, .int .i64 (e : Int), .int .i64 0, .int .i64 0]
 | .bad c a => .tuple #[.string ⟨#[]⟩, .int .i64 0, .int .i64 (c : Int), .int .i64 (a : Int)]
set_option maxHeartbeats 8000000 in
set_option maxRecDepth 100000 in
theorem textat_any (s : ByteArray) (f : Nat) (w : World) (hs : s.size ≤ 4096) (hf : f < s.size) :
  Calls Tryz.prog 76 #[.string s, .int .i64 (f : Int)] w fun e w' => e = .returned (textV (txS s f (f + 1) [])) ∧ Below w.heap.size w w' := by
 obtain ⟨i0, hi, hz0, hz1, hz2⟩ := info_parts infoB
 go_enter Tryz.func76, Tryz.ntmps76
 go_wp2_with fail
 have O0 := hid (ownb_new w)
 have BL0 := hid (belowA w (.cells #[] 5))
 generalize w.alloc (.cells #[] 5) = W0 at *
 go_loopw [8, 9] (fun v i wr => ∃ (k : Nat) (l : List UInt8), k ≤ s.size ∧ i = .int .i64 k ∧ Hid (Below w.heap.size w wr) ∧ Hid (OwnB wr w.heap.size v l) ∧ l.length ≤ k ∧ Hid (txS s f (f + 1) [] = txS s f k l)) (fun _ i _ => s.size - (intOf i).toNat)
 case atStart => exact ⟨f + 1, [], by omega, by go_num, BL0, O0, by simp, hid rfl⟩
 case round =>
  obtain ⟨k, l, hk, rfl, HB, OW, hl, HT⟩ := hrel
  obtain ⟨va, vc, rfl⟩ := ownb_form OW.out
  by_cases hlt : k < s.size
  ·have hc := iv_get s k hlt
   obtain ⟨x, hx⟩ : ∃ x, iv (bt s k) = x := ⟨_, rfl⟩
   have HX := hid hx
   rw [hx] at hc
   clear hx
   by_cases c34 : x = 34
   ·have h2 := txS_q s f k l hlt (iv_eq (n := 34) HX.out c34 (by decide))
    by_cases c127 : 127 < l.length
    all_goals have c127' := c127
    all_goals rw [← Int.ofNat_lt] at c127'
    ·rw [if_pos c127] at h2
     have HT := hid (HT.out.trans h2)
     clear h2
     subst c34
     go_wp2
     (try simp only [Exit.inBlock, Exit.then])
     refine bodyPost_ret (results_tmp4 rfl _ _ _) rfl ⟨?_, HB.out⟩
     rw [HT.out]
     rfl
    ·rw [if_neg c127] at h2
     have HT := hid (HT.out.trans h2)
     have hcv := conv_own OW.out
     clear h2
     subst c34
     go_wp2
     (try simp only [Exit.inBlock, Exit.then])
     refine bodyPost_ret (results_tmp4 rfl _ _ _) rfl ⟨?_, HB.out⟩
     rw [HT.out]
     rfl
   ·have n34 := iv_ne (n := 34) HX.out c34 (by decide)
    have c34' : (x == 34) = false := by simpa using c34
    by_cases c32 : x < 32
    ·have n92 : bt s k ≠ 92 := iv_ne (n := 92) HX.out (by omega) (by decide)
     have h2 := txS_low s f k l hlt n34 n92 (by rw [HX.out]; exact c32)
     have HT := hid (HT.out.trans h2)
     clear h2 n34 n92
     go_wp2
     (try simp only [Exit.inBlock, Exit.then])
     refine bodyPost_ret (results_tmp4 rfl _ _ _) rfl ⟨?_, HB.out⟩
     rw [HT.out]
     rfl
    ·by_cases c92 : x = 92
     ·have i92 := iv_eq (n := 92) HX.out c92 (by decide)
      have HE := hid (rescp_any s k wr (by omega))
      by_cases e0 : (esc3 s k).2 = 0
      ·have h2 := txS_e0 s f k l hlt i92 e0
       have HT := hid (HT.out.trans h2)
       rw [e0] at HE
       generalize (esc3 s k).1 = y at *
       clear n34 i92 e0 c34 h2
       subst c92
       go_wp2_with (go_at_call 95; refine HE.out.mono ?_; rintro e w1 ⟨rfl, hww⟩; have hw2 := hww.symm; clear hww; subst hw2)
       (try simp only [Exit.inBlock, Exit.then])
       refine bodyPost_ret (results_tmp4 rfl _ _ _) rfl ⟨?_, HB.out⟩
       rw [HT.out]
       rfl
      ·have h2 := txS_e s f k l hlt i92 e0
       have he := esc_in e0
       have HT := hid (HT.out.trans h2)
       generalize (esc3 s k).1 = y at *
       obtain ⟨m, hm⟩ : ∃ m, (esc3 s k).2 = m := ⟨_, rfl⟩
       rw [hm] at HE HT he e0
       have e0' : ¬ (m : Int) = 0 := by omega
       have e0'' : ((m : Int) == 0) = false := by simpa using e0
       clear n34 i92 c34 h2 hm
       subst c92
       go_wp2_with (first | (go_at_call 95; refine HE.out.mono ?_; rintro e w1 ⟨rfl, hww⟩; have hw2 := hww.symm; clear hww; subst hw2) | (at_builtin; refine wpList_append_own _ rfl _ _ 84 rfl w.heap.size 5 i0 (.int .u8 0) 1 1 Tryz.underlying84 hi hz0 hz1 hz2 rfl (by decide) _ _ _ rfl (OW.out.alloc _) ⟨wr.heap.size, 0, none⟩ 1 1 [.int .u8 (iv y)] rfl rfl ?c1 ?c2 ?c3 ?c4 ?c5 ?_))
       case c1 => exact cell_one_new _ _ _
       case c2 => intro u hu; simp at hu; subst hu; rfl
       case c3 => unfold maxLen; omega
       case c4 => omega
       case c5 => have := HB.out.size; simp; omega
       intro v' w1 hown' hgrow _
       have hb1 : Below w.heap.size w w1 := (HB.out.alloc HB.out.size _).grown hgrow (by have := HB.out.size; simp; omega) (ownb_block OW.out)
       have O1 := hid (show OwnB w1 w.heap.size v' (l ++ [y]) by unfold OwnB; rw [List.length_append, byteCells_app]; exact hown')
       have B1 := hid hb1
       obtain ⟨va', vc', rfl⟩ := ownb_form O1.out
       clear hown' hgrow hb1 OW HB
       go_wp2_with fail
       exact ⟨⟨k + m, l ++ [y], by omega, by go_num, B1, O1, by simp; omega, HT⟩, by simp [intOf]; omega⟩
     ·have n92 := iv_ne (n := 92) HX.out c92 (by decide)
      have c92' : (x == 92) = false := by simpa using c92
      have h2 := txS_go s f k l hlt n34 n92 (by rw [HX.out]; exact c32)
      have HT := hid (HT.out.trans h2)
      generalize bt s k = y at *
      have hy := HX.out
      subst hy
      clear n34 n92 h2 HX
      go_wp2_with (at_builtin; refine wpList_append_own _ rfl _ _ 84 rfl w.heap.size 5 i0 (.int .u8 0) 1 1 Tryz.underlying84 hi hz0 hz1 hz2 rfl (by decide) _ _ _ rfl (OW.out.alloc _) ⟨wr.heap.size, 0, none⟩ 1 1 [.int .u8 (iv y)] rfl rfl ?c1 ?c2 ?c3 ?c4 ?c5 ?_)
      case c2 => rfl
      case c3 => unfold maxLen; omega
      case c4 => omega
      case c5 => have := HB.out.size; simp; omega
      intro v' w1 hown' hgrow _
      have hb1 : Below w.heap.size w w1 := (HB.out.alloc HB.out.size _).grown hgrow (by have := HB.out.size; simp; omega) (ownb_block OW.out)
      have O1 := hid (show OwnB w1 w.heap.size v' (l ++ [y]) by unfold OwnB; rw [List.length_append, byteCells_app]; exact hown')
      have B1 := hid hb1
      obtain ⟨va', vc', rfl⟩ := ownb_form O1.out
      clear hown' hgrow hb1 OW HB
      go_wp2_with fail
      exact ⟨⟨k + 1, l ++ [y], by omega, by go_num, B1, O1, by simp; omega, HT⟩, by simp [intOf]; omega⟩
  ·have h2 := txS_end s f k l hlt
   have HT := hid (HT.out.trans h2)
   clear h2
   go_wp2
   (try simp only [Exit.inBlock, Exit.then])
   refine bodyPost_ret (results_tmp4 rfl _ _ _) rfl ⟨?_, HB.out⟩
   rw [HT.out]
   rfl
end Go.Proofs.YtcldglilhhhdoaaGreatDoor.L
namespace Go.Proofs.YtcldglilhhhdoaaGreatDoor.L
open Go.RowKit Go.Shelf
set_option linter.unusedVariables false
/-- A letter, a digit or an underline. -/
def inwB (x : Int) : Bool := digB x || decide (97 ≤ x ∧ x ≤ 122) || decide (65 ≤ x ∧ x ≤ 90) || x == 95
def blkB (x : Int) : Bool := x == 32 || x == 9 || x == 10 || x == 13
theorem ldig_any (x : Int) (w : World) : Calls Tryz.prog 85 #[.int .u8 x] w fun e w' => e = .returned (.bool (digB x)) ∧ w' = w := by
 unfold digB
 by_cases a : 48 ≤ x
 ·by_cases b : x ≤ 57
  ·go_enter Tryz.func85, Tryz.ntmps85
   go_wp2
   go_ret
   exact ⟨ret_bool (by simp [a, b]), rfl⟩
  ·go_enter Tryz.func85, Tryz.ntmps85
   go_wp2
   go_ret
   exact ⟨ret_bool (by simp; omega), rfl⟩
 ·go_enter Tryz.func85, Tryz.ntmps85
  go_wp2
  go_ret
  exact ⟨ret_bool (by simp; omega), rfl⟩
set_option maxHeartbeats 1000000 in
theorem linw_any (x : Int) (w : World) : Calls Tryz.prog 87 #[.int .u8 x] w fun e w' => e = .returned (.bool (inwB x)) ∧ w' = w := by
 have HD := hid (fun W => ldig_any x W)
 obtain ⟨r, hr⟩ : ∃ r, inwB x = r := ⟨_, rfl⟩
 rw [hr]
 unfold inwB at hr
 by_cases d : digB x = true
 ·rw [d] at HD hr
  have hr' : r = true := by rw [← hr]; rfl
  subst hr'
  go_enter Tryz.func87, Tryz.ntmps87
  go_wp2_with (go_at_call 85; refine (HD.out _).mono ?_; rintro e w1 ⟨rfl, hww⟩; subst hww)
  go_ret
  exact ⟨ret_bool (by first | rfl | (simp; omega)), rfl⟩
 ·have d' : digB x = false := by simpa using d
  rw [d'] at HD hr
  clear d d'
  by_cases a : 97 ≤ x
  ·by_cases b : x ≤ 122
   ·have hr' : r = true := by rw [← hr]; simp [a, b]
    subst hr'
    go_enter Tryz.func87, Tryz.ntmps87
    go_wp2_with (go_at_call 85; refine (HD.out _).mono ?_; rintro e w1 ⟨rfl, hww⟩; subst hww)
    go_ret
    exact ⟨ret_bool (by first | rfl | (simp; omega)), rfl⟩
   ·have h1 : 65 ≤ x := by omega
    have h2 : ¬ x ≤ 90 := by omega
    have h3 : (x == 95) = false := by simp; omega
    have hr' : r = false := by rw [← hr]; simp; omega
    subst hr'
    go_enter Tryz.func87, Tryz.ntmps87
    go_wp2_with (go_at_call 85; refine (HD.out _).mono ?_; rintro e w1 ⟨rfl, hww⟩; subst hww)
    go_ret
    exact ⟨ret_bool (by first | rfl | (simp; omega)), rfl⟩
  ·by_cases h1 : 65 ≤ x
   ·by_cases h2 : x ≤ 90
    ·have hr' : r = true := by rw [← hr]; simp [h1, h2]
     subst hr'
     go_enter Tryz.func87, Tryz.ntmps87
     go_wp2_with (go_at_call 85; refine (HD.out _).mono ?_; rintro e w1 ⟨rfl, hww⟩; subst hww)
     go_ret
     exact ⟨ret_bool (by first | rfl | (simp; omega)), rfl⟩
    ·by_cases h3 : x = 95
     ·subst h3
      have hr' : r = true := by rw [← hr]; decide
      subst hr'
      go_enter Tryz.func87, Tryz.ntmps87
      go_wp2_with (go_at_call 85; refine (HD.out _).mono ?_; rintro e w1 ⟨rfl, hww⟩; subst hww)
      go_ret
      exact ⟨ret_bool (by first | rfl | (simp; omega)), rfl⟩
     ·have h3' : (x == 95) = false := by simpa using h3
      have hr' : r = false := by rw [← hr]; simp; omega
      subst hr'
      go_enter Tryz.func87, Tryz.ntmps87
      go_wp2_with (go_at_call 85; refine (HD.out _).mono ?_; rintro e w1 ⟨rfl, hww⟩; subst hww)
      go_ret
      exact ⟨ret_bool (by first | rfl | (simp; omega)), rfl⟩
   ·have h3' : (x == 95) = false := by simp; omega
    have hr' : r = false := by rw [← hr]; simp; omega
    subst hr'
    go_enter Tryz.func87, Tryz.ntmps87
    go_wp2_with (go_at_call 85; refine (HD.out _).mono ?_; rintro e w1 ⟨rfl, hww⟩; subst hww)
    go_ret
    exact ⟨ret_bool (by first | rfl | (simp; omega)), rfl⟩
set_option maxHeartbeats 1000000 in
theorem rinw_any (x : Int) (w : World) : Calls Tryz.prog 79 #[.int .u8 x] w fun e w' => e = .returned (.bool (inwB x)) ∧ w' = w := by
 have HD := hid (fun W => rdig_any x W)
 obtain ⟨r, hr⟩ : ∃ r, inwB x = r := ⟨_, rfl⟩
 rw [hr]
 unfold inwB at hr
 by_cases d : digB x = true
 ·rw [d] at HD hr
  have hr' : r = true := by rw [← hr]; rfl
  subst hr'
  go_enter Tryz.func79, Tryz.ntmps79
  go_wp2_with (go_at_call 77; refine (HD.out _).mono ?_; rintro e w1 ⟨rfl, hww⟩; subst hww)
  go_ret
  exact ⟨ret_bool (by first | rfl | (simp; omega)), rfl⟩
 ·have d' : digB x = false := by simpa using d
  rw [d'] at HD hr
  clear d d'
  by_cases a : 97 ≤ x
  ·by_cases b : x ≤ 122
   ·have hr' : r = true := by rw [← hr]; simp [a, b]
    subst hr'
    go_enter Tryz.func79, Tryz.ntmps79
    go_wp2_with (go_at_call 77; refine (HD.out _).mono ?_; rintro e w1 ⟨rfl, hww⟩; subst hww)
    go_ret
    exact ⟨ret_bool (by first | rfl | (simp; omega)), rfl⟩
   ·have h1 : 65 ≤ x := by omega
    have h2 : ¬ x ≤ 90 := by omega
    have h3 : (x == 95) = false := by simp; omega
    have hr' : r = false := by rw [← hr]; simp; omega
    subst hr'
    go_enter Tryz.func79, Tryz.ntmps79
    go_wp2_with (go_at_call 77; refine (HD.out _).mono ?_; rintro e w1 ⟨rfl, hww⟩; subst hww)
    go_ret
    exact ⟨ret_bool (by first | rfl | (simp; omega)), rfl⟩
  ·by_cases h1 : 65 ≤ x
   ·by_cases h2 : x ≤ 90
    ·have hr' : r = true := by rw [← hr]; simp [h1, h2]
     subst hr'
     go_enter Tryz.func79, Tryz.ntmps79
     go_wp2_with (go_at_call 77; refine (HD.out _).mono ?_; rintro e w1 ⟨rfl, hww⟩; subst hww)
     go_ret
     exact ⟨ret_bool (by first | rfl | (simp; omega)), rfl⟩
    ·by_cases h3 : x = 95
     ·subst h3
      have hr' : r = true := by rw [← hr]; decide
      subst hr'
      go_enter Tryz.func79, Tryz.ntmps79
      go_wp2_with (go_at_call 77; refine (HD.out _).mono ?_; rintro e w1 ⟨rfl, hww⟩; subst hww)
      go_ret
      exact ⟨ret_bool (by first | rfl | (simp; omega)), rfl⟩
     ·have h3' : (x == 95) = false := by simpa using h3
      have hr' : r = false := by rw [← hr]; simp; omega
      subst hr'
      go_enter Tryz.func79, Tryz.ntmps79
      go_wp2_with (go_at_call 77; refine (HD.out _).mono ?_; rintro e w1 ⟨rfl, hww⟩; subst hww)
      go_ret
      exact ⟨ret_bool (by first | rfl | (simp; omega)), rfl⟩
   ·have h3' : (x == 95) = false := by simp; omega
    have hr' : r = false := by rw [← hr]; simp; omega
    subst hr'
    go_enter Tryz.func79, Tryz.ntmps79
    go_wp2_with (go_at_call 77; refine (HD.out _).mono ?_; rintro e w1 ⟨rfl, hww⟩; subst hww)
    go_ret
    exact ⟨ret_bool (by first | rfl | (simp; omega)), rfl⟩
set_option maxHeartbeats 1000000 in
theorem lblk_any (x : Int) (w : World) : Calls Tryz.prog 67 #[.int .u8 x] w fun e w' => e = .returned (.bool (blkB x)) ∧ w' = w := by
 unfold blkB
 by_cases c1 : x = 32
 ·subst c1
  go_enter Tryz.func67, Tryz.ntmps67
  go_wp2
  go_ret
  exact ⟨ret_bool (by first | rfl | (simp; omega)), rfl⟩
 have d1 : (x == 32) = false := by simpa using c1
 by_cases c2 : x = 9
 ·subst c2
  go_enter Tryz.func67, Tryz.ntmps67
  go_wp2
  go_ret
  exact ⟨ret_bool (by first | rfl | (simp; omega)), rfl⟩
 have d2 : (x == 9) = false := by simpa using c2
 by_cases c3 : x = 10
 ·subst c3
  go_enter Tryz.func67, Tryz.ntmps67
  go_wp2
  go_ret
  exact ⟨ret_bool (by first | rfl | (simp; omega)), rfl⟩
 have d3 : (x == 10) = false := by simpa using c3
 by_cases c4 : x = 13
 ·subst c4
  go_enter Tryz.func67, Tryz.ntmps67
  go_wp2
  go_ret
  exact ⟨ret_bool (by first | rfl | (simp; omega)), rfl⟩
 have d4 : (x == 13) = false := by simpa using c4
 clear c1 c2 c3 c4
 go_enter Tryz.func67, Tryz.ntmps67
 go_wp2
 go_ret
 exact ⟨ret_bool (by simp [d1, d2, d3, d4]), rfl⟩
/-- The first place from k on of which a word does not take in the byte. -/
def behW (s : ByteArray) (k : Nat) : Nat :=
 if h : k < s.size then (if inwB (iv (bt s k)) = true then behW s (k + 1) else k) else k
termination_by s.size - k
theorem behW_go (s : ByteArray) (k : Nat) (h : k < s.size) (c : inwB (iv (bt s k)) = true) : behW s k = behW s (k + 1) := by
 rw [behW, dif_pos h, if_pos c]
theorem behW_no (s : ByteArray) (k : Nat) (h : k < s.size) (c : inwB (iv (bt s k)) = false) : behW s k = k := by
 rw [behW, dif_pos h, if_neg (by rw [c]; decide)]
theorem behW_end (s : ByteArray) (k : Nat) (h : ¬ k < s.size) : behW s k = k := by
 rw [behW, dif_neg h]
theorem behW_in (s : ByteArray) : ∀ (n k : Nat), s.size - k = n → k ≤ behW s k ∧ (k ≤ s.size → behW s k ≤ s.size) := by
 intro n
 induction n with
 | zero =>
  intro k hn
  rw [behW_end s k (by omega)]
  exact ⟨Nat.le_refl _, fun h => h⟩
 | succ n ih =>
  intro k hn
  have hlt : k < s.size := by omega
  cases c : inwB (iv (bt s k))
  ·rw [behW_no s k hlt c]
   exact ⟨Nat.le_refl _, fun h => h⟩
  ·rw [behW_go s k hlt c]
   have := ih (k + 1) (by omega)
   exact ⟨by omega, fun _ => this.2 (by omega)⟩
set_option maxHeartbeats 1000000 in
theorem lbeh_any (s : ByteArray) (k0 : Nat) (w : World) (hs : s.size ≤ 4096) (hk0 : k0 ≤ s.size) : Calls Tryz.prog 89 #[.string s, .int .i64 (k0 : Int)] w fun e w' => e = .returned (.int .i64 (behW s k0)) ∧ w' = w := by
 have IW := hid (fun (x : Int) (W : World) => linw_any x W)
 go_enter Tryz.func89, Tryz.ntmps89
 go_wp2_with fail
 go_loop [1] (fun i => ∃ k : Nat, k ≤ s.size ∧ i = .int .i64 k ∧ Hid (behW s k0 = behW s k)) (fun i => s.size - (intOf i).toNat)
 case atStart => exact ⟨k0, hk0, rfl, hid rfl⟩
 case round =>
  obtain ⟨k, hk, rfl, HT⟩ := hrel
  by_cases hlt : k < s.size
  ·have hc := iv_get s k hlt
   obtain ⟨x, hx⟩ : ∃ x, iv (bt s k) = x := ⟨_, rfl⟩
   rw [hx] at hc
   have HI := hid (fun W => IW.out x W)
   cases c : inwB x
   ·have HT := hid (HT.out.trans (behW_no s k hlt (by rw [hx]; exact c)))
    rw [c] at HI
    clear hx c
    go_wp2_with (go_at_call 87; refine (HI.out _).mono ?_; rintro e w1 ⟨rfl, hww⟩; subst hww)
    go_ret
    exact ⟨by rw [HT.out]; rfl, rfl⟩
   ·have HT := hid (HT.out.trans (behW_go s k hlt (by rw [hx]; exact c)))
    rw [c] at HI
    clear hx c
    go_wp2_with (go_at_call 87; refine (HI.out _).mono ?_; rintro e w1 ⟨rfl, hww⟩; subst hww)
    exact ⟨⟨k + 1, by omega, by go_num, HT⟩, by simp [intOf]; omega⟩
  ·have HT := hid (HT.out.trans (behW_end s k hlt))
   go_wp2
   go_ret
   exact ⟨by rw [HT.out]; rfl, rfl⟩
end Go.Proofs.YtcldglilhhhdoaaGreatDoor.L
