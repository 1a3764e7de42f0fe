import Derived.Test.YtdhjoimiejdgbabDoorMgD
namespace Go.Proofs.YtdhjoimiejdgbabDoor.L
open Go.RowKit Bs Go.Maps
set_option linter.unusedVariables false
set_option maxHeartbeats 8000000 in
set_option maxRecDepth 100000 in
theorem ch_put (w0 w : World) (B : Nat) {G : List Nat} (st : Nat → St) (h : Wh w0 w B G st) (hr : Re st) (ta : TabG w0 G) (i : Nat) (hi : i < 4) (p m : Nat) (l : List Rw) (F : List Nat) (mo : Int) (v : Value) (d : List Dr) (hst : st i = ⟨.pointer (some ⟨p, 0, none⟩), m, l, F, mo, v, d⟩) (oa ot ov : Int) (s : ByteArray) (hs : s.size ≤ maxLen) :
    Calls Tryd.prog 28 #[.pointer (some ⟨B, 0, none⟩), .agg #[.int .i64 2, .int .i64 oa, .int .i64 ot, .string s, .int .i64 ov], .int .i64 (i : Int)] w fun e w' => e = .returned (.bool true) ∧ ∃ st', Wh w0 w' B G st' ∧ Re st' ∧ Ky st st' := by
  obtain ⟨a, cap, hv⟩ := own_len (h.od i hi)
  have hv : v = .slice a d.length cap := by rw [hst] at hv; exact hv
  have hmo : mo = (m : Int) := by
    have := (hr i hi).2
    rw [hst] at this
    rcases this with e | e
    · cases e
    · exact e
  have hre : Rel l d := by have := (hr i hi).1; rw [hst] at this; exact this
  subst hmo
  subst hv
  obtain ⟨L, hL⟩ : ∃ L, L = d.length := ⟨_, rfl⟩
  rw [← hL] at hst
  have TP := hid (fun W (hW : Wh w0 W B G st) => two_put hL (wh_tb hW hi hst).1 (wh_tb hW hi hst).2 hre (ta _ hW.lo) s hs ov)
  have W1 := hid (h.low ((Below.refl w.heap.size w).alloc (Nat.le_refl _) (.cells #[.int .i64 2, .int .i64 oa, .int .i64 ot, .string s, .int .i64 ov] 44)))
  have BO := hid (Bo.mk5 w 2 oa ot ov s 44)
  have HF : Hid (∀ q ∈ F, q < w.heap.size) := hid (fun q hq => by have := (h.tq i hi).lt q; rw [hst] at this; exact this hq)
  have HR := hid hr
  have HST := hid hst
  clear h hr hst hre hL hs
  obtain ⟨c0, c1, c2⟩ := W1.out.cells hi
  rw [HST.out] at c0 c1 c2
  have o0 := BO.out.o0
  have o3 := BO.out.o3
  have o4 := BO.out.o4
  have hi4 : (i : Int) < 4 := by omega
  go_enter Tryd.func28, Tryd.ntmps28
  go_wp2_with fail
  generalize w.alloc (.cells #[.int .i64 2, .int .i64 oa, .int .i64 ot, .string s, .int .i64 ov] 44) = X1 at *
  go_region_held3 (fun Y => Y.cell? ⟨B, i, none⟩ = some (.pointer (some ⟨p, 0, none⟩)) ∧ Y.cell? ⟨w.heap.size, 3, none⟩ = some (.string s) ∧ Y.cell? ⟨w.heap.size, 4, none⟩ = some (.int .i64 ov))
    (first | exact ⟨c0, o3, o4⟩ | exact T2)
    (first
      | (go_at_call 7; refine (TP.out _ (W1.out.low (belowDr X1))).mono ?_; rintro e w2 ⟨l', F', sl, er, rfl, T', M, DD⟩
         have W2 := hid ((W1.out.low (belowDr X1)).mv hi (l' := l') (F' := F') (by rw [HST.out]; exact Or.inr ⟨p, rfl, T'⟩) (by rw [HST.out]; exact M))
         have B2 := hid ((BO.out.low (belowDr X1)).mv M HF.out)
         have C2 := W2.out.cells hi
         rw [upd_same, HST.out] at C2
         obtain ⟨d0, d1, d2⟩ := C2
         have p3 := B2.out.o3
         have p4 := B2.out.o4
         have T2 := And.intro d0 (And.intro p3 p4)
         have D2 := hid DD
         clear DD M T'))
  clear c0 c1 c2 o0 o3 o4
  go_wp2_with fail
  clear T2
  have X2B := hid ((Below.refl w2.heap.size w2).alloc (Nat.le_refl _) (.cells #[.int .i64 0, .slice none 0 0] 49))
  have X2C : Hid ((w2.alloc (.cells #[.int .i64 0, .slice none 0 0] 49)).heap[w2.heap.size]? = some (.cells #[.int .i64 0, .slice none 0 0] 49)) := hid (heap_alloc_new w2 _)
  have X2S : Hid (w2.heap.size < (w2.alloc (.cells #[.int .i64 0, .slice none 0 0] 49)).heap.size) := hid (by simp)
  have hBn : B ≠ w2.heap.size := by have := W2.out.lt; omega
  have hwn : w.heap.size ≠ w2.heap.size := by have := B2.out.sz; omega
  go_region_held3 (fun Y => Y.cell? ⟨B, 4 + i * 2, none⟩ = some (.int .i64 (m : Int)) ∧ Y.cell? ⟨B, 4 + i * 2 + 1, none⟩ = some (.slice a L cap) ∧ Y.cell? ⟨w.heap.size, 3, none⟩ = some (.string s) ∧ Y.cell? ⟨w.heap.size, 4, none⟩ = some (.int .i64 ov))
    (first | exact ⟨d1, d2, p3, p4⟩ | exact T3 | exact ⟨(cell_oth hBn).trans ((cell_oth hBn).trans T3.1), (cell_oth hBn).trans ((cell_oth hBn).trans T3.2.1), (cell_oth hwn).trans ((cell_oth hwn).trans T3.2.2.1), (cell_oth hwn).trans ((cell_oth hwn).trans T3.2.2.2)⟩ | go_keep)
    (first
      | (go_at_call 42; refine (D2.out _ (belowDr w2)).mono ?_; rintro e w3 ⟨v', d', rfl, ho, hre, hb⟩
         have W3 := hid (W2.out.low (belowU hb))
         have B3 := hid (B2.out.low (belowU hb))
         have C3 := W3.out.cells hi
         rw [upd_same, HST.out] at C3
         obtain ⟨f0, f1, f2⟩ := C3
         have q3 := B3.out.o3
         have q4 := B3.out.o4
         have T3 := And.intro f1 (And.intro f2 (And.intro q3 q4))
         obtain ⟨a', cap', hv'⟩ := own_len ho
         subst hv'
         have O3 := hid ho
         have R3 := hid hre
         clear ho hre hb)
      | (go_at_call 42; refine (D2.out _ X2B.out.drew).mono ?_; rintro e w3 ⟨v', d', rfl, ho, hre, hb⟩
         have W3 := hid ((W2.out.low X2B.out).low (belowU hb))
         have B3 := hid ((B2.out.low X2B.out).low (belowU hb))
         have C3 := W3.out.cells hi
         rw [upd_same, HST.out] at C3
         obtain ⟨f0, f1, f2⟩ := C3
         have q3 := B3.out.o3
         have q4 := B3.out.o4
         have T3 := And.intro f1 (And.intro f2 (And.intro q3 q4))
         obtain ⟨a', cap', hv'⟩ := own_len ho
         subst hv'
         have O3 := hid ho
         have R3 := hid hre
         have bx := (hb.block w2.heap.size X2S.out).trans X2C.out
         have BX := hid bx
         have g0 : w3.cell? ⟨w2.heap.size, 0, none⟩ = some (.int .i64 0) := (by rw [cell_of_row w3 w2.heap.size 0 _ _ _ bx]; rfl)
         have g1 : w3.cell? ⟨w2.heap.size, 1, none⟩ = some (.slice none 0 0) := (by rw [cell_of_row w3 w2.heap.size 1 _ _ _ bx]; rfl)
         have z0 : w3.frozen? ⟨w2.heap.size, 0, none⟩ = false := frozen_of_row w3 w2.heap.size 0 _ _ bx
         have z1 : w3.frozen? ⟨w2.heap.size, 1, none⟩ = false := frozen_of_row w3 w2.heap.size 1 _ _ bx
         clear ho hre hb bx))
  all_goals (go_wp2_with fail)
  · have YY := hid (Yb.two (m := (m : Int)) W3.out O3.out)
    have y0 := YY.out.y0
    have y1 := YY.out.y1
    obtain ⟨k0, k1, k2⟩ := YY.out.wh.cells hi
    rw [upd_same, HST.out] at k0 k1 k2
    have x1 := YY.out.wh.fz (4 + i * 2)
    have x2 := YY.out.wh.fz (4 + i * 2 + 1)
    have YE := hid (Yb.end hi HST.out HR.out YY.out R3.out)
    clear f0 f1 f2 q3 q4 T3  W3 O3 B3 YY d0 d1 d2 p3 p4 D2 TP
    generalize (w3.alloc (.cells #[.int .i64 (m : Int), .slice a' d'.length cap'] 49)) = Y at *
    go_region
    go_wp2_with fail
    go_ret
    obtain ⟨st', hA, hB⟩ := YE.out
    exact ⟨rfl, st', hA.low (belowDr _), hB⟩
  · have YY := hid (Yb.one (m := (m : Int)) W3.out O3.out BX.out W2.out.lo.size)
    have y0 := YY.out.y0
    have y1 := YY.out.y1
    obtain ⟨k0, k1, k2⟩ := YY.out.wh.cells hi
    rw [upd_same, HST.out] at k0 k1 k2
    have x1 := YY.out.wh.fz (4 + i * 2)
    have x2 := YY.out.wh.fz (4 + i * 2 + 1)
    have YE := hid (Yb.end hi HST.out HR.out YY.out R3.out)
    clear f0 f1 f2 q3 q4 T3 g0 g1 z0 z1 BX W3 O3 B3 YY d0 d1 d2 p3 p4 D2 TP
    generalize ((w3.setCell ⟨w2.heap.size, 0, none⟩ (.int .i64 (m : Int))).setCell ⟨w2.heap.size, 1, none⟩ (.slice a' d'.length cap')) = Y at *
    go_region
    go_wp2_with fail
    go_ret
    obtain ⟨st', hA, hB⟩ := YE.out
    exact ⟨rfl, st', hA.low (belowDr _), hB⟩
set_option maxHeartbeats 8000000 in
set_option maxRecDepth 100000 in
theorem ch_set (w0 w : World) (B : Nat) {G : List Nat} (st : Nat → St) (h : Wh w0 w B G st) (hr : Re st) (ta : TabG w0 G) (i : Nat) (hi : i < 4) (p m : Nat) (l : List Rw) (F : List Nat) (mo : Int) (v : Value) (d : List Dr) (hst : st i = ⟨.pointer (some ⟨p, 0, none⟩), m, l, F, mo, v, d⟩) (oa ot ov : Int) (s : ByteArray) (hs : s.size ≤ maxLen) :
    Calls Tryd.prog 28 #[.pointer (some ⟨B, 0, none⟩), .agg #[.int .i64 3, .int .i64 oa, .int .i64 ot, .string s, .int .i64 ov], .int .i64 (i : Int)] w fun e w' => e = .returned (.bool true) ∧ ∃ st', Wh w0 w' B G st' ∧ Re st' ∧ Ky st st' := by
  obtain ⟨a, cap, hv⟩ := own_len (h.od i hi)
  have hv : v = .slice a d.length cap := by rw [hst] at hv; exact hv
  have hmo : mo = (m : Int) := by
    have := (hr i hi).2
    rw [hst] at this
    rcases this with e | e
    · cases e
    · exact e
  have hre : Rel l d := by have := (hr i hi).1; rw [hst] at this; exact this
  subst hmo
  subst hv
  obtain ⟨L, hL⟩ : ∃ L, L = d.length := ⟨_, rfl⟩
  rw [← hL] at hst
  have TP := hid (fun W (hW : Wh w0 W B G st) => two_set hL (wh_tb hW hi hst).1 (wh_tb hW hi hst).2 hre s hs ov)
  have W1 := hid (h.low ((Below.refl w.heap.size w).alloc (Nat.le_refl _) (.cells #[.int .i64 3, .int .i64 oa, .int .i64 ot, .string s, .int .i64 ov] 44)))
  have BO := hid (Bo.mk5 w 3 oa ot ov s 44)
  have HF : Hid (∀ q ∈ F, q < w.heap.size) := hid (fun q hq => by have := (h.tq i hi).lt q; rw [hst] at this; exact this hq)
  have HR := hid hr
  have HST := hid hst
  clear h hr hst hre hL hs
  obtain ⟨c0, c1, c2⟩ := W1.out.cells hi
  rw [HST.out] at c0 c1 c2
  have o0 := BO.out.o0
  have o3 := BO.out.o3
  have o4 := BO.out.o4
  have hi4 : (i : Int) < 4 := by omega
  go_enter Tryd.func28, Tryd.ntmps28
  go_wp2_with fail
  generalize w.alloc (.cells #[.int .i64 3, .int .i64 oa, .int .i64 ot, .string s, .int .i64 ov] 44) = X1 at *
  go_region_held3 (fun Y => Y.cell? ⟨B, i, none⟩ = some (.pointer (some ⟨p, 0, none⟩)) ∧ Y.cell? ⟨w.heap.size, 3, none⟩ = some (.string s) ∧ Y.cell? ⟨w.heap.size, 4, none⟩ = some (.int .i64 ov))
    (first | exact ⟨c0, o3, o4⟩ | exact T2)
    (first
      | (go_at_call 10; refine (TP.out _ (W1.out.low (belowDr X1))).mono ?_; rintro e w2 ⟨l', F', er, rfl, T', M, DD⟩
         have W2 := hid ((W1.out.low (belowDr X1)).mv hi (l' := l') (F' := F') (by rw [HST.out]; exact Or.inr ⟨p, rfl, T'⟩) (by rw [HST.out]; exact M))
         have B2 := hid ((BO.out.low (belowDr X1)).mv M HF.out)
         have C2 := W2.out.cells hi
         rw [upd_same, HST.out] at C2
         obtain ⟨d0, d1, d2⟩ := C2
         have p3 := B2.out.o3
         have p4 := B2.out.o4
         have T2 := And.intro d0 (And.intro p3 p4)
         have D2 := hid DD
         clear DD M T'))
  clear c0 c1 c2 o0 o3 o4
  go_wp2_with fail
  clear T2
  have X2B := hid ((Below.refl w2.heap.size w2).alloc (Nat.le_refl _) (.cells #[.int .i64 0, .slice none 0 0] 49))
  have X2C : Hid ((w2.alloc (.cells #[.int .i64 0, .slice none 0 0] 49)).heap[w2.heap.size]? = some (.cells #[.int .i64 0, .slice none 0 0] 49)) := hid (heap_alloc_new w2 _)
  have X2S : Hid (w2.heap.size < (w2.alloc (.cells #[.int .i64 0, .slice none 0 0] 49)).heap.size) := hid (by simp)
  have hBn : B ≠ w2.heap.size := by have := W2.out.lt; omega
  have hwn : w.heap.size ≠ w2.heap.size := by have := B2.out.sz; omega
  go_region_held3 (fun Y => Y.cell? ⟨B, 4 + i * 2, none⟩ = some (.int .i64 (m : Int)) ∧ Y.cell? ⟨B, 4 + i * 2 + 1, none⟩ = some (.slice a L cap) ∧ Y.cell? ⟨w.heap.size, 3, none⟩ = some (.string s) ∧ Y.cell? ⟨w.heap.size, 4, none⟩ = some (.int .i64 ov))
    (first | exact ⟨d1, d2, p3, p4⟩ | exact T3 | exact ⟨(cell_oth hBn).trans ((cell_oth hBn).trans T3.1), (cell_oth hBn).trans ((cell_oth hBn).trans T3.2.1), (cell_oth hwn).trans ((cell_oth hwn).trans T3.2.2.1), (cell_oth hwn).trans ((cell_oth hwn).trans T3.2.2.2)⟩ | go_keep)
    (first
      | (go_at_call 43; refine (D2.out _ (belowDr w2)).mono ?_; rintro e w3 ⟨v', d', rfl, ho, hre, hb⟩
         have W3 := hid (W2.out.low (belowU hb))
         have B3 := hid (B2.out.low (belowU hb))
         have C3 := W3.out.cells hi
         rw [upd_same, HST.out] at C3
         obtain ⟨f0, f1, f2⟩ := C3
         have q3 := B3.out.o3
         have q4 := B3.out.o4
         have T3 := And.intro f1 (And.intro f2 (And.intro q3 q4))
         obtain ⟨a', cap', hv'⟩ := own_len ho
         subst hv'
         have O3 := hid ho
         have R3 := hid hre
         clear ho hre hb)
      | (go_at_call 43; refine (D2.out _ X2B.out.drew).mono ?_; rintro e w3 ⟨v', d', rfl, ho, hre, hb⟩
         have W3 := hid ((W2.out.low X2B.out).low (belowU hb))
         have B3 := hid ((B2.out.low X2B.out).low (belowU hb))
         have C3 := W3.out.cells hi
         rw [upd_same, HST.out] at C3
         obtain ⟨f0, f1, f2⟩ := C3
         have q3 := B3.out.o3
         have q4 := B3.out.o4
         have T3 := And.intro f1 (And.intro f2 (And.intro q3 q4))
         obtain ⟨a', cap', hv'⟩ := own_len ho
         subst hv'
         have O3 := hid ho
         have R3 := hid hre
         have bx := (hb.block w2.heap.size X2S.out).trans X2C.out
         have BX := hid bx
         have g0 : w3.cell? ⟨w2.heap.size, 0, none⟩ = some (.int .i64 0) := (by rw [cell_of_row w3 w2.heap.size 0 _ _ _ bx]; rfl)
         have g1 : w3.cell? ⟨w2.heap.size, 1, none⟩ = some (.slice none 0 0) := (by rw [cell_of_row w3 w2.heap.size 1 _ _ _ bx]; rfl)
         have z0 : w3.frozen? ⟨w2.heap.size, 0, none⟩ = false := frozen_of_row w3 w2.heap.size 0 _ _ bx
         have z1 : w3.frozen? ⟨w2.heap.size, 1, none⟩ = false := frozen_of_row w3 w2.heap.size 1 _ _ bx
         clear ho hre hb bx))
  all_goals (go_wp2_with fail)
  · have YY := hid (Yb.two (m := (m : Int)) W3.out O3.out)
    have y0 := YY.out.y0
    have y1 := YY.out.y1
    obtain ⟨k0, k1, k2⟩ := YY.out.wh.cells hi
    rw [upd_same, HST.out] at k0 k1 k2
    have x1 := YY.out.wh.fz (4 + i * 2)
    have x2 := YY.out.wh.fz (4 + i * 2 + 1)
    have YE := hid (Yb.end hi HST.out HR.out YY.out R3.out)
    clear f0 f1 f2 q3 q4 T3  W3 O3 B3 YY d0 d1 d2 p3 p4 D2 TP
    generalize (w3.alloc (.cells #[.int .i64 (m : Int), .slice a' d'.length cap'] 49)) = Y at *
    go_region
    go_wp2_with fail
    go_ret
    obtain ⟨st', hA, hB⟩ := YE.out
    exact ⟨rfl, st', hA.low (belowDr _), hB⟩
  · have YY := hid (Yb.one (m := (m : Int)) W3.out O3.out BX.out W2.out.lo.size)
    have y0 := YY.out.y0
    have y1 := YY.out.y1
    obtain ⟨k0, k1, k2⟩ := YY.out.wh.cells hi
    rw [upd_same, HST.out] at k0 k1 k2
    have x1 := YY.out.wh.fz (4 + i * 2)
    have x2 := YY.out.wh.fz (4 + i * 2 + 1)
    have YE := hid (Yb.end hi HST.out HR.out YY.out R3.out)
    clear f0 f1 f2 q3 q4 T3 g0 g1 z0 z1 BX W3 O3 B3 YY d0 d1 d2 p3 p4 D2 TP
    generalize ((w3.setCell ⟨w2.heap.size, 0, none⟩ (.int .i64 (m : Int))).setCell ⟨w2.heap.size, 1, none⟩ (.slice a' d'.length cap')) = Y at *
    go_region
    go_wp2_with fail
    go_ret
    obtain ⟨st', hA, hB⟩ := YE.out
    exact ⟨rfl, st', hA.low (belowDr _), hB⟩
set_option maxHeartbeats 8000000 in
set_option maxRecDepth 100000 in
theorem ch_drop (w0 w : World) (B : Nat) {G : List Nat} (st : Nat → St) (h : Wh w0 w B G st) (hr : Re st) (ta : TabG w0 G) (i : Nat) (hi : i < 4) (p m : Nat) (l : List Rw) (F : List Nat) (mo : Int) (v : Value) (d : List Dr) (hst : st i = ⟨.pointer (some ⟨p, 0, none⟩), m, l, F, mo, v, d⟩) (oa ot ov : Int) (s : ByteArray) (hs : s.size ≤ maxLen) :
    Calls Tryd.prog 28 #[.pointer (some ⟨B, 0, none⟩), .agg #[.int .i64 4, .int .i64 oa, .int .i64 ot, .string s, .int .i64 ov], .int .i64 (i : Int)] w fun e w' => e = .returned (.bool true) ∧ ∃ st', Wh w0 w' B G st' ∧ Re st' ∧ Ky st st' := by
  obtain ⟨a, cap, hv⟩ := own_len (h.od i hi)
  have hv : v = .slice a d.length cap := by rw [hst] at hv; exact hv
  have hmo : mo = (m : Int) := by
    have := (hr i hi).2
    rw [hst] at this
    rcases this with e | e
    · cases e
    · exact e
  have hre : Rel l d := by have := (hr i hi).1; rw [hst] at this; exact this
  subst hmo
  subst hv
  obtain ⟨L, hL⟩ : ∃ L, L = d.length := ⟨_, rfl⟩
  rw [← hL] at hst
  have TP := hid (fun W (hW : Wh w0 W B G st) => two_drop hL (wh_tb hW hi hst).1 (wh_tb hW hi hst).2 hre s hs)
  have W1 := hid (h.low ((Below.refl w.heap.size w).alloc (Nat.le_refl _) (.cells #[.int .i64 4, .int .i64 oa, .int .i64 ot, .string s, .int .i64 ov] 44)))
  have BO := hid (Bo.mk5 w 4 oa ot ov s 44)
  have HF : Hid (∀ q ∈ F, q < w.heap.size) := hid (fun q hq => by have := (h.tq i hi).lt q; rw [hst] at this; exact this hq)
  have HR := hid hr
  have HST := hid hst
  clear h hr hst hre hL hs
  obtain ⟨c0, c1, c2⟩ := W1.out.cells hi
  rw [HST.out] at c0 c1 c2
  have o0 := BO.out.o0
  have o3 := BO.out.o3
  have o4 := BO.out.o4
  have hi4 : (i : Int) < 4 := by omega
  go_enter Tryd.func28, Tryd.ntmps28
  go_wp2_with fail
  generalize w.alloc (.cells #[.int .i64 4, .int .i64 oa, .int .i64 ot, .string s, .int .i64 ov] 44) = X1 at *
  go_region_held3 (fun Y => Y.cell? ⟨B, i, none⟩ = some (.pointer (some ⟨p, 0, none⟩)) ∧ Y.cell? ⟨w.heap.size, 3, none⟩ = some (.string s) ∧ Y.cell? ⟨w.heap.size, 4, none⟩ = some (.int .i64 ov))
    (first | exact ⟨c0, o3, o4⟩ | exact T2)
    (first
      | (go_at_call 8; refine (TP.out _ (W1.out.low (belowDr X1))).mono ?_; rintro e w2 ⟨l', F', sl, er, rfl, T', M, DD⟩
         have W2 := hid ((W1.out.low (belowDr X1)).mv hi (l' := l') (F' := F') (by rw [HST.out]; exact Or.inr ⟨p, rfl, T'⟩) (by rw [HST.out]; exact M))
         have B2 := hid ((BO.out.low (belowDr X1)).mv M HF.out)
         have C2 := W2.out.cells hi
         rw [upd_same, HST.out] at C2
         obtain ⟨d0, d1, d2⟩ := C2
         have p3 := B2.out.o3
         have p4 := B2.out.o4
         have T2 := And.intro d0 (And.intro p3 p4)
         have D2 := hid DD
         clear DD M T'))
  clear c0 c1 c2 o0 o3 o4
  go_wp2_with fail
  clear T2
  have X2B := hid ((Below.refl w2.heap.size w2).alloc (Nat.le_refl _) (.cells #[.int .i64 0, .slice none 0 0] 49))
  have X2C : Hid ((w2.alloc (.cells #[.int .i64 0, .slice none 0 0] 49)).heap[w2.heap.size]? = some (.cells #[.int .i64 0, .slice none 0 0] 49)) := hid (heap_alloc_new w2 _)
  have X2S : Hid (w2.heap.size < (w2.alloc (.cells #[.int .i64 0, .slice none 0 0] 49)).heap.size) := hid (by simp)
  have hBn : B ≠ w2.heap.size := by have := W2.out.lt; omega
  have hwn : w.heap.size ≠ w2.heap.size := by have := B2.out.sz; omega
  go_region_held3 (fun Y => Y.cell? ⟨B, 4 + i * 2, none⟩ = some (.int .i64 (m : Int)) ∧ Y.cell? ⟨B, 4 + i * 2 + 1, none⟩ = some (.slice a L cap) ∧ Y.cell? ⟨w.heap.size, 3, none⟩ = some (.string s) ∧ Y.cell? ⟨w.heap.size, 4, none⟩ = some (.int .i64 ov))
    (first | exact ⟨d1, d2, p3, p4⟩ | exact T3 | exact ⟨(cell_oth hBn).trans ((cell_oth hBn).trans T3.1), (cell_oth hBn).trans ((cell_oth hBn).trans T3.2.1), (cell_oth hwn).trans ((cell_oth hwn).trans T3.2.2.1), (cell_oth hwn).trans ((cell_oth hwn).trans T3.2.2.2)⟩ | go_keep)
    (first
      | (go_at_call 44; refine (D2.out _ (belowDr w2)).mono ?_; rintro e w3 ⟨v', d', rfl, ho, hre, hb⟩
         have W3 := hid (W2.out.low (belowU hb))
         have B3 := hid (B2.out.low (belowU hb))
         have C3 := W3.out.cells hi
         rw [upd_same, HST.out] at C3
         obtain ⟨f0, f1, f2⟩ := C3
         have q3 := B3.out.o3
         have q4 := B3.out.o4
         have T3 := And.intro f1 (And.intro f2 (And.intro q3 q4))
         obtain ⟨a', cap', hv'⟩ := own_len ho
         subst hv'
         have O3 := hid ho
         have R3 := hid hre
         clear ho hre hb)
      | (go_at_call 44; refine (D2.out _ X2B.out.drew).mono ?_; rintro e w3 ⟨v', d', rfl, ho, hre, hb⟩
         have W3 := hid ((W2.out.low X2B.out).low (belowU hb))
         have B3 := hid ((B2.out.low X2B.out).low (belowU hb))
         have C3 := W3.out.cells hi
         rw [upd_same, HST.out] at C3
         obtain ⟨f0, f1, f2⟩ := C3
         have q3 := B3.out.o3
         have q4 := B3.out.o4
         have T3 := And.intro f1 (And.intro f2 (And.intro q3 q4))
         obtain ⟨a', cap', hv'⟩ := own_len ho
         subst hv'
         have O3 := hid ho
         have R3 := hid hre
         have bx := (hb.block w2.heap.size X2S.out).trans X2C.out
         have BX := hid bx
         have g0 : w3.cell? ⟨w2.heap.size, 0, none⟩ = some (.int .i64 0) := (by rw [cell_of_row w3 w2.heap.size 0 _ _ _ bx]; rfl)
         have g1 : w3.cell? ⟨w2.heap.size, 1, none⟩ = some (.slice none 0 0) := (by rw [cell_of_row w3 w2.heap.size 1 _ _ _ bx]; rfl)
         have z0 : w3.frozen? ⟨w2.heap.size, 0, none⟩ = false := frozen_of_row w3 w2.heap.size 0 _ _ bx
         have z1 : w3.frozen? ⟨w2.heap.size, 1, none⟩ = false := frozen_of_row w3 w2.heap.size 1 _ _ bx
         clear ho hre hb bx))
  all_goals (go_wp2_with fail)
  · have YY := hid (Yb.two (m := (m : Int)) W3.out O3.out)
    have y0 := YY.out.y0
    have y1 := YY.out.y1
    obtain ⟨k0, k1, k2⟩ := YY.out.wh.cells hi
    rw [upd_same, HST.out] at k0 k1 k2
    have x1 := YY.out.wh.fz (4 + i * 2)
    have x2 := YY.out.wh.fz (4 + i * 2 + 1)
    have YE := hid (Yb.end hi HST.out HR.out YY.out R3.out)
    clear f0 f1 f2 q3 q4 T3  W3 O3 B3 YY d0 d1 d2 p3 p4 D2 TP
    generalize (w3.alloc (.cells #[.int .i64 (m : Int), .slice a' d'.length cap'] 49)) = Y at *
    go_region
    go_wp2_with fail
    go_ret
    obtain ⟨st', hA, hB⟩ := YE.out
    exact ⟨rfl, st', hA.low (belowDr _), hB⟩
  · have YY := hid (Yb.one (m := (m : Int)) W3.out O3.out BX.out W2.out.lo.size)
    have y0 := YY.out.y0
    have y1 := YY.out.y1
    obtain ⟨k0, k1, k2⟩ := YY.out.wh.cells hi
    rw [upd_same, HST.out] at k0 k1 k2
    have x1 := YY.out.wh.fz (4 + i * 2)
    have x2 := YY.out.wh.fz (4 + i * 2 + 1)
    have YE := hid (Yb.end hi HST.out HR.out YY.out R3.out)
    clear f0 f1 f2 q3 q4 T3 g0 g1 z0 z1 BX W3 O3 B3 YY d0 d1 d2 p3 p4 D2 TP
    generalize ((w3.setCell ⟨w2.heap.size, 0, none⟩ (.int .i64 (m : Int))).setCell ⟨w2.heap.size, 1, none⟩ (.slice a' d'.length cap')) = Y at *
    go_region
    go_wp2_with fail
    go_ret
    obtain ⟨st', hA, hB⟩ := YE.out
    exact ⟨rfl, st', hA.low (belowDr _), hB⟩
set_option maxHeartbeats 8000000 in
set_option maxRecDepth 100000 in
theorem ch_put_nil (w0 w : World) (B : Nat) {G : List Nat} (st : Nat → St) (h : Wh w0 w B G st) (i : Nat) (hi : i < 4) (hp : (st i).pv = .pointer none) (oa ot ov : Int) (s : ByteArray) :
    Calls Tryd.prog 28 #[.pointer (some ⟨B, 0, none⟩), .agg #[.int .i64 2, .int .i64 oa, .int .i64 ot, .string s, .int .i64 ov], .int .i64 (i : Int)] w fun e w' => e = .returned (.bool true) ∧ Below w.heap.size w w' := by
  have PN := hid (fun W => put_nil s ov W)
  have b1 := (Below.refl w.heap.size w).alloc (Nat.le_refl _) (.cells #[.int .i64 2, .int .i64 oa, .int .i64 ot, .string s, .int .i64 ov] 44)
  obtain ⟨c0, c1, c2⟩ := (h.low b1).cells hi
  rw [hp] at c0
  have BO := Bo.mk5 w 2 oa ot ov s 44
  have o0 := BO.o0
  have o3 := BO.o3
  have o4 := BO.o4
  have HB := hid b1
  have hi4 : (i : Int) < 4 := by omega
  clear h hp c1 c2 b1 BO
  go_enter Tryd.func28, Tryd.ntmps28
  go_wp2_with fail
  generalize w.alloc (.cells #[.int .i64 2, .int .i64 oa, .int .i64 ot, .string s, .int .i64 ov] 44) = X1 at *
  go_region_held3 (fun Y => Y.cell? ⟨B, i, none⟩ = some (.pointer none) ∧ Y.cell? ⟨w.heap.size, 3, none⟩ = some (.string s) ∧ Y.cell? ⟨w.heap.size, 4, none⟩ = some (.int .i64 ov))
    (first | exact ⟨c0, o3, o4⟩ | go_keep)
    (first
      | (go_at_call 7; refine (PN.out _).mono ?_; rintro e w2 ⟨rfl, hw⟩; subst hw))
  go_wp2_with fail
  go_ret
  exact ⟨rfl, HB.out.drew⟩
set_option maxHeartbeats 8000000 in
set_option maxRecDepth 100000 in
theorem ch_set_nil (w0 w : World) (B : Nat) {G : List Nat} (st : Nat → St) (h : Wh w0 w B G st) (i : Nat) (hi : i < 4) (hp : (st i).pv = .pointer none) (oa ot ov : Int) (s : ByteArray) :
    Calls Tryd.prog 28 #[.pointer (some ⟨B, 0, none⟩), .agg #[.int .i64 3, .int .i64 oa, .int .i64 ot, .string s, .int .i64 ov], .int .i64 (i : Int)] w fun e w' => e = .returned (.bool true) ∧ Below w.heap.size w w' := by
  have PN := hid (fun W => set_nil s ov W)
  have b1 := (Below.refl w.heap.size w).alloc (Nat.le_refl _) (.cells #[.int .i64 3, .int .i64 oa, .int .i64 ot, .string s, .int .i64 ov] 44)
  obtain ⟨c0, c1, c2⟩ := (h.low b1).cells hi
  rw [hp] at c0
  have BO := Bo.mk5 w 3 oa ot ov s 44
  have o0 := BO.o0
  have o3 := BO.o3
  have o4 := BO.o4
  have HB := hid b1
  have hi4 : (i : Int) < 4 := by omega
  clear h hp c1 c2 b1 BO
  go_enter Tryd.func28, Tryd.ntmps28
  go_wp2_with fail
  generalize w.alloc (.cells #[.int .i64 3, .int .i64 oa, .int .i64 ot, .string s, .int .i64 ov] 44) = X1 at *
  go_region_held3 (fun Y => Y.cell? ⟨B, i, none⟩ = some (.pointer none) ∧ Y.cell? ⟨w.heap.size, 3, none⟩ = some (.string s) ∧ Y.cell? ⟨w.heap.size, 4, none⟩ = some (.int .i64 ov))
    (first | exact ⟨c0, o3, o4⟩ | go_keep)
    (first
      | (go_at_call 10; refine (PN.out _).mono ?_; rintro e w2 ⟨rfl, hw⟩; subst hw))
  go_wp2_with fail
  go_ret
  exact ⟨rfl, HB.out.drew⟩
set_option maxHeartbeats 8000000 in
set_option maxRecDepth 100000 in
theorem ch_drop_nil (w0 w : World) (B : Nat) {G : List Nat} (st : Nat → St) (h : Wh w0 w B G st) (i : Nat) (hi : i < 4) (hp : (st i).pv = .pointer none) (oa ot ov : Int) (s : ByteArray) :
    Calls Tryd.prog 28 #[.pointer (some ⟨B, 0, none⟩), .agg #[.int .i64 4, .int .i64 oa, .int .i64 ot, .string s, .int .i64 ov], .int .i64 (i : Int)] w fun e w' => e = .returned (.bool true) ∧ Below w.heap.size w w' := by
  have PN := hid (fun W => drop_nil s W)
  have b1 := (Below.refl w.heap.size w).alloc (Nat.le_refl _) (.cells #[.int .i64 4, .int .i64 oa, .int .i64 ot, .string s, .int .i64 ov] 44)
  obtain ⟨c0, c1, c2⟩ := (h.low b1).cells hi
  rw [hp] at c0
  have BO := Bo.mk5 w 4 oa ot ov s 44
  have o0 := BO.o0
  have o3 := BO.o3
  have o4 := BO.o4
  have HB := hid b1
  have hi4 : (i : Int) < 4 := by omega
  clear h hp c1 c2 b1 BO
  go_enter Tryd.func28, Tryd.ntmps28
  go_wp2_with fail
  generalize w.alloc (.cells #[.int .i64 4, .int .i64 oa, .int .i64 ot, .string s, .int .i64 ov] 44) = X1 at *
  go_region_held3 (fun Y => Y.cell? ⟨B, i, none⟩ = some (.pointer none) ∧ Y.cell? ⟨w.heap.size, 3, none⟩ = some (.string s) ∧ Y.cell? ⟨w.heap.size, 4, none⟩ = some (.int .i64 ov))
    (first | exact ⟨c0, o3, o4⟩ | go_keep)
    (first
      | (go_at_call 8; refine (PN.out _).mono ?_; rintro e w2 ⟨rfl, hw⟩; subst hw))
  go_wp2_with fail
  go_ret
  exact ⟨rfl, HB.out.drew⟩
end Go.Proofs.YtdhjoimiejdgbabDoor.L
