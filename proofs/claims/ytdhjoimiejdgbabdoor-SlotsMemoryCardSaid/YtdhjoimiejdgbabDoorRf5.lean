import Derived.Test.YtdhjoimiejdgbabDoorRf4
namespace Go.Proofs.YtdhjoimiejdgbabDoor.L
open Go.RowKit Bs Go.Maps
set_option linter.unusedVariables false
set_option maxHeartbeats 4000000 in
theorem rset_bad (m : Int) (a : Option Addr) (L cap : Nat) (s : ByteArray) (x : Int) (w : World) (hs : s.size ≤ maxLen) (hb : badB s = true) : Calls Tryd.prog 43 #[.agg #[.int .i64 m, .slice a L cap], .string s, .int .i64 x] w fun e w' => e = .returned (.tuple #[.agg #[.int .i64 m, .slice a L cap], .int .i64 51]) ∧ Below w.heap.size w w' := by
  have C := hid (fun W => rbad_any s W hs)
  rw [hb] at C
  have BO := Bp.mk2 w m (.slice a L cap) 49
  go_enter Tryd.func43, Tryd.ntmps43
  go_wp2_with fail
  generalize (w.alloc _).alloc _ = W at *
  refine (C.out _).mono ?_
  rintro e w2 ⟨rfl, hww⟩; subst hww
  have t1 := BO.c1
  have t2 := BO.c2
  have t3 := BO.c3
  have t4 := BO.c4
  have t5 := BO.f3
  have t6 := BO.f4
  have HB := hid BO.lo
  clear BO
  go_wp2_with fail
  (try simp only [Exit.inBlock, Exit.then])
  refine bodyPost_ret (v := .tuple #[.agg #[.int .i64 m, .slice a L cap], .int .i64 51]) ?_ rfl ⟨rfl, below_set (below_set HB.out _ _ _ (Nat.le_succ _)) _ _ _ (Nat.le_succ _)⟩
  rw [results_cell_tmp rfl]
  go_simp
set_option maxHeartbeats 4000000 in
theorem rset_gone (m : Int) (a : Option Addr) (cap : Nat) (d : List Dr) (s : ByteArray) (x : Int) (w : World) (hi : ItD w a cap d) (hl : d.length ≤ 65536) (hb : badB s = false) (hj : findD d s = -1) : Calls Tryd.prog 43 #[.agg #[.int .i64 m, .slice a d.length cap], .string s, .int .i64 x] w fun e w' => e = .returned (.tuple #[.agg #[.int .i64 m, .slice a d.length cap], .int .i64 54]) ∧ Below w.heap.size w w' := by
  have C := hid (fun W => rbad_any s W (maxLen_of hb))
  rw [hb] at C
  have F := hid (fun W h => findW (w := w) (W := W) m s hi hl h)
  rw [hj] at F
  have BO := Bp.mk2 w m (.slice a d.length cap) 49
  clear hi hb hj
  generalize d.length = L at *
  go_enter Tryd.func43, Tryd.ntmps43
  go_wp2_with fail
  generalize (w.alloc _).alloc _ = W at *
  refine (C.out _).mono ?_
  rintro e w2 ⟨rfl, hww⟩; subst hww
  have t1 := BO.c1
  have t2 := BO.c2
  have BH := hid BO
  clear BO
  go_wp2_with (go_at_call 29; refine (F.out _ BH.out.lo).mono ?_; rintro e w3 ⟨rfl, hb3⟩; have B3 := BH.out.low hb3; clear t1 t2 hb3; have u1 := B3.c1; have u2 := B3.c2; have u3 := B3.c3; have u4 := B3.c4; have u5 := B3.f3; have u6 := B3.f4; have HB := hid B3.lo; clear B3 BH)
  (try simp only [Exit.inBlock, Exit.then])
  refine bodyPost_ret (v := .tuple #[.agg #[.int .i64 m, .slice a L cap], .int .i64 54]) ?_ rfl ⟨rfl, below_set (below_set HB.out _ _ _ (Nat.le_succ _)) _ _ _ (Nat.le_succ _)⟩
  rw [results_cell_tmp rfl]
  go_simp
set_option maxHeartbeats 4000000 in
theorem rdrop_bad (m : Int) (a : Option Addr) (L cap : Nat) (s : ByteArray) (w : World) (hs : s.size ≤ maxLen) (hb : badB s = true) : Calls Tryd.prog 44 #[.agg #[.int .i64 m, .slice a L cap], .string s] w fun e w' => e = .returned (.tuple #[.agg #[.int .i64 m, .slice a L cap], .int .i64 0, .int .i64 51]) ∧ Below w.heap.size w w' := by
  have C := hid (fun W => rbad_any s W hs)
  rw [hb] at C
  have BO := Bp.mk2 w m (.slice a L cap) 49
  go_enter Tryd.func44, Tryd.ntmps44
  go_wp2_with fail
  generalize (w.alloc _).alloc _ = W at *
  refine (C.out _).mono ?_
  rintro e w2 ⟨rfl, hww⟩; subst hww
  have t1 := BO.c1
  have t2 := BO.c2
  have t3 := BO.c3
  have t4 := BO.c4
  have t5 := BO.f3
  have t6 := BO.f4
  have HB := hid BO.lo
  clear BO
  go_wp2_with fail
  (try simp only [Exit.inBlock, Exit.then])
  refine bodyPost_ret (v := .tuple #[.agg #[.int .i64 m, .slice a L cap], .int .i64 0, .int .i64 51]) ?_ rfl ⟨rfl, below_set (below_set HB.out _ _ _ (Nat.le_succ _)) _ _ _ (Nat.le_succ _)⟩
  rw [results_cell_tmp3 rfl]
  go_simp
set_option maxHeartbeats 4000000 in
theorem rdrop_gone (m : Int) (a : Option Addr) (cap : Nat) (d : List Dr) (s : ByteArray) (w : World) (hi : ItD w a cap d) (hl : d.length ≤ 65536) (hb : badB s = false) (hj : findD d s = -1) : Calls Tryd.prog 44 #[.agg #[.int .i64 m, .slice a d.length cap], .string s] w fun e w' => e = .returned (.tuple #[.agg #[.int .i64 m, .slice a d.length cap], .int .i64 0, .int .i64 54]) ∧ Below w.heap.size w w' := by
  have C := hid (fun W => rbad_any s W (maxLen_of hb))
  rw [hb] at C
  have F := hid (fun W h => findW (w := w) (W := W) m s hi hl h)
  rw [hj] at F
  have BO := Bp.mk2 w m (.slice a d.length cap) 49
  clear hi hb hj
  generalize d.length = L at *
  go_enter Tryd.func44, Tryd.ntmps44
  go_wp2_with fail
  generalize (w.alloc _).alloc _ = W at *
  refine (C.out _).mono ?_
  rintro e w2 ⟨rfl, hww⟩; subst hww
  have t1 := BO.c1
  have t2 := BO.c2
  have BH := hid BO
  clear BO
  go_wp2_with (go_at_call 29; refine (F.out _ BH.out.lo).mono ?_; rintro e w3 ⟨rfl, hb3⟩; have B3 := BH.out.low hb3; clear t1 t2 hb3; have u1 := B3.c1; have u2 := B3.c2; have u3 := B3.c3; have u4 := B3.c4; have u5 := B3.f3; have u6 := B3.f4; have HB := hid B3.lo; clear B3 BH)
  (try simp only [Exit.inBlock, Exit.then])
  refine bodyPost_ret (v := .tuple #[.agg #[.int .i64 m, .slice a L cap], .int .i64 0, .int .i64 54]) ?_ rfl ⟨rfl, below_set (below_set HB.out _ _ _ (Nat.le_succ _)) _ _ _ (Nat.le_succ _)⟩
  rw [results_cell_tmp3 rfl]
  go_simp
end Go.Proofs.YtdhjoimiejdgbabDoor.L
