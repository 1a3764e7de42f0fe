import Derived.Test.YtfkijmmflpnncaaDoorMgAH
import Derived.Test.YtfkijmmflpnncaaDoorSdrT
namespace Go.Proofs.YtfkijmmflpnncaaDoor.LT
open L
open Go.RowKit Bs Go.Maps
set_option linter.unusedVariables false
theorem results_mid {fn : Func} {p u t : Tmp} {ty : TypeId} (h : fn.results = #[.tmp u, .cell p ty, .tmp t]) (tmps : Array Value) (P : Program) (w : World) :
    (results fn tmps).run P w = ((asAddr (tmps.getD p undef)).run P w).andThen fun a w₁ => ((loadVar ty a).run P w₁).andThen fun v w₂ => .ok (.tuple #[tmps.getD u undef, v, tmps.getD t undef]) w₂ := by
  simp only [results, h]
  simp [Sem.run_bind, Result.andThen]
theorem set2_low {w X : World} (h : Below w.heap.size w X) (a b : Value) : Below w.heap.size w (((X.setCell ⟨w.heap.size, 0, none⟩ a).setCell ⟨w.heap.size, 1, none⟩ b).drew) := ((h.setCell (p := ⟨w.heap.size, 0, none⟩) (Nat.le_refl _) a).setCell (p := ⟨w.heap.size, 1, none⟩) (Nat.le_refl _) b).drew
set_option maxHeartbeats 1000000 in
theorem find_yes (p m i : Nat) (l : List Rw) (F : List Nat) (s : ByteArray) (w : World) (h : Tb w p m l F) (hi : isT l i = true) (hs : nm l i = s) : Calls Tryd.prog 18 #[.pointer (some ⟨p, 0, none⟩), .string s] w fun e w' => e = .returned (.tuple #[.int .i64 (i : Int), .agg #[.int .i64 (vlu l i).1, .string (vlu l i).2], .bool true]) ∧ Below w.heap.size w w' := by
  have hsz := h.ok.sz i
  have hle := Nat.le_trans h.ok.le h.ok.mm
  have hpw := h.lt p h.mem
  have HT := hid h
  clear h
  have LX := hid (belowA w (.cells #[.int .i64 0, .string ⟨#[]⟩] 29))
  have hXs : w.heap.size < (w.alloc (.cells #[.int .i64 0, .string ⟨#[]⟩] 29)).heap.size := by simp
  have hX0 : (w.alloc (.cells #[.int .i64 0, .string ⟨#[]⟩] 29)).cell? ⟨w.heap.size, 0, none⟩ = some (.int .i64 0) := by simp [go_sem]
  have hX1 : (w.alloc (.cells #[.int .i64 0, .string ⟨#[]⟩] 29)).cell? ⟨w.heap.size, 1, none⟩ = some (.string ⟨#[]⟩) := by simp [go_sem]
  have fX0 : (w.alloc (.cells #[.int .i64 0, .string ⟨#[]⟩] 29)).frozen? ⟨w.heap.size, 0, none⟩ = false := by simp [go_sem]
  have fX1 : (w.alloc (.cells #[.int .i64 0, .string ⟨#[]⟩] 29)).frozen? ⟨w.heap.size, 1, none⟩ = false := by simp [go_sem]
  obtain ⟨mb, rs, ks, D, ws, h1, h2, rfl⟩ := HT.out.low LX.out
  have c1 := h1.c1
  have c2 := h1.c2
  have hil := isT_lt hi
  obtain ⟨g, cap, rfl, hg, r0, r1, r2⟩ := h1.rows hil
  have HM := hid h1.hm
  obtain ⟨hh, hat⟩ := h2.mo.yes hi
  rw [hs] at hh hat hsz r0
  have HAT := hid hat
  have HK := hid (keyS_of (show s.size ≤ maxLen by unfold maxLen; omega))
  clear h1 h2 hat hi hs hsz
  generalize l.length = L at *
  generalize vlu l i = v at *
  go_enter Tryd.func18, Tryd.ntmps18
  go_wp2_with (at_lookup; refine wpList_lookup_own_ok_int _ rfl _ _ 68 rfl 9 3 .i64 keyS Tryd.underlying68 Tryd.underlying3 (zeroI _) mb 65536 D rfl HM.out _ _ rfl HK.out ?_; intro c hat hwc; obtain rfl := HAT.out c hat; clear hat hwc)
  go_region
  go_wp2_with fail
  (try simp only [Exit.inBlock, Exit.then])
  refine bodyPost_ret (v := .tuple #[.int .i64 (i : Int), .agg #[.int .i64 v.1, .string v.2], .bool true]) ?_ rfl ⟨rfl, (belowA w _).drew⟩
  rw [results_mid rfl]
  go_simp
/-- No name stands in the slot. -/
def NoS (l : List Rw) (i : Int) : Prop := ∀ j : Nat, i = j → isT l j = false
theorem slot_or (l : List Rw) (i : Int) : NoS l i ∨ ∃ j : Nat, i = j ∧ isT l j = true := by
  by_cases h : ∃ j : Nat, i = j ∧ isT l j = true
  · exact Or.inr h
  · left
    intro j hj
    cases e : isT l j
    · rfl
    · exact absurd ⟨j, hj, e⟩ h
set_option maxHeartbeats 2000000 in
theorem at_no (p m : Nat) (l : List Rw) (F : List Nat) (i : Int) (w : World) (h : Tb w p m l F) (hi : NoS l i) : Calls Tryd.prog 20 #[.pointer (some ⟨p, 0, none⟩), .int .i64 i] w fun e w' => e = .returned (.tuple #[.string ByteArray.empty, .agg #[.int .i64 0, .string ByteArray.empty], .bool false]) ∧ Below w.heap.size w w' := by
  have hpw := h.lt p h.mem
  have HT := hid h
  have hle := Nat.le_trans h.ok.le h.ok.mm
  clear h
  have LX := hid (belowA w (.cells #[.int .i64 0, .string ⟨#[]⟩] 29))
  have hXs : w.heap.size < (w.alloc (.cells #[.int .i64 0, .string ⟨#[]⟩] 29)).heap.size := by simp
  have hX0 : (w.alloc (.cells #[.int .i64 0, .string ⟨#[]⟩] 29)).cell? ⟨w.heap.size, 0, none⟩ = some (.int .i64 0) := by simp [go_sem]
  have hX1 : (w.alloc (.cells #[.int .i64 0, .string ⟨#[]⟩] 29)).cell? ⟨w.heap.size, 1, none⟩ = some (.string ⟨#[]⟩) := by simp [go_sem]
  have fX0 : (w.alloc (.cells #[.int .i64 0, .string ⟨#[]⟩] 29)).frozen? ⟨w.heap.size, 0, none⟩ = false := by simp [go_sem]
  have fX1 : (w.alloc (.cells #[.int .i64 0, .string ⟨#[]⟩] 29)).frozen? ⟨w.heap.size, 1, none⟩ = false := by simp [go_sem]
  have S := hid (span_any p m l F _ (HT.out.low LX.out))
  obtain ⟨mb, rs, ks, D, ws, h1, h2, rfl⟩ := HT.out.low LX.out
  have LY := hid (show ∀ o1 o2 : Obj, Below w.heap.size w ((w.alloc o1).alloc o2).drew from fun o1 o2 => ((belowA w o1).alloc (by simp) o2).drew)
  by_cases h0 : i < 0
  · clear hi h1 h2
    go_enter Tryd.func20, Tryd.ntmps20
    go_wp2_with fail
    go_region
    go_wp2_with fail
    (try simp only [Exit.inBlock, Exit.then])
    refine bodyPost_ret (v := .tuple #[.string ByteArray.empty, .agg #[.int .i64 0, .string ByteArray.empty], .bool false]) ?_ rfl ⟨rfl, LY.out _ _⟩
    rw [results_mid rfl]
    go_simp
    rfl
  · obtain ⟨j, rfl⟩ : ∃ j : Nat, i = j := ⟨i.toNat, by omega⟩
    have hj := hi j rfl
    by_cases hl : j < l.length
    · obtain ⟨g, cap, rfl, hg, r0, r1, r2⟩ := h1.rows hl
      have c2 := h1.c2
      have en : nm l j = ⟨#[]⟩ := isT_no.1 hj
      rw [en] at r0
      clear h1 h2 hi hj en r1 r2
      generalize l.length = L at *
      go_enter Tryd.func20, Tryd.ntmps20
      go_wp2_with (go_at_call 41; refine S.out.mono ?_; rintro e w2 ⟨rfl, hww⟩; replace hww := hww.symm; subst hww)
      go_region
      go_wp2_with fail
      (try simp only [Exit.inBlock, Exit.then])
      refine bodyPost_ret (v := .tuple #[.string ByteArray.empty, .agg #[.int .i64 0, .string ByteArray.empty], .bool false]) ?_ rfl ⟨rfl, LY.out _ _⟩
      rw [results_mid rfl]
      go_simp
      rfl
    · clear h1 h2 hi hj
      generalize l.length = L at *
      have hl' : L ≤ j := by omega
      go_enter Tryd.func20, Tryd.ntmps20
      go_wp2_with (go_at_call 41; refine S.out.mono ?_; rintro e w2 ⟨rfl, hww⟩; replace hww := hww.symm; subst hww)
      go_region
      go_wp2_with fail
      (try simp only [Exit.inBlock, Exit.then])
      refine bodyPost_ret (v := .tuple #[.string ByteArray.empty, .agg #[.int .i64 0, .string ByteArray.empty], .bool false]) ?_ rfl ⟨rfl, LY.out _ _⟩
      rw [results_mid rfl]
      go_simp
      rfl
set_option maxHeartbeats 2000000 in
theorem at_yes (p m j : Nat) (l : List Rw) (F : List Nat) (w : World) (h : Tb w p m l F) (hj : isT l j = true) : Calls Tryd.prog 20 #[.pointer (some ⟨p, 0, none⟩), .int .i64 (j : Int)] w fun e w' => e = .returned (.tuple #[.string (nm l j), .agg #[.int .i64 (vlu l j).1, .string (vlu l j).2], .bool true]) ∧ Below w.heap.size w w' := by
  have hpw := h.lt p h.mem
  have HT := hid h
  have hle := Nat.le_trans h.ok.le h.ok.mm
  clear h
  have LX := hid (belowA w (.cells #[.int .i64 0, .string ⟨#[]⟩] 29))
  have hXs : w.heap.size < (w.alloc (.cells #[.int .i64 0, .string ⟨#[]⟩] 29)).heap.size := by simp
  have hX0 : (w.alloc (.cells #[.int .i64 0, .string ⟨#[]⟩] 29)).cell? ⟨w.heap.size, 0, none⟩ = some (.int .i64 0) := by simp [go_sem]
  have hX1 : (w.alloc (.cells #[.int .i64 0, .string ⟨#[]⟩] 29)).cell? ⟨w.heap.size, 1, none⟩ = some (.string ⟨#[]⟩) := by simp [go_sem]
  have fX0 : (w.alloc (.cells #[.int .i64 0, .string ⟨#[]⟩] 29)).frozen? ⟨w.heap.size, 0, none⟩ = false := by simp [go_sem]
  have fX1 : (w.alloc (.cells #[.int .i64 0, .string ⟨#[]⟩] 29)).frozen? ⟨w.heap.size, 1, none⟩ = false := by simp [go_sem]
  have S := hid (span_any p m l F _ (HT.out.low LX.out))
  obtain ⟨mb, rs, ks, D, ws, h1, h2, rfl⟩ := HT.out.low LX.out
  have hl := isT_lt hj
  obtain ⟨g, cap, rfl, hg, r0, r1, r2⟩ := h1.rows hl
  have c2 := h1.c2
  have en : ((nm l j).toList == []) = false := by rw [nil_size]; simpa using isT_iff.1 hj
  clear h1 h2 hj
  generalize l.length = L at *
  generalize nm l j = s at *
  generalize vlu l j = v at *
  go_enter Tryd.func20, Tryd.ntmps20
  go_wp2_with (go_at_call 41; refine S.out.mono ?_; rintro e w2 ⟨rfl, hww⟩; replace hww := hww.symm; subst hww)
  go_region
  go_wp2_with fail
  (try simp only [Exit.inBlock, Exit.then])
  refine bodyPost_ret (v := .tuple #[.string s, .agg #[.int .i64 v.1, .string v.2], .bool true]) ?_ rfl ⟨rfl, (belowA w _).drew⟩
  rw [results_mid rfl]
  go_simp
end Go.Proofs.YtfkijmmflpnncaaDoor.LT
