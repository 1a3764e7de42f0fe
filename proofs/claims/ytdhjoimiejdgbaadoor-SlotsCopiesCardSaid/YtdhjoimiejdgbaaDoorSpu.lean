import Derived.Test.YtdhjoimiejdgbaaDoorFre
namespace Go.Proofs.YtdhjoimiejdgbaaDoor.L
open Go.RowKit Bs Go.Maps
set_option linter.unusedVariables false
/-- Nothing has turned but in the table's blocks, and its new ones are new. -/
def Mv (F F' : List Nat) (w w' : World) : Prop := Bx F w.heap.size w w' ∧ ∀ k ∈ F', k ∈ F ∨ w.heap.size ≤ k
theorem Mv.refl (F : List Nat) (w : World) : Mv F F w w := ⟨Bx.refl _ _ _, fun k hk => Or.inl hk⟩
theorem Mv.drewN (F : List Nat) (w : World) (n : Nat) : Mv F F w (w.drewN n) := ⟨(Bx.refl _ _ _).drewN n, fun k hk => Or.inl hk⟩
theorem Tb.drewN {w : World} {p m : Nat} {l : List Rw} {F : List Nat} (h : Tb w p m l F) (n : Nat) : Tb (w.drewN n) p m l F := h.frame (fun _ _ => rfl)
theorem withR_set (l : List Rw) (x : Rw) : (withR l).set (low l) x = wrt l (low l) x := by
  unfold withR wrt
  have := low_le l
  split
  · rfl
  · have e : low l = l.length := by omega
    rw [e, List.set_append_right _ _ (Nat.le_refl _)]
    simp
theorem withR_len (l : List Rw) : low l < (withR l).length := by
  unfold withR
  have := low_le l
  split
  · assumption
  · simp; omega
theorem withR_le {m : Nat} {l : List Rw} (h : OkS m l) (hc : cnt l < m) : (withR l).length ≤ 65536 := by
  have := h.mm
  have := h.le
  have := low_cnt l
  have := low_le l
  unfold withR
  split
  · omega
  · simp; omega
set_option maxHeartbeats 1000000 in
theorem put_nil (s : ByteArray) (v : Int) (w : World) : Calls Tryd.prog 35 #[.pointer none, .string s, .int .i64 v] w fun e w' => e = .returned (.tuple #[.int .i64 0, .int .i64 1]) ∧ w' = w := by
  have C := hid (check_nil s w)
  go_enter Tryd.func35, Tryd.ntmps35
  go_wp2_with (go_at_call 72; refine C.out.mono ?_; rintro e w2 ⟨rfl, hww⟩; subst hww)
  go_ret2
  exact ⟨rfl, rfl⟩
set_option maxHeartbeats 1000000 in
theorem put_bad (p : Nat) (s : ByteArray) (v : Int) (w : World) (hs : s.size ≤ maxLen) (h : badB s = true) : Calls Tryd.prog 35 #[.pointer (some ⟨p, 0, none⟩), .string s, .int .i64 v] w fun e w' => e = .returned (.tuple #[.int .i64 0, .int .i64 51]) ∧ w' = w := by
  have C := hid (check_bad p s w hs h)
  clear h
  go_enter Tryd.func35, Tryd.ntmps35
  go_wp2_with (go_at_call 72; refine C.out.mono ?_; rintro e w2 ⟨rfl, hww⟩; subst hww)
  go_ret2
  exact ⟨rfl, rfl⟩
set_option maxHeartbeats 1000000 in
theorem put_there (p m i : Nat) (l : List Rw) (F : List Nat) (s : ByteArray) (v : Int) (w : World) (h : Tb w p m l F) (hb : badB s = false) (hi : isT l i = true) (hs : nm l i = s) : Calls Tryd.prog 35 #[.pointer (some ⟨p, 0, none⟩), .string s, .int .i64 v] w fun e w' => e = .returned (.tuple #[.int .i64 0, .int .i64 52]) ∧ w' = w := by
  have C := hid (check_ok p s w hb)
  obtain ⟨mb, rs, ks, D, ws, h1, h2, rfl⟩ := h
  have c1 := h1.c1
  have HM := hid h1.hm
  obtain ⟨hh, hat⟩ := h2.mo.yes hi
  rw [hs] at hh hat
  have HAT := hid hat
  have HK := hid (keyS_of (maxLen_of hb))
  clear h1 h2 hat hb hi hs
  go_enter Tryd.func35, Tryd.ntmps35
  go_wp2_with (first
    | (go_at_call 72; refine C.out.mono ?_; rintro e w2 ⟨rfl, hww⟩; subst hww)
    | (at_lookup; refine wpList_lookup_own_ok_int _ rfl _ _ 76 rfl 9 3 .i64 keyS Tryd.underlying76 Tryd.underlying3 (zeroI _) mb 65536 D rfl HM.out _ _ rfl HK.out ?_; intro c hat hwc; obtain rfl := HAT.out c hat; clear hat hwc))
  go_ret2
  exact ⟨rfl, rfl⟩
set_option maxHeartbeats 1000000 in
theorem put_full (p m : Nat) (l : List Rw) (F : List Nat) (s : ByteArray) (v : Int) (w : World) (h : Tb w p m l F) (hb : badB s = false) (hn : NoN l s) (hc : cnt l = m) : Calls Tryd.prog 35 #[.pointer (some ⟨p, 0, none⟩), .string s, .int .i64 v] w fun e w' => e = .returned (.tuple #[.int .i64 0, .int .i64 53]) ∧ ∃ n, w' = w.drewN n := by
  have C := hid (check_ok p s w hb)
  have hmm := h.ok.mm
  obtain ⟨mb, rs, ks, D, ws, h1, h2, rfl⟩ := h
  have c1 := h1.c1
  have c0 := h1.c0
  have HM := hid h1.hm
  obtain ⟨hh, hat⟩ := h2.mo.no hn
  have HAT := hid hat
  have HK := hid (keyS_of (maxLen_of hb))
  have hlen := h1.hm.drew.len (t := 76) (e := 3) Tryd.underlying76 3
  rw [h2.mo.sz, hc] at hlen
  clear h1 h2 hat hb hn
  go_enter Tryd.func35, Tryd.ntmps35
  go_wp2_with (first
    | (go_at_call 72; refine C.out.mono ?_; rintro e w2 ⟨rfl, hww⟩; subst hww)
    | (at_lookup; refine wpList_lookup_own_ok_int _ rfl _ _ 76 rfl 9 3 .i64 keyS Tryd.underlying76 Tryd.underlying3 (zeroI _) mb 65536 D rfl HM.out _ _ rfl HK.out ?_; intro c hat hwc; obtain rfl := HAT.out c hat; clear hat hwc))
  go_region
  go_wp2_with fail
  go_ret2
  exact ⟨rfl, _, rfl⟩
end Go.Proofs.YtdhjoimiejdgbaaDoor.L
