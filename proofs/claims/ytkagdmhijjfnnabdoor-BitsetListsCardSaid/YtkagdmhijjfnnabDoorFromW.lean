import Derived.Test.YtkagdmhijjfnnabDoorWds
namespace Go.Proofs.YtkagdmhijjfnnabDoor
open Go.RowKit Bs
/-- A slice of words of one's own. -/
structure WOwn (w : World) (v : Value) (g cap : Nat) (us : List Nat) (base : Nat) : Prop where
  sl : WSlice w v g cap us
  base : base ≤ g
  fz : ∀ j, w.frozen? ⟨g, j, none⟩ = false
theorem own_words {w : World} {base : Nat} {v : Value} {n : Nat} {us : List Nat} (h : w.ownsRow base 56 1 v n (vals us)) (hv : v ≠ .slice none 0 0) : ∃ g cap, WOwn w v g cap us base := by
  obtain ⟨hl, h⟩ := h
  rw [length_vals, Nat.mul_one] at hl
  rcases h with ⟨rfl, _⟩ | ⟨g, cap, cur, rfl, hg, hh, hn, _, hs, ht⟩
  · exact absurd rfl hv
  · refine ⟨g, cap, ⟨⟨by rw [hl], lt_of_block hh, fun j hj => ?_⟩, hg, fun j => frozen_of_row w g j _ _ hh⟩⟩
    rw [Nat.mul_one] at ht
    rw [cell_of_row w g j _ _ _ hh]
    have e1 : (cur.toList.take n)[j]? = cur.toList[j]? := by rw [List.getElem?_take, if_pos (by omega)]
    rw [ht] at e1
    rw [← Array.getElem?_toList, ← e1]
    simp [vals, List.getElem?_eq_getElem hj]
theorem owns_block59 {w : World} {base : Nat} {v : Value} {n : Nat} {xs : List Value} (h : w.ownsRow base 56 1 v n xs) : ∀ k, v.ownBlock = some k → base ≤ k := by
  obtain ⟨_, h⟩ := h
  intro k hk
  rcases h with ⟨rfl, _⟩ | ⟨g, cap, cur, rfl, hg, _⟩
  · cases hk
  · simp [Value.ownBlock] at hk; omega
set_option maxRecDepth 100000 in
set_option maxHeartbeats 1000000 in
/-- words: a copy. -/
theorem copy_own (v : Value) (g cap : Nat) (us : List Nat) (w : World) (h : WSlice w v g cap us) (hL : us.length ≤ 2000) :
    Calls Tryd.prog 58 #[v] w fun e w' => ∃ v', e = .returned v' ∧ w'.ownsRow w.heap.size 56 1 v' us.length (vals us) ∧ v' ≠ .slice none 0 0 ∧ Below w.heap.size w w' := by
  obtain ⟨i0, hi0, hz0, hz1, hz2⟩ := info59
  have hv := h.hv
  subst hv
  have hb0 := lowAlloc w (.cells #[] 56)
  have HSRC := hid (h.low hb0).src
  have HB0 := hid hb0
  clear h hb0
  go_enter Tryd.func58, Tryd.ntmps58
  go_wp2_with (at_builtin; refine wpList_append_own _ rfl _ _ 36 rfl w.heap.size 56 i0 (.int .u64 0) 1 8 Tryd.underlying36 hi0 hz0 hz1 hz2 rfl (by decide) _ 0 [] rfl (World.ownsRow_made w #[] 0 (Nat.le_refl _) (by unfold maxLen; omega) rfl) ⟨g, 0, none⟩ us.length cap (vals us) rfl (by rw [length_vals, Nat.mul_one]) HSRC.out (one_vals us) ?c3 ?c4 ?c5 ?_)
  case c3 => unfold maxLen; omega
  case c4 => omega
  case c5 => simp
  intro v' w1 hown hgrow hnil
  have hb1 : Below w.heap.size w w1 := HB0.out.grown hgrow (by simp) (fun k hk => by simp [Value.ownBlock] at hk; omega)
  have hne : v' ≠ .slice none 0 0 := hnil
  have HO := hid hown
  have HB1 := hid hb1
  have HN := hid hne
  clear hown hgrow hnil hb1 hne
  go_wp2_with fail
  go_ret
  exact ⟨_, rfl, HO.out, HN.out, HB1.out⟩
/-- copy outside a region: the row g alone turns. -/
theorem wpList_copy_chg {P : Program} {w : World} {ops : Array Oper} {rest : List Oper} {o : Oper} {a : Act} {Q : Exit → Act → World → Prop} (hgd : o.guard = none) (d s : Operand) (dT sT : TypeId)
    (ho : o.op = .call { callee := .builtin .copy, args := #[d, s], argTypes := #[dT, sT] }) (elem : TypeId) (hu : P.underlying dT = some (.slice elem)) (hsz : (P.info? elem).map (·.size) = some 1)
    (dp sp : Option Addr) (dLen dCap sLen sCap : Nat) (hd : a.eval d = .slice dp dLen dCap) (hs : a.eval s = .slice sp sLen sCap)
    (g off : Nat) (cur : List Value) (t : TypeId) (hg : w.heap[g]? = some (.cells cur.toArray t (0, 0))) (cs : List Value) (hn : cs.length = Nat.min sLen dLen)
    (hpos : 0 < cs.length → dp = some ⟨g, off, none⟩ ∧ ∃ ad, sp = some ad ∧ ∀ j v, cs[j]? = some v → w.cell? (ad.add j) = some v)
    (hfit : off + cs.length ≤ cur.length) (h1 : ∀ v ∈ cs, v.oneCell' = true)
    (h : ∀ w', Hid (w'.heap[g]? = some (.cells (splice cur off cs).toArray t (0, 0))) → Hid (Chg g w w') → wpList P ops Q rest (a.put o.dst (goInt cs.length)) w') :
    wpList P ops Q (o :: rest) a w := by
  by_cases h0 : cs.length = 0
  · obtain rfl : cs = [] := List.eq_nil_of_length_eq_zero h0
    refine wpList_copy_nothing hgd d s dT sT ho elem hu hsz dp sp dLen dCap sLen sCap hd hs (by simpa using hn.symm) ?_
    exact h w (show _ = _ by simpa [splice] using hg) (Chg.refl _ _)
  · obtain ⟨rfl, ad, rfl, hsrc⟩ := hpos (by omega)
    refine wpList_copy_own hgd d s dT sT ho elem hu hsz g off dLen dCap ad sLen sCap hd hs cur.toArray t hg cs hn hsrc (by simpa using hfit) h1 ?_
    exact h _ (show _ = _ by simpa [splice] using setRow_heap w g _ _ t _ hg) (show Chg g w _ from ⟨rfl, rfl, rfl, by simp [World.setRow], fun k _ hk => setRow_other w g k _ hk⟩)
set_option maxRecDepth 100000 in
set_option maxHeartbeats 1000000 in
theorem fromw_no (N : Int) (v : Value) (w : World) (hN : ¬ (0 ≤ N ∧ N ≤ 65536)) : Calls Tryd.prog 59 #[.int .i64 N, v] w fun e w' => e = .returned (.tuple #[.pointer none, .int .i64 11]) ∧ w' = w := by
  have HN := hid hN
  clear hN
  go_enter Tryd.func59, Tryd.ntmps59
  go_wp2_with fail
  refine (new_no _ _ HN.out).mono ?_
  rintro e w1 ⟨rfl, hww⟩
  subst hww
  go_wp2_with fail
  go_ret2
  exact ⟨rfl, rfl⟩
set_option maxRecDepth 100000 in
set_option maxHeartbeats 1000000 in
theorem fromw_len (n m cap g : Nat) (w : World) (hn : n ≤ 65536) (hm : m ≠ nw n) : Calls Tryd.prog 59 #[.int .i64 n, .slice (some ⟨g, 0, none⟩) m cap] w fun e w' => e = .returned (.tuple #[.pointer none, .int .i64 14]) ∧ Below w.heap.size w w' := by
  have hne : ((m : Int) != (nw n : Int)) = true := by rw [bne_iff_ne]; omega
  clear hm
  go_enter Tryd.func59, Tryd.ntmps59
  go_wp2_with fail
  refine (new_ok n _ hn).mono ?_
  rintro e w1 ⟨rfl, hs, hb⟩
  have hc1 := hs.c1
  rw [List.length_replicate] at hc1
  have HB := hid hb
  clear hs hb
  obtain ⟨K, hK⟩ : ∃ K, K = nw n := ⟨_, rfl⟩
  rw [← hK] at hc1 hne
  clear hK
  go_wp2_with fail
  go_ret2
  exact ⟨rfl, HB.out⟩
set_option maxRecDepth 100000 in
set_option maxHeartbeats 1000000 in
theorem fromw_core (n cap g : Nat) (us : List Nat) (v : Value) (w : World) (hn : n ≤ 65536) (h : WSlice w v g cap us) (hl : us.length = nw n) (wd : Wd us) (c : Bool) (hc : decide (cutW n us ≠ us) = c) :
    Calls Tryd.prog 59 #[.int .i64 n, v] w fun e w' => e = .returned (.tuple #[if c then .pointer none else .pointer (some ⟨w.heap.size + 1, 0, none⟩), .int .i64 (if c then 12 else 0)]) ∧ (c = false → IsSet w' (w.heap.size + 1) w.heap.size n us) ∧ Below w.heap.size w w' := by
  have hv := h.hv
  subst hv
  have HI := hid h
  have HC := hid hc
  have HWD := hid wd
  have HLL := hid hl
  clear h hc wd
  have hle : us.length ≤ 1024 := by rw [hl]; unfold nw; omega
  clear hl
  go_enter Tryd.func59, Tryd.ntmps59
  go_wp2_with fail
  refine (new_ok n _ hn).mono ?_
  rintro e w1 ⟨rfl, hs, hb⟩
  have hc1 := hs.c1
  have hc0 := hs.c0
  rw [List.length_replicate, ← HLL.out] at hc1
  have h1 := HI.out.low hb
  have hrow := hs.hq
  have hmin : (vals us).length = Nat.min us.length us.length := by rw [length_vals]; exact (Nat.min_self _).symm
  have HS := hid hs
  have HB := hid hb
  have HMIN := hid hmin
  have HSRC := hid h1.src
  have HROW := hid hrow
  clear hs hb h1 hrow hmin
  go_wp2_with (refine wpList_copy_chg rfl (.tmp 27) (.tmp 28) 36 36 rfl 56 Tryd.underlying36 (by kernel_rfl) (some ⟨w.heap.size, 0, none⟩) (some ⟨g, 0, none⟩) us.length us.length us.length cap rfl rfl w.heap.size 0 (vals (List.replicate (nw n) 0)) 56 HROW.out (vals us) HMIN.out (fun _ => ⟨rfl, _, rfl, HSRC.out⟩) (by simp [length_vals]; rw [HLL.out]; exact Nat.le_refl _) (one_vals us) ?_; intro w4 hg4 hb4)
  have e4 := hg4.out
  rw [splice_wid] at e4
  have ew : widW (nw n) us = us := by unfold widW; rw [HLL.out]; simp
  rw [ew] at e4
  have hk := hb4.out
  have d0 := (hk.cell (p := ⟨w.heap.size + 1, 0, none⟩) (by show w.heap.size + 1 ≠ w.heap.size; omega) HS.out.plt).trans hc0
  have d1 := (hk.cell (p := ⟨w.heap.size + 1, 1, none⟩) (by show w.heap.size + 1 ≠ w.heap.size; omega) HS.out.plt).trans hc1
  have HCUT := hid (cut_any (w.heap.size + 1) w.heap.size n us w4 d0 d1 e4 hn HLL.out HWD.out)
  rw [HC.out] at HCUT
  have HK := hid hk
  have E4 := hid e4
  clear e4 hk ew hg4 hb4 hc0 hc1 d0 d1
  cases c
  · go_wp2_with (go_at_call 54; refine HCUT.out.mono ?_; rintro e w5 ⟨rfl, g5, r5⟩)
    go_ret2
    have ec : cutW n us = us := by simpa using HC.out
    rw [ec] at r5
    have hk5 := HK.out.trans g5
    refine ⟨rfl, HS.out.put hk5 r5 (by rw [List.length_replicate]; exact HLL.out) HWD.out (fun i hi => ?_), Chg.below HB.out hk5 (Nat.le_refl _) HB.out.size⟩
    rw [← ec, mem_cutW n us HLL.out]
    simp; omega
  · go_wp2_with (go_at_call 54; refine HCUT.out.mono ?_; rintro e w5 ⟨rfl, g5, r5⟩)
    go_ret2
    exact ⟨rfl, Chg.below HB.out (HK.out.trans g5) (Nat.le_refl _) HB.out.size⟩
theorem fromw_ok (n cap g : Nat) (us : List Nat) (v : Value) (w : World) (hn : n ≤ 65536) (h : WSlice w v g cap us) (hl : us.length = nw n) (wd : Wd us) (hc : cutW n us = us) :
    Calls Tryd.prog 59 #[.int .i64 n, v] w fun e w' => e = .returned (.tuple #[.pointer (some ⟨w.heap.size + 1, 0, none⟩), .int .i64 0]) ∧ IsSet w' (w.heap.size + 1) w.heap.size n us ∧ Below w.heap.size w w' := by
  refine (fromw_core n cap g us v w hn h hl wd false (by simpa using hc)).mono ?_
  rintro e w' ⟨rfl, a, b⟩
  exact ⟨rfl, a rfl, b⟩
theorem fromw_place (n cap g : Nat) (us : List Nat) (v : Value) (w : World) (hn : n ≤ 65536) (h : WSlice w v g cap us) (hl : us.length = nw n) (wd : Wd us) (hc : cutW n us ≠ us) :
    Calls Tryd.prog 59 #[.int .i64 n, v] w fun e w' => e = .returned (.tuple #[.pointer none, .int .i64 12]) ∧ Below w.heap.size w w' := by
  refine (fromw_core n cap g us v w hn h hl wd true (by simpa using hc)).mono ?_
  rintro e w' ⟨rfl, _, b⟩
  exact ⟨rfl, b⟩
theorem fromw_long (n cap g : Nat) (us : List Nat) (v : Value) (w : World) (hn : n ≤ 65536) (h : WSlice w v g cap us) (hl : us.length ≠ nw n) :
    Calls Tryd.prog 59 #[.int .i64 n, v] w fun e w' => e = .returned (.tuple #[.pointer none, .int .i64 14]) ∧ Below w.heap.size w w' := by
  rw [h.hv]
  exact fromw_len n us.length cap g w hn hl
theorem set_ws {w : World} {v : Value} {g cap base l y : Nat} {us : List Nat} {z : Int} (h : WOwn w v g cap us base) (hl : l < us.length) (hz : z = ((y : Nat) : Int)) : WSlice (w.setCell ⟨g, l, none⟩ (.int .u64 z)) (.slice (some ⟨g, 0, none⟩) us.length cap) g cap (us.set l y) := by
  refine ⟨by rw [List.length_set], by simp; exact h.sl.hg, fun j hj => ?_⟩
  rw [List.length_set] at hj
  by_cases e : l = j
  · subst e
    rw [World.cell?_setCell_same _ _ _ (h.sl.hc l hl), hz]
    simp [hl]
  · rw [World.cell?_setCell_other _ _ _ _ (by intro c; injection c with _ c2; exact e c2), h.sl.hc j hj]
    simp [e]
theorem cut_tidy (n : Nat) (us : List Nat) (hl : us.length = nw n) (wd : Wd us) (ht : Tidy n us) : cutW n us = us := by
  apply list_ext_getD
  · exact length_cutW n us
  · intro i _
    apply word_ext _ _ ((wd.cutW n).getD i) (wd.getD i)
    intro b hb
    rw [← mem_at _ _ _ hb, ← mem_at _ _ _ hb, mem_cutW n us hl]
    by_cases h : 64 * i + b < n
    · simp [h]
    · rw [ht _ (by omega)]; rfl
theorem cut_not (n : Nat) (us : List Nat) (hl : us.length = nw n) (k : Nat) (hk : n ≤ k) (hm : mem us k = true) : cutW n us ≠ us := by
  intro c
  have := mem_cutW n us hl k
  rw [c, hm] at this
  simp at this
  omega
end Go.Proofs.YtkagdmhijjfnnabDoor
