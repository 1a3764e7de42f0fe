import Derived.Test.YtkagdmhijjfnnaaDoorMgAV
import Derived.Maps.AppendAt
namespace Go.Proofs.YtkagdmhijjfnnaaDoor
open Go.RowKit Bs
set_option linter.unusedVariables false
set_option maxRecDepth 100000 in
set_option maxHeartbeats 2000000 in
theorem ints_own (v : Value) (zs : List Int) (w : World) (h : Holds w v zs) (hL : zs.length ≤ 17592186043904) :
    Calls Tryd.prog 67 #[v] w fun e w' => ∃ v', e = .returned v' ∧ OwnI w' w.heap.size v' zs ∧ Below w.heap.size w w' := by
  have HB := hid (lowAlloc w (.cells #[] 3))
  have H := hid (h.low HB.out)
  have O := hid (own_zero w w.heap.size rfl)
  clear h
  go_enter Tryd.func67, Tryd.ntmps67
  go_wp2_with (at_builtin; refine wpList_append_src rfl _ _ rfl w.heap.size _ [] rfl O.out _ zs rfl H.out ?c1 ?c2 ?_; rotate_left 2; intro v1 w1 o1 g1)
  case c1 => simp; omega
  case c2 => simp
  have B1 := hid (HB.out.grown g1 (by simp) (fun k hk => by have := owns_block O.out k hk; omega))
  have O1 := hid o1
  clear o1 g1 HB H O
  go_wp2_with fail
  go_ret
  exact ⟨_, rfl, O1.out, B1.out⟩
/-- A slice of words, to be read, with its room. -/
structure HoldsW (w : World) (v : Value) (us : List Nat) : Prop where
  ex : (v = .slice none 0 0 ∧ us = []) ∨ ∃ b off cap, v = .slice (some ⟨b, off, none⟩) us.length cap ∧ ∀ j, j < us.length → w.cell? ⟨b, off + j, none⟩ = some (.int .u64 ((us.getD j 0 : Nat) : Int))
theorem HoldsW.low {w w' : World} {v : Value} {us : List Nat} (h : HoldsW w v us) (k : Below w.heap.size w w') : HoldsW w' v us := by
  constructor
  rcases h.ex with h | ⟨b, off, cap, rfl, hc⟩
  · exact Or.inl h
  · exact Or.inr ⟨b, off, cap, rfl, fun j hj => (k.cell (p := ⟨b, off + j, none⟩) (block_lt_of_cell (hc j hj))).trans (hc j hj)⟩
theorem HoldsW.rd {w : World} {v : Value} {zs : List Nat} (h : HoldsW w v zs) : ∃ a cap, v = .slice a zs.length cap ∧ Rw w a zs := by
  rcases h.ex with ⟨rfl, rfl⟩ | ⟨b, off, cap, rfl, hc⟩
  · exact ⟨none, 0, rfl, Or.inl rfl⟩
  · refine ⟨_, cap, rfl, ?_⟩
    by_cases e : zs.length = 0
    · exact Or.inl e
    · exact Or.inr ⟨b, off, rfl, block_lt_of_cell (hc 0 (by omega)), hc⟩
theorem holdsw_src {w : World} {b off : Nat} {ys : List Nat} (hc : ∀ j, j < ys.length → w.cell? ⟨b, off + j, none⟩ = some (.int .u64 ((ys.getD j 0 : Nat) : Int))) : ∀ j u, (vals ys)[j]? = some u → w.cell? ((⟨b, off, none⟩ : Addr).add j) = some u := by
  intro j u hj
  unfold vals at hj
  rw [List.getElem?_map] at hj
  rcases e : ys[j]? with _ | z
  · rw [e] at hj; cases hj
  · rw [e] at hj
    simp at hj
    subst hj
    have hl : j < ys.length := by
      apply Classical.byContradiction; intro c
      rw [List.getElem?_eq_none (by omega)] at e; cases e
    rw [Go.WideShapes.add_plain]
    have := hc j hl
    rw [List.getD_eq_getElem?_getD, e] at this
    exact this
set_option maxRecDepth 100000 in
set_option maxHeartbeats 2000000 in
theorem words_own (v : Value) (us : List Nat) (w : World) (h : HoldsW w v us) (hL : us.length ≤ 17592186043904) :
    Calls Tryd.prog 36 #[v] w fun e w' => ∃ g cap, e = .returned (.slice (some ⟨g, 0, none⟩) us.length cap) ∧ WSlice w' (.slice (some ⟨g, 0, none⟩) us.length cap) g cap us ∧ w.heap.size ≤ g ∧ Below w.heap.size w w' := by
  obtain ⟨i0, hi0, hz0, hz1, hz2⟩ := info59
  have HB := hid (lowAlloc w (.cells #[] 59))
  rcases h.ex with ⟨rfl, rfl⟩ | ⟨b, off, cap, rfl, hc⟩
  · go_enter Tryd.func36, Tryd.ntmps36
    go_wp2_with (at_builtin; refine wpList_append_own_none rfl _ _ 35 rfl w.heap.size 59 i0 1 Tryd.underlying35 hi0 _ 0 [] rfl (World.ownsRow_made w #[] 0 (Nat.le_refl _) (Nat.zero_le _) rfl) rfl ?_)
    go_ret
    exact ⟨_, _, rfl, ⟨rfl, by simp, fun j hj => by cases hj⟩, Nat.le_refl _, HB.out⟩
  · have HSRC := hid (holdsw_src (fun j hj => (HB.out.cell (p := ⟨b, off + j, none⟩) (block_lt_of_cell (hc j hj))).trans (hc j hj)))
    clear h hc
    go_enter Tryd.func36, Tryd.ntmps36
    go_wp2_with (at_builtin; refine wpList_append_own _ rfl _ _ 35 rfl w.heap.size 59 i0 (.int .u64 0) 1 8 Tryd.underlying35 hi0 hz0 hz1 hz2 rfl (by decide) _ 0 [] rfl (World.ownsRow_made w #[] 0 (Nat.le_refl _) (by unfold maxLen; omega) rfl) ⟨b, off, none⟩ us.length cap (vals us) rfl (by rw [length_vals, Nat.mul_one]) HSRC.out (one_vals us) ?c3 ?c4 ?c5 ?_)
    case c3 => unfold maxLen; omega
    case c4 => omega
    case c5 => simp
    intro v' w1 hown hgrow hnil
    have hb1 : Below w.heap.size w w1 := HB.out.grown hgrow (by simp) (fun k hk => by simp [Value.ownBlock] at hk; omega)
    have hne : v' ≠ .slice none 0 0 := hnil
    obtain ⟨g, cp, ow⟩ := own_words hown hne
    have hv' := ow.sl.hv
    subst hv'
    have HO := hid ow
    have HB1 := hid hb1
    clear hown hgrow hnil hb1 hne ow
    go_wp2_with fail
    go_ret
    exact ⟨_, _, rfl, HO.out.sl, HO.out.base, HB1.out⟩
set_option maxHeartbeats 1000000 in
theorem from_no (n : Int) (v : Value) (w : World) (hn : ¬ (0 ≤ n ∧ n ≤ 65536)) :
    Calls Tryd.prog 47 #[.int .i64 n, v] w fun e w' => e = .returned (.tuple #[.pointer none, .int .i64 11]) ∧ w' = w := by
  have HN := hid (new_no n w hn)
  clear hn
  go_enter Tryd.func47, Tryd.ntmps47
  go_wp2_with (go_at_call 12; refine HN.out.mono ?_; rintro e w1 ⟨rfl, hww⟩; subst hww)
  go_ret2
  exact ⟨rfl, rfl⟩
set_option maxHeartbeats 2000000 in
theorem from_bad (n : Nat) (a : Option Addr) (cap : Nat) (zs : List Int) (w : World) (hn : n ≤ 65536) (h : Rd w a zs) (hlen : zs.length ≤ 9223372036854775807) (hz : ∃ z ∈ zs, ¬ (0 ≤ z ∧ z < n)) :
    Calls Tryd.prog 47 #[.int .i64 n, .slice a zs.length cap] w fun e w' => e = .returned (.tuple #[.pointer none, .int .i64 12]) ∧ Below w.heap.size w w' := by
  have H := hid h
  have HZ := hid hz
  clear h hz
  obtain ⟨L, hL⟩ : ∃ L, L = zs.length := ⟨_, rfl⟩
  have HL : Hid (L = zs.length) := hL
  rw [← hL] at hlen ⊢
  clear hL
  go_enter Tryd.func47, Tryd.ntmps47
  go_wp2_with (go_at_call 12; refine (new_ok n _ hn).mono ?_; rintro e w1 ⟨rfl, hs, hb⟩)
  go_loopw [20] (fun i wr => ∃ k : Nat, k ≤ L ∧ i = .int .i64 k ∧ (∃ ws, IsSet wr (w.heap.size + 1) w.heap.size n ws) ∧ Below w.heap.size w wr ∧ Hid (∀ j, j < k → 0 ≤ zs.getD j 0 ∧ zs.getD j 0 < n)) (fun i _ => L - (intOf i).toNat)
  case atStart => exact ⟨0, Nat.zero_le _, rfl, ⟨_, hs⟩, hb, hid fun j hj => by omega⟩
  case round =>
    clear hs hb
    obtain ⟨k, hk, rfl, ⟨ws, hs⟩, hb, HK⟩ := hrel
    by_cases hlt : k < L
    · rcases H.out.low hb (Nat.le_refl _) with h0 | ⟨b, off, rfl, _, hc⟩
      · have := HL.out; omega
      have hx := hc k (by rw [← HL.out]; exact hlt)
      have KK := hid (fun c j (hj : j < k + 1) => show 0 ≤ zs.getD j 0 ∧ zs.getD j 0 < n by
        by_cases e : j = k
        · rw [e]; exact c
        · exact HK.out j (by omega))
      clear hc
      generalize zs.getD k 0 = z at hx KK
      have hc0 := hs.c0
      by_cases hin : 0 ≤ z ∧ z < n
      · obtain ⟨z1, z2⟩ := hin
        obtain ⟨y, rfl⟩ : ∃ y : Nat, z = y := ⟨z.toNat, by omega⟩
        have K9 := hid (KK.out ⟨z1, z2⟩)
        have HS := hid hs
        have hyn : y < n := by omega
        clear KK HK hs
        go_wp2_with (first | (go_at_call 59; refine (inside_yes _ n y _ hc0 (by omega) (by omega)).mono ?_; rintro e w' ⟨rfl, rfl⟩) | (go_at_call 39; refine (add_in _ _ n y ws _ HS.out hyn).mono ?_; rintro e w2 ⟨rfl, ⟨ws2, hs2, hm2⟩, hg2⟩))
        go_roundw
        case rel => exact ⟨k + 1, by omega, by go_num, ⟨ws2, hs2⟩, Chg.below hb hg2 (Nat.le_refl _) hb.size, K9⟩
        case measure => simp [intOf]; omega
      · have HIN := hid hin
        have HB := hid hb
        clear KK HK hs hin hb
        go_wp2_with (go_at_call 59; refine (inside_no _ n z _ hc0 HIN.out).mono ?_; rintro e w' ⟨rfl, hww⟩; subst hww)
        go_ret2
        exact ⟨rfl, HB.out⟩
    · exfalso
      obtain ⟨z, hz, hno⟩ := HZ.out
      obtain ⟨j, hj, rfl⟩ := mem_getD.1 hz
      exact hno (HK.out j (by have := HL.out; omega))
end Go.Proofs.YtkagdmhijjfnnaaDoor
namespace Go.Proofs.YtkagdmhijjfnnaaDoor
open Go.RowKit Go.Shelf Bs
set_option linter.unusedVariables false
attribute [local go_sem] Oper.semAt_some
/-- What stands while a walk collects. -/
structure Wk (w W : World) (n : Int) (B : Nat) (pre : List Int) : Prop where
  nb : W.heap[w.heap.size]? = some (.cells #[.int .i64 n] 3 (0, 0))
  lb : ∃ v, W.heap[w.heap.size + 1]? = some (.cells #[v] 28 (0, 0)) ∧ OwnI W B v pre
  low : Below w.heap.size w W
  sz : B ≤ W.heap.size
theorem Wk.lowr {w W W' : World} {n : Int} {B : Nat} {pre : List Int} (h : Wk w W n B pre) (k : Below W.heap.size W W') : Wk w W' n B pre := by
  obtain ⟨v, h1, h2⟩ := h.lb
  exact ⟨(k.block _ (lt_of_block h.nb)).trans h.nb, ⟨v, (k.block _ (lt_of_block h1)).trans h1, own_low h2 k⟩, belowT h.low k, Nat.le_trans h.sz k.size⟩
theorem Wk.put {w W : World} {n : Int} {B : Nat} {pre : List Int} (h : Wk w W n B pre) {l : Nat} {r r' : Loop} (hl : W.heap[l]? = some (.loop r)) (hw : w.heap.size ≤ l) : Wk w (W.putObj l (.loop r')) n B pre := by
  obtain ⟨v, h1, h2⟩ := h.lb
  have ne : ∀ {k cs t f}, W.heap[k]? = some (.cells cs t f) → k ≠ l := fun hk e => by rw [e, hl] at hk; cases hk
  refine ⟨(World.putObj_heap_other (ne h.nb)).trans h.nb, ⟨v, (World.putObj_heap_other (ne h1)).trans h1, ?_⟩, ⟨h.low.os, h.low.tape, h.low.output, by simpa using h.low.size, fun k hk => (World.putObj_heap_other (by omega)).trans (h.low.block k hk)⟩, by simpa using h.sz⟩
  refine ⟨h2.1, ?_⟩
  rcases h2.2 with e | ⟨g, cap, cur, e, a1, a2, a3⟩
  · exact Or.inl e
  · exact Or.inr ⟨g, cap, cur, e, a1, (World.putObj_heap_other (ne a2)).trans a2, a3⟩
set_option maxHeartbeats 4000000 in
set_option maxRecDepth 100000 in
theorem walk_set (p q n : Nat) (S : Nat → Bool) (ms : List Int) (m : Int) (w : World) (h : SetAt w p q n S) (ht : Tab w) (hms : MsOf n S ms) (hm : (ms.length : Int) ≤ m) (hL : ms.length ≤ 65536) :
    Calls Tryd.prog 90 #[.pointer (some ⟨p, 0, none⟩), .int .i64 m] w fun e w' => ∃ v, e = .returned v ∧ OwnI w' w.heap.size v ms ∧ Below w.heap.size w w' := by
  obtain ⟨i0, hi, hz0, hz1, hz2⟩ := info3
  have hq := run_eql_walk
  have HT := hid ht
  have HMS := hid hms
  have b0 : Below w.heap.size w ((w.alloc (.cells #[.int .i64 m] 3)).alloc (.cells #[.slice none 0 0] 28)) := ((Below.refl _ w).alloc (Nat.le_refl _) _).alloc (by simp) _
  have AL := hid (all_set p q n S _ (h.low b0))
  clear ht h hms
  generalize hQ : (fun (e : Ending) (w' : World) => ∃ v, e = .returned v ∧ OwnI w' w.heap.size v ms ∧ Below w.heap.size w w') = Q
  have HQ := hid hQ
  clear hQ
  refine (callsIn_wide (n := 3)).1 ?_
  refine callsIn_of_wp_marks Tryd.func90 rfl trivial ?_ rfl
  simp only [Tryd.ntmps90, List.size_toArray, List.length_cons, List.length_nil, Nat.reduceAdd, Nat.reduceSub, Array.replicate_succ, Array.replicate_zero, List.push_toArray, List.append_toArray, List.nil_append, List.cons_append]
  gi_wp2_with (first
    | (refine ⟨trivial, ?_⟩; gi_at_call 38; refine (callsIn_wide.2 (AL.out)).mono ?_
       rintro e w3 ⟨X, v3, g, cap, ws, he, hX, hg, hgX, hbox, hsl, hwl, hwd, hM, B3⟩; unfold allB at he; subst he))
  have hs0 : ((w.alloc (.cells #[.int .i64 m] 3)).alloc (.cells #[.slice none 0 0] 28)).heap.size = w.heap.size + 2 := by simp
  have bl : ((w.alloc (.cells #[.int .i64 m] 3)).alloc (.cells #[.slice none 0 0] 28)).heap[w.heap.size + 1]? = some (.cells #[.slice none 0 0] 28 (0, 0)) := by
    have := heap_alloc_new (w.alloc (.cells #[.int .i64 m] 3)) (.cells #[.slice none 0 0] 28)
    rwa [World.size_alloc] at this
  have bn : ((w.alloc (.cells #[.int .i64 m] 3)).alloc (.cells #[.slice none 0 0] 28)).heap[w.heap.size]? = some (.cells #[.int .i64 m] 3 (0, 0)) := by
    rw [heap_alloc_old _ _ (by simp)]; exact heap_alloc_new w _
  rw [hs0] at hX hg
  have b3 := b0.trans (B3.mono b0.size)
  have K3 := hid (show Wk w w3 m w3.heap.size [] from ⟨(B3.block _ (by rw [hs0]; omega)).trans bn, ⟨_, (B3.block _ (by rw [hs0]; omega)).trans bl, World.ownsRow_nil _ _ _ _⟩, b3, Nat.le_refl _⟩)
  have ht3 := HT.out.low b3 HT.out.pos
  have emp := HMS.out.one hM
  have hv3 := hsl.hv
  subst hv3
  have hcx : w3.cell? ⟨X, 0, none⟩ = some (.slice (some ⟨g, 0, none⟩) ws.length cap) := by rw [cell_of_row w3 X 0 _ _ _ hbox]; rfl
  have hXl := lt_of_block hbox
  have HSL := hid hsl
  have HE := hid emp
  have HWD := hid hwd
  have s3 : w.heap.size + 2 ≤ w3.heap.size := by have := B3.size; rw [hs0] at this; exact this
  clear B3 b0 bl bn hs0 AL hbox b3 hM emp hsl hwd
  refine walkO (by decide) X g cap 0 ws hwl HWD.out rfl rfl ⟨hcx, HSL.out.hc, ht3⟩ hXl HSL.out.hg
    (fun pre W => Wk w W m w3.heap.size pre) (fun _ _ => False)
    ?_ ?_ ?_ K3.out (fun x a' _ => a' = { tmps := #[.pointer (some ⟨p, 0, none⟩), .int .i64 m, undef, .pointer (some ⟨w.heap.size, 0, none⟩), .slice none 0 0, .pointer (some ⟨w.heap.size + 1, 0, none⟩), .func (.func 64) #[] #[.pointer (some ⟨X, 0, none⟩)], .int .i64 x, .pointer (some ⟨p, 0, none⟩), .func (.func 64) #[] #[.pointer (some ⟨X, 0, none⟩)], .func (.func 64) #[] #[.pointer (some ⟨X, 0, none⟩)], .bool false, undef, .func (.func 64) #[] #[.pointer (some ⟨X, 0, none⟩)], .int .i64 x, undef, undef, undef, undef, undef, undef, undef, undef, undef], defers := [] }) (fun _ _ _ _ _ _ h _ => h) ?_ ?_ ?_ ?_
  · rintro pre W W' h k
    exact h.lowr k
  · rintro pre W l r r' h hl hr
    exact h.put hr (by omega)
  · rintro pre W l r r' h
    exact h.elim
  · rintro l x W K _ hK
    have HK := hid hK
    clear hK
    gi_wp2
    exact HK.out _ _ rfl (Below.refl _ _)
  · rintro l pre x a' W rfl hll ⟨r0, hr0⟩ hI hpre
    rw [← HE.out] at hpre
    have hlen : pre.length + 1 ≤ ms.length := by have := hpre.length_le; simpa using this
    obtain ⟨v, hlb, hown⟩ := hI.lb
    have hnb := hI.nb
    have hcl : W.cell? ⟨w.heap.size + 1, 0, none⟩ = some v := by rw [cell_of_row W _ 0 _ _ _ hlb]; rfl
    have HI := hid hI
    have HLB := hid hlb
    have HNB := hid hnb
    have HO := hid hown
    have HR0 := hid hr0
    have hsz := hI.sz
    have hgt : ¬ m < ((pre.length : Int) + 1) := by omega
    have hlm : pre.length + 1 ≤ 65536 := by omega
    clear hI hlb hnb hown hr0 hpre
    obtain ⟨k, hk⟩ : ∃ k, k = pre.length := ⟨_, rfl⟩
    have HKL := hid hk
    rw [← hk] at hgt hlm hlen
    have HO' : Hid (W.ownsRow w3.heap.size 3 1 v k (pre.map (Value.int .i64))) := hid (by rw [HKL.out]; exact HO.out)
    clear hk
    gi_wp2_with (gi_at_builtin; refine wpListIn_append_own _ rfl _ _ 28 rfl w3.heap.size 3 i0 (.int .i64 0) 1 8 Tryd.underlying28 hi hz0 hz1 hz2 rfl (by decide) _ _ _ rfl (HO'.out.alloc _) ⟨W.heap.size, 0, none⟩ 1 1 [.int .i64 x] rfl rfl (cell_one_new _ _ _) (fun u hu => by simp at hu; subst hu; rfl) (by unfold maxLen; omega) (by omega) (by simp; omega) ?_; intro v1 w4 o1 g1 _
                 have O4 : Hid (OwnI w4 w3.heap.size v1 (pre ++ [x])) := hid (by unfold OwnI; rw [List.length_append, List.map_append, ← HKL.out]; exact o1)
                 obtain ⟨av, cv, hv⟩ := own_form O4.out
                 rw [List.length_append, ← HKL.out] at hv
                 have hv' : v1 = .slice av (k + 1) cv := hv
                 clear hv
                 subst hv'
                 have hob : ∀ b, v.ownBlock = some b → w3.heap.size ≤ b := fun b e => (own_lt HO.out e).1
                 have bls : ∀ b, b < w3.heap.size → w4.heap[b]? = W.heap[b]? := fun b hb => (g1.block b (by simp; omega) (fun e => by have := hob b e.symm; omega)).trans ((lowAlloc W _).block b (by omega))
                 have B4 := hid bls
                 have lb4 : w4.heap[w.heap.size + 1]? = some (.cells #[v] 28 (0, 0)) := (bls _ (by omega)).trans HLB.out
                 have nb4 : w4.heap[w.heap.size]? = some (.cells #[.int .i64 m] 3 (0, 0)) := (bls _ (by omega)).trans HNB.out
                 have u0 : w4.cell? ⟨w.heap.size + 1, 0, none⟩ = some v := by rw [cell_of_row w4 _ 0 _ _ _ lb4]; rfl
                 have u1 := frozen_of_row w4 (w.heap.size + 1) 0 _ _ lb4
                 have u2 : w4.cell? ⟨w.heap.size, 0, none⟩ = some (.int .i64 m) := by rw [cell_of_row w4 _ 0 _ _ _ nb4]; rfl
                 have LB4 := hid lb4
                 have NB4 := hid nb4
                 have G1 : Hid ((W.alloc (.cells #[.int .i64 x] 3)).grownBy w4 v.ownBlock) := hid g1
                 clear o1 g1 bls lb4 nb4 hob hcl)
    have hs4 : W.heap.size ≤ w4.heap.size := by have := G1.out.size; simp at this; omega
    have kb : Kb w3.heap.size W (w4.setCell ⟨w.heap.size + 1, 0, none⟩ (.slice av (k + 1) cv)) := by
      refine ⟨by simpa using hs4, fun j o hj h1 h2 => (set_oth w4 _ (by omega)).trans ((G1.out.block j (by have := lt_of_block h1; simp; omega) (fun e => ?_)).trans ((lowAlloc W _).block j (lt_of_block h1) |>.trans h1))⟩
      rcases HO.out.2 with ⟨e', _⟩ | ⟨g9, cap9, cur9, e', _, a2, _⟩
      · rw [e'] at e; cases e
      · rw [e'] at e
        simp [Value.ownBlock] at e
        subst e
        rw [h1] at a2
        injection a2 with a2
        subst a2
        cases h2
    have wk : Wk w (w4.setCell ⟨w.heap.size + 1, 0, none⟩ (.slice av (k + 1) cv)) m w3.heap.size (pre ++ [x]) := by
      refine ⟨(set_oth w4 _ (by omega)).trans NB4.out, ⟨_, ?_, own_set O4.out _ (fun e => by have := (own_lt O4.out e).1; omega)⟩, ?_, by have := hsz; simp; omega⟩
      · rw [heap_setCell_same w4 _ 0 _ _ _ LB4.out]; rfl
      · refine below_st ((HI.out.low.alloc HI.out.low.size _).grown G1.out (by have := HI.out.low.size; simp; omega) (fun b e => by have := (own_lt HO.out e).1; omega)) _ _ _ (by omega)
    have md : Md [X, g, 0] W (w4.setCell ⟨w.heap.size + 1, 0, none⟩ (.slice av (k + 1) cv)) := by
      refine ⟨by simpa using hs4, fun j hj => ?_⟩
      have hjl : j < w3.heap.size ∧ j ≠ w.heap.size + 1 := by
        have := HT.out.pos
        have := HSL.out.hg
        simp only [List.mem_cons, List.not_mem_nil, or_false] at hj
        omega
      exact (set_oth w4 _ hjl.2).trans (B4.out j hjl.1)
    exact ⟨kb, md, wk⟩
  · rintro D W hD hI hd
    rw [← HE.out] at hI
    obtain ⟨v, hlb, hown⟩ := hI.lb
    have hc : W.cell? ⟨w.heap.size + 1, 0, none⟩ = some v := by rw [cell_of_row W _ 0 _ _ _ hlb]; rfl
    have HO := hid (own_mono hown (show w.heap.size ≤ w3.heap.size by omega))
    have HLO := hid hI.low
    have HD := hid hd
    have HDs := hid hD
    obtain ⟨av, lv, cv, hv⟩ := own_form9 hown
    subst hv
    have HOL := hid hown
    clear hI hlb hown hd
    gi_wp2
    refine ⟨by simp, .inl ⟨_, _, rfl, run_takeDeferred HD.out, ?_⟩⟩
    have hb : Below w.heap.size w (W.putObj D (.deferred none)) := by
      have h1 := HLO.out
      exact ⟨h1.os, h1.tape, h1.output, by simpa using h1.size, fun k hk => (World.putObj_heap_other (by omega)).trans (h1.block k hk)⟩
    have ho : OwnI (W.putObj D (.deferred none)) w.heap.size (.slice av lv cv) ms := by
      refine ⟨HO.out.1, ?_⟩
      rcases HO.out.2 with e | ⟨g, cap, cur, e, a1, a2, a3⟩
      · exact Or.inl e
      · exact Or.inr ⟨g, cap, cur, e, a1, (World.putObj_heap_other (fun c => by rw [c, HD.out] at a2; cases a2)).trans a2, a3⟩
    have HB := hid hb
    have HOF := hid ho
    clear hb ho
    simp [LeavesInM, LeavesIn, results, Tryd.results90, go_sem]
    rw [← HQ.out]
    exact ⟨_, rfl, HOF.out, HB.out⟩
  · rintro D pre W _ _ h
    exact h.elim
end Go.Proofs.YtkagdmhijjfnnaaDoor
