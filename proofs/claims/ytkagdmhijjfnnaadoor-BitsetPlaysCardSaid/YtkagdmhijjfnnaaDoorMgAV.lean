import Derived.Test.YtkagdmhijjfnnaaDoorIt2
import Derived.Test.YtkagdmhijjfnnaaDoorMgAU
import Derived.Test.YtkagdmhijjfnnaaDoorMgAM
namespace Go.Proofs.YtkagdmhijjfnnaaDoor
open Go.RowKit Go.Shelf Bs
set_option linter.unusedVariables false
attribute [local go_sem] Oper.semAt_some
set_option maxRecDepth 100000 in
set_option maxHeartbeats 1000000 in
theorem words_nil (w : World) :
    Calls Tryd.prog 35 #[.pointer none] w fun e w' => ∃ v, e = .returned v ∧ v = .slice (some ⟨w.heap.size, 0, none⟩) 0 0 ∧ w.heap.size < w'.heap.size ∧ Below w.heap.size w w' := by
  obtain ⟨L, hL⟩ : ∃ L : Nat, L = 0 := ⟨_, rfl⟩
  have hmk := make_len L (by omega) w
  have hb0 := lowAlloc w (.cells (row (List.replicate L 0)) 59)
  have hls : Hid (Calls Tryd.prog 55 #[.pointer none] w fun e w' => e = .returned (.slice none L L) ∧ w' = w) := by rw [hL]; exact list_nil w
  have hrow : (w.alloc (.cells (row (List.replicate L 0)) 59)).heap[w.heap.size]? = some (.cells (vals (List.replicate L 0)).toArray 59 (0, 0)) := heap_alloc_new w _
  have HB0 := hid hb0
  have HROW := hid hrow
  have HL := hid hL
  clear hb0 hrow
  clear hL
  go_enter Tryd.func35, Tryd.ntmps35
  go_wp2_with fail
  refine hls.out.mono ?_
  rintro e w1 ⟨rfl, hww⟩
  subst hww
  go_wp2_with fail
  refine (list_nil _).mono ?_
  rintro e w2 ⟨rfl, hww⟩
  rw [hww]
  clear hww
  go_wp2_with (refine wpList_copy_splice rfl (.tmp 8) (.tmp 10) 35 35 rfl 59 Tryd.underlying35 (by kernel_rfl) (some ⟨w1.heap.size, 0, none⟩) none L L 0 0 rfl rfl w1.heap.size 0 (vals (List.replicate L 0)) 59 HROW.out [] (by simp) (fun h => by cases h) (by simp) (by intro v hv; cases hv) w1.heap.size w1 HB0.out (Nat.le_refl _) ?_; intro w4 hg4 hb4)
  go_ret
  exact ⟨_, rfl, by rw [HL.out]; rfl, lt_of_block hg4.out, hb4⟩
set_option maxHeartbeats 4000000 in
theorem all_nil (w : World) : Calls Tryd.prog 38 #[.pointer none] w fun e w' => ∃ X g, e = .returned (allB X) ∧ w.heap.size ≤ X ∧ w.heap.size ≤ g ∧ g < w'.heap.size ∧ w'.heap[X]? = some (.cells #[.slice (some ⟨g, 0, none⟩) 0 0] 35 (0, 0)) ∧ Below w.heap.size w w' := by
  have BY := hid (words_nil w)
  generalize hQ : (fun (e : Ending) (w' : World) => ∃ X g, e = .returned (allB X) ∧ w.heap.size ≤ X ∧ w.heap.size ≤ g ∧ g < w'.heap.size ∧ w'.heap[X]? = some (.cells #[.slice (some ⟨g, 0, none⟩) 0 0] 35 (0, 0)) ∧ Below w.heap.size w w') = Q
  have HQ := hid hQ
  clear hQ
  go_enter Tryd.func38, Tryd.ntmps38
  go_wp2_with (go_at_call 35; refine BY.out.mono ?_
               rintro e w2 ⟨v, rfl, rfl, g2, B2⟩
               replace G2 := hid g2
               replace B2 := hid B2)
  rw [← HQ.out]
  refine ⟨w2.heap.size, w.heap.size, rfl, B2.out.size, Nat.le_refl _, by have := G2.out; simp; omega, heap_alloc_new w2 _, B2.out.alloc B2.out.size _⟩
theorem run_eql_walk (w : World) (f : Fn) (a b : Array Value) : (binOp .eql 63 (.func f a b) .nilFunc).run Tryd.prog w = .ok (.bool false) w := by
  have h : ∀ d, (Op.equalIn (d + 1) 63 (.func f a b) .nilFunc).run Tryd.prog w = .ok false w := fun d => by
    simp [Op.equalIn, run_underlying Tryd.underlying63]
  simp only [binOp]
  simp [Op.equal, Op.maxDepth, h 9999]
set_option maxHeartbeats 4000000 in
set_option maxRecDepth 100000 in
theorem walk_nil (n : Int) (w : World) (ht : Tab w) : Calls Tryd.prog 90 #[.pointer none, .int .i64 n] w fun e w' => e = .returned (.slice none 0 0) ∧ Below w.heap.size w w' := by
  have hq := run_eql_walk
  have HT := hid ht
  clear ht
  have AL := hid all_nil
  generalize hQ : (fun (e : Ending) (w' : World) => e = .returned (.slice none 0 0) ∧ Below w.heap.size w w') = Q
  have HQ := hid hQ
  clear hQ
  refine (callsIn_wide (n := 3)).1 ?_
  refine callsIn_of_wp_marks Tryd.func90 rfl trivial ?_ rfl
  simp only [Tryd.ntmps90, List.size_toArray, List.length_cons, List.length_nil, Nat.reduceAdd, Nat.reduceSub, Array.replicate_succ, Array.replicate_zero, List.push_toArray, List.append_toArray, List.nil_append, List.cons_append]
  gi_wp2_with (first
    | (refine ⟨trivial, ?_⟩; gi_at_call 38; refine (callsIn_wide.2 (AL.out _)).mono ?_
       rintro e w3 ⟨X, g, he, hX, hg, hgl, hbox, B3⟩; unfold allB at he; subst he))
  have hs0 : ((w.alloc (.cells #[.int .i64 n] 3)).alloc (.cells #[.slice none 0 0] 28)).heap.size = w.heap.size + 2 := by simp
  have b0 : Below w.heap.size w ((w.alloc (.cells #[.int .i64 n] 3)).alloc (.cells #[.slice none 0 0] 28)) := ((Below.refl _ w).alloc (Nat.le_refl _) _).alloc (by simp) _
  have bl : ((w.alloc (.cells #[.int .i64 n] 3)).alloc (.cells #[.slice none 0 0] 28)).heap[w.heap.size + 1]? = some (.cells #[.slice none 0 0] 28 (0, 0)) := by
    have := heap_alloc_new (w.alloc (.cells #[.int .i64 n] 3)) (.cells #[.slice none 0 0] 28)
    rwa [World.size_alloc] at this
  rw [hs0] at hX hg
  have b3 := b0.trans (B3.mono b0.size)
  have bl3 := (B3.block _ (by rw [hs0]; omega)).trans bl
  have ht3 := HT.out.low b3 HT.out.pos
  have HB3 := hid b3
  have HL3 := hid bl3
  have hcx : w3.cell? ⟨X, 0, none⟩ = some (.slice (some ⟨g, 0, none⟩) 0 0) := by rw [cell_of_row w3 X 0 _ _ _ hbox]; rfl
  have hXl := lt_of_block hbox
  clear B3 b0 bl hs0 AL hbox b3 bl3
  refine walkO (by decide) X g 0 0 [] (by decide) (fun a ha => by cases ha) rfl rfl ⟨hcx, (fun j hj => by cases hj), ht3⟩ hXl hgl
    (fun _ W => Below w.heap.size w W ∧ W.heap[w.heap.size + 1]? = some (.cells #[.slice none 0 0] 28 (0, 0))) (fun _ _ => False)
    ?_ ?_ ?_ ⟨HB3.out, HL3.out⟩ (fun _ _ _ => True) (fun _ _ _ _ _ _ _ _ => trivial) ?_ ?_ ?_ ?_
  · rintro pre W W' ⟨h1, h2⟩ h
    exact ⟨h1.trans (h.mono h1.size), (h.block _ (lt_of_block h2)).trans h2⟩
  · rintro pre W l r r' ⟨h1, h2⟩ hl h
    have := HB3.out.size
    refine ⟨⟨h1.os, h1.tape, h1.output, by simpa using h1.size, fun k hk => (World.putObj_heap_other (by omega)).trans (h1.block k hk)⟩, (World.putObj_heap_other ?_).trans h2⟩
    have := lt_of_block HL3.out
    omega
  · rintro pre W l r r' h
    exact h.elim
  · rintro l x W K _ hK
    have HK := hid hK
    clear hK
    gi_wp2
    exact HK.out _ _ trivial (Below.refl _ _)
  · rintro l pre x a' W _ _ _ _ hp
    obtain ⟨t, ht⟩ := hp
    simp [msL] at ht
  · rintro D W hD ⟨h1, h2⟩ hd
    have H1 := hid h1
    have H2 := hid h2
    have HD := hid hd
    have hc : W.cell? ⟨w.heap.size + 1, 0, none⟩ = some (.slice none 0 0) := by rw [cell_of_row W _ 0 _ _ _ h2]; rfl
    clear h1 h2 hd
    gi_wp2
    refine ⟨by simp, .inl ⟨_, _, rfl, run_takeDeferred HD.out, ?_⟩⟩
    have hb : Below w.heap.size w (W.putObj D (.deferred none)) := by
      have h1 := H1.out
      have := HB3.out.size
      exact ⟨h1.os, h1.tape, h1.output, by simpa using h1.size, fun k hk => (World.putObj_heap_other (by omega)).trans (h1.block k hk)⟩
    have HB := hid hb
    clear hb
    simp [LeavesInM, LeavesIn, results, Tryd.results90, go_sem]
    rw [← HQ.out]
    exact ⟨rfl, HB.out⟩
  · rintro D pre W _ _ h
    exact h.elim
end Go.Proofs.YtkagdmhijjfnnaaDoor
namespace Go.Proofs.YtkagdmhijjfnnaaDoor
open Go.RowKit Bs
set_option linter.unusedVariables false
set_option maxHeartbeats 1000000 in
/-- SameWords of one list twice. -/
theorem samew_yes (a a' : Option Addr) (cap cap' : Nat) (us : List Nat) (w : World) (hL : us.length ≤ 65536) (h : Rw w a us) (h' : Rw w a' us) :
    Calls Tryd.prog 88 #[.slice a us.length cap, .slice a' us.length cap'] w fun e w' => e = .returned (.bool true) ∧ ∃ m, w' = w.drewN m := by
  obtain ⟨L, hLe⟩ : ∃ L, L = us.length := ⟨_, rfl⟩
  have HL := hid hLe
  have H := hid h
  have H' := hid h'
  rw [← hLe] at hL ⊢
  clear hLe h h'
  go_enter Tryd.func88, Tryd.ntmps88
  go_wp2
  go_loopw [5] (fun i wr => ∃ k : Nat, k ≤ L ∧ i = .int .i64 k ∧ ∃ m, wr = w.drewN m) (fun i _ => L - (intOf i).toNat)
  case atStart => exact ⟨0, Nat.zero_le _, rfl, 0, rfl⟩
  case round =>
    obtain ⟨k, hk, rfl, m, rfl⟩ := hrel
    by_cases hlt : k < L
    · have hk2 : k < us.length := by rw [← HL.out]; exact hlt
      rcases H.out with e | ⟨b, off, rfl, _, hc⟩
      · omega
      rcases H'.out with e | ⟨b', off', rfl, _, hc'⟩
      · omega
      have hx := hc k hk2
      have hy := hc' k hk2
      generalize us.getD k 0 = z at hx hy
      clear hc hc' hk2
      go_wp2_with fail
      go_quiet (fail)
      go_wp2_with fail
      go_roundw
      case rel => exact ⟨k + 1, by omega, by go_num, _, rfl⟩
      case measure => simp [intOf]; omega
    · go_wp2_with fail
      go_ret
      exact ⟨rfl, _, rfl⟩
/-! ### The program's calls at any argument, nil sets among them. -/
theorem has_o {v : Value} {q n : Nat} {S : Nat → Bool} (i : Int) (w : World) (h : SO w v q n S) (b : Bool) (hb : b = true ↔ ∃ a : Nat, i = a ∧ S a = true) :
    Calls Tryd.prog 30 #[v, .int .i64 i] w fun e w' => e = .returned (.bool b) ∧ ∃ k, w' = w.drewN k := by
  rcases h with ⟨rfl, _, hS⟩ | ⟨p, rfl, h⟩
  · have : b = false := by
      cases b with
      | false => rfl
      | true => obtain ⟨a, _, c⟩ := hb.1 rfl; rw [hS] at c; cases c
    subst this
    exact has_nil i w
  · by_cases hi : 0 ≤ i ∧ i < n
    · obtain ⟨a, rfl⟩ : ∃ a : Nat, i = a := ⟨i.toNat, by omega⟩
      have e : b = S a := by
        rw [Bool.eq_iff_iff, hb]
        constructor
        · rintro ⟨a', e, c⟩; obtain rfl : a = a' := by omega
          exact c
        · intro c; exact ⟨a, rfl, c⟩
      rw [e]
      exact has_set a w h (by omega)
    · have e : b = false := by
        cases b with
        | false => rfl
        | true =>
          obtain ⟨a, e, c⟩ := hb.1 rfl
          have := h.bound a c
          omega
      rw [e]
      obtain ⟨ws, x, _⟩ := h
      exact has_no p n i w x.c0 hi
theorem next_o {v : Value} {q n : Nat} {S : Nat → Bool} (i r : Int) (w : World) (h : SO w v q n S) (ht : Tab w) (hr : IsNext n S i r) :
    Calls Tryd.prog 31 #[v, .int .i64 i] w fun e w' => e = .returned (.int .i64 r) ∧ ∃ m, w' = w.drewN m := by
  rcases h with ⟨rfl, rfl, hS⟩ | ⟨p, rfl, h⟩
  · have : r = -1 := hr.one (Or.inr ⟨rfl, fun t _ => hS t⟩)
    subst this
    exact (next_nil i w).mono (fun e w' h => ⟨h.1, 0, h.2⟩)
  · exact next_set i r w h ht hr
theorem prev_o {v : Value} {q n : Nat} {S : Nat → Bool} (i r : Int) (w : World) (h : SO w v q n S) (hr : IsPrev n S i r) :
    Calls Tryd.prog 32 #[v, .int .i64 i] w fun e w' => e = .returned (.int .i64 r) ∧ ∃ m, w' = w.drewN m := by
  rcases h with ⟨rfl, rfl, hS⟩ | ⟨p, rfl, h⟩
  · have : r = -1 := by
      rcases hr with ⟨j, _, hj, _⟩ | ⟨e, _⟩
      · omega
      · exact e
    subst this
    exact (prev_nil i w).mono (fun e w' h => ⟨h.1, 0, h.2⟩)
  · exact prev_set i r w h hr
theorem rank_o {v : Value} {q n : Nat} {S : Nat → Bool} (i : Int) (w : World) (h : SO w v q n S) :
    Calls Tryd.prog 28 #[v, .int .i64 i] w fun e w' => e = .returned (.int .i64 ((rank n S i : Nat) : Int)) ∧ ∃ m, w' = w.drewN m := by
  rcases h with ⟨rfl, rfl, hS⟩ | ⟨p, rfl, h⟩
  · have e : rank 0 S i = 0 := by unfold rank; rw [Nat.min_zero]; rfl
    rw [e]
    exact (rank_nil i w).mono (fun e w' h => ⟨h.1, 0, h.2⟩)
  · exact rank_set i w h
theorem sel_o {v : Value} {q n : Nat} {S : Nat → Bool} (k r : Int) (w : World) (h : SO w v q n S) (ht : Tab w) (hk : k ≤ 9223372036854775807) (hr : IsSel n S k r) :
    Calls Tryd.prog 29 #[v, .int .i64 k] w fun e w' => e = .returned (.int .i64 r) ∧ w' = w := by
  rcases h with ⟨rfl, rfl, hS⟩ | ⟨p, rfl, h⟩
  · have : r = -1 := by
      rcases hr with ⟨j, _, hj, _⟩ | ⟨e, _⟩
      · omega
      · exact e
    subst this
    exact select_nil k w
  · exact sel_set k r w h ht hk hr
set_option maxHeartbeats 1000000 in
theorem meets_void {v v' : Value} {a a' : Option Addr} {l l' : Nat} (w : World) (h1 : Calls Tryd.prog 55 #[v] w fun e w' => e = .returned (.slice a l l) ∧ w' = w) (h2 : Calls Tryd.prog 55 #[v'] w fun e w' => e = .returned (.slice a' l' l') ∧ w' = w) (h0 : l = 0 ∨ l' = 0) :
    Calls Tryd.prog 22 #[v, v'] w fun e w' => e = .returned (.bool false) ∧ Below w.heap.size w w' := by
  have H1 := hid h1
  have H2 := hid h2
  obtain ⟨M, hM⟩ : ∃ M, M = 0 := ⟨_, rfl⟩
  have hmin : min (l : Int) (l' : Int) = (M : Int) := by omega
  have HM := hid hM
  clear h1 h2 h0 hM
  go_enter Tryd.func22, Tryd.ntmps22
  go_wp2_with fail
  refine H1.out.mono ?_
  rintro e w' ⟨rfl, hww⟩
  subst hww
  go_wp2_with fail
  refine H2.out.mono ?_
  rintro e w'' ⟨rfl, hww⟩
  subst hww
  go_wp2_with fail
  go_loopw [17] (fun i wr => i = .int .i64 0 ∧ wr = w'') (fun _ _ => 0)
  case atStart => exact ⟨rfl, rfl⟩
  case round =>
    obtain ⟨rfl, rfl⟩ := hrel
    have := HM.out
    subst this
    go_wp2
    go_ret
    exact ⟨rfl, Below.refl _ _⟩
theorem meets_o {v v' : Value} {q n q' n' : Nat} {S T : Nat → Bool} (b : Bool) (w : World) (h : SO w v q n S) (h' : SO w v' q' n' T) (hb : b = true ↔ ∃ i, S i = true ∧ T i = true) :
    Calls Tryd.prog 22 #[v, v'] w fun e w' => e = .returned (.bool b) ∧ Below w.heap.size w w' := by
  have nob : (∀ i, S i = false) ∨ (∀ i, T i = false) → b = false := by
    intro c
    cases b with
    | false => rfl
    | true =>
      obtain ⟨i, x, y⟩ := hb.1 rfl
      rcases c with c | c
      · rw [c] at x; cases x
      · rw [c] at y; cases y
  obtain ⟨a2, l2, hl2⟩ := list_o w h'
  obtain ⟨a1, l1, hl1⟩ := list_o w h
  rcases h with ⟨rfl, _, hS⟩ | ⟨p, rfl, h⟩
  · rw [nob (Or.inl hS)]
    exact meets_void w (list_nil w) hl2 (Or.inl rfl)
  · rcases h' with ⟨rfl, _, hT⟩ | ⟨p', rfl, h'⟩
    · rw [nob (Or.inr hT)]
      exact meets_void w hl1 (list_nil w) (Or.inr rfl)
    · exact meets_is b w h h' hb
theorem remove_is {p q n : Nat} {S : Nat → Bool} (i : Int) (w : World) (h : SetAt w p q n S) (b : Bool) (hb : b = true ↔ ∃ a : Nat, i = a ∧ S a = true) :
    Calls Tryd.prog 40 #[.pointer (some ⟨p, 0, none⟩), .int .i64 i] w fun e w' => e = .returned (.bool b) ∧ SetAt w' p q n (cutS S i) ∧ Chg q w w' := by
  have hbd := h.bound
  obtain ⟨ws, x, hx⟩ := h
  cases b with
  | true =>
    obtain ⟨a, rfl, ha⟩ := hb.1 rfl
    refine (rem_yes p q n a ws w x (hbd a ha) (by rw [hx]; exact ha)).mono ?_
    rintro e w' ⟨rfl, y, k⟩
    refine ⟨rfl, ⟨_, y, fun j => ?_⟩, k⟩
    rw [mem_remW ws x.wd a (by have := hbd a ha; have := x.hl; unfold nw at this; omega) j, hx]
    unfold cutS
    by_cases e : j = a
    · simp [e]
    · have e' : ¬ (j : Int) = (a : Int) := by omega
      simp [e, e']
  | false =>
    have hno : ∀ a : Nat, i = a → mem ws a = false := by
      intro a e
      rw [hx]
      cases c : S a
      · rfl
      · have := hb.2 ⟨a, e, c⟩; cases this
    refine (rem_no p q n i ws w x hno).mono ?_
    rintro e w' ⟨rfl, m, rfl⟩
    refine ⟨rfl, ⟨ws, ⟨x.hp, x.hq, x.ne, x.hn, x.hl, x.wd, x.cl⟩, fun j => ?_⟩, ⟨rfl, rfl, rfl, Nat.le_refl _, fun _ _ _ => rfl⟩⟩
    unfold cutS
    rw [← hx]
    by_cases e : (j : Int) = i
    · rw [hno j e.symm]; rfl
    · simp [e]
set_option maxRecDepth 100000 in
set_option maxHeartbeats 2000000 in
theorem grow_no {p q n : Nat} {S : Nat → Bool} (m c : Int) (w : World) (h : SetAt w p q n S) (hc : (¬ (0 ≤ m ∧ m ≤ 65536) ∧ c = 11) ∨ (0 ≤ m ∧ m ≤ 65536 ∧ m < n ∧ c = 13)) :
    Calls Tryd.prog 43 #[.pointer (some ⟨p, 0, none⟩), .int .i64 m] w fun e w' => e = .returned (.int .i64 c) ∧ w' = w := by
  obtain ⟨ws, x, _⟩ := h
  have hc0 := x.c0
  clear x
  rcases hc with ⟨h0, rfl⟩ | ⟨h0, h1, h2, rfl⟩
  · go_enter Tryd.func43, Tryd.ntmps43
    go_wp2_with (go_at_call 52; refine (valid_no m _ h0).mono ?_; rintro e w' ⟨rfl, hww⟩; subst hww)
    go_ret
    exact ⟨rfl, rfl⟩
  · go_enter Tryd.func43, Tryd.ntmps43
    go_wp2_with (go_at_call 52; refine (valid_yes m _ h0 h1).mono ?_; rintro e w' ⟨rfl, hww⟩; subst hww)
    go_ret
    exact ⟨rfl, rfl⟩
end Go.Proofs.YtkagdmhijjfnnaaDoor
