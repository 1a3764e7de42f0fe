import Derived.Test.YtlhlpamciafocaaGreatDoorMgAH
import Derived.WalkKit
import Derived.WalkSpells
import Derived.WalkLawsBesides
import Derived.Handy
import Derived.OwnWalk
import Derived.Laws.MakeOwn
import Derived.Sort.Row
import Derived.Laws.AppendOwnNone
namespace Go.Proofs.YtlhlpamciafocaaGreatDoor.L
open Go.RowKit
set_option linter.unusedVariables false
set_option linter.unusedSimpArgs false
set_option maxHeartbeats 4000000 in
set_option maxRecDepth 100000 in
theorem at_any {pb B : Nat} {Nb : Nat → Prop} {tv : Value} {T : List Tok} {W : World} {s : PS} {v o : Value} {ks : Nat → Value} (h : PM pb B Nb tv T W s v o ks) (m : ByteArray) :
    Calls Tryz.prog 71 #[.pointer (some ⟨pb, 0, none⟩), .int .i64 4, .string m] W fun e W' => e = .returned (.bool (isM T s m.toList)) ∧ Below W.heap.size W W' := by
  have HP := hid h
  obtain ⟨t, ht⟩ : ∃ t, t = tk T s.nx := ⟨_, rfl⟩
  have HT := hid ht
  unfold isM
  rw [← ht]
  clear h ht
  have HTK := hid (token_any HP.out)
  rw [← HT.out] at HTK
  unfold L.tv at HTK
  by_cases hk : t.kind = 4
  · have e1 : ((t.kind : Int) == 4) = true := by simp [hk]
    have hd : decide (t.kind = 4) = true := by simp [hk]
    rw [hd]
    clear hk hd
    cases ht : (t.text.toList == m.toList)
    · have hd : decide (t.text.toList = m.toList) = false := by simpa using ht
      rw [hd]
      clear hd
      go_enter Tryz.func71, Tryz.ntmps71
      go_wp2_with (go_at_call 34; refine HTK.out.mono ?_; rintro e Y ⟨rfl, l⟩; have L1 := hid (l.trans ((belowA Y (.cells #[.int .i64 (t.kind : Int), .string t.text, .int .i64 t.num, .int .i64 (t.a : Int), .int .i64 (t.e : Int)] 80)).mono l.size)); clear l)
      go_ret
      exact ⟨rfl, L1.out⟩
    · have hd : decide (t.text.toList = m.toList) = true := by simpa using ht
      rw [hd]
      clear hd
      go_enter Tryz.func71, Tryz.ntmps71
      go_wp2_with (go_at_call 34; refine HTK.out.mono ?_; rintro e Y ⟨rfl, l⟩; have L1 := hid (l.trans ((belowA Y (.cells #[.int .i64 (t.kind : Int), .string t.text, .int .i64 t.num, .int .i64 (t.a : Int), .int .i64 (t.e : Int)] 80)).mono l.size)); clear l)
      go_ret
      exact ⟨rfl, L1.out⟩
  · have e1 : ((t.kind : Int) == 4) = false := by simp; omega
    have hd : decide (t.kind = 4) = false := by simp [hk]
    rw [hd]
    clear hk hd
    go_enter Tryz.func71, Tryz.ntmps71
    go_wp2_with (go_at_call 34; refine HTK.out.mono ?_; rintro e Y ⟨rfl, l⟩; have L1 := hid (l.trans ((belowA Y (.cells #[.int .i64 (t.kind : Int), .string t.text, .int .i64 t.num, .int .i64 (t.a : Int), .int .i64 (t.e : Int)] 80)).mono l.size)); clear l)
    go_ret
    exact ⟨rfl, L1.out⟩
set_option maxHeartbeats 4000000 in
set_option maxRecDepth 100000 in
theorem refuse_any {pb B : Nat} {Nb : Nat → Prop} {tv : Value} {T : List Tok} {W : World} {s : PS} {v o : Value} {ks : Nat → Value} (h : PM pb B Nb tv T W s v o ks) :
    Calls Tryz.prog 35 #[.pointer (some ⟨pb, 0, none⟩)] W fun e W' => ∃ N, e = pe N ∧ Fli W' N (rfE T s).1 (rfE T s).2 ∧ Below W.heap.size W W' := by
  have HP := hid h
  obtain ⟨t, ht⟩ : ∃ t, t = tk T s.nx := ⟨_, rfl⟩
  have HT := hid ht
  unfold rfE
  rw [← ht]
  clear h ht
  have HTK := hid (token_any HP.out)
  rw [← HT.out] at HTK
  unfold L.tv at HTK
  by_cases hk : t.kind = 0
  · have e1 : ((t.kind : Int) == 0) = true := by simp [hk]
    rw [if_pos hk]
    clear hk
    go_enter Tryz.func35, Tryz.ntmps35
    go_wp2_with (first
      | (go_at_call 34; refine HTK.out.mono ?_; rintro e Y ⟨rfl, l⟩; have L1 := hid (l.trans ((belowA Y (.cells #[.int .i64 (t.kind : Int), .string t.text, .int .i64 t.num, .int .i64 (t.a : Int), .int .i64 (t.e : Int)] 80)).mono l.size)); clear l)
      | (go_at_call 36; refine (giveup_any 121 (t.a : Int) _).mono ?_; rintro e Z ⟨N, rfl, hf, l2⟩; have HF := hid hf; have L2 := hid (L1.out.trans (l2.mono L1.out.size)); clear hf l2))
    exact ⟨rfl, N, rfl, HF.out, L2.out⟩
  · have e1 : ((t.kind : Int) == 0) = false := by simp; omega
    rw [if_neg hk]
    clear hk
    go_enter Tryz.func35, Tryz.ntmps35
    go_wp2_with (first
      | (go_at_call 34; refine HTK.out.mono ?_; rintro e Y ⟨rfl, l⟩; have L1 := hid (l.trans ((belowA Y (.cells #[.int .i64 (t.kind : Int), .string t.text, .int .i64 t.num, .int .i64 (t.a : Int), .int .i64 (t.e : Int)] 80)).mono l.size)); clear l)
      | (go_at_call 36; refine (giveup_any 120 (t.a : Int) _).mono ?_; rintro e Z ⟨N, rfl, hf, l2⟩; have HF := hid hf; have L2 := hid (L1.out.trans (l2.mono L1.out.size)); clear hf l2))
    exact ⟨rfl, N, rfl, HF.out, L2.out⟩
theorem Fp.below {pb : Nat} {W W1 W2 : World} {v o v1 o1 : Value} (h : Fp pb W v o W1 v1 o1) (hb : Below W1.heap.size W1 W2) : Fp pb W v o W2 v1 o1 := h.trans (Fp.of v1 o1 hb)
theorem fp_row {pb : Nat} {W V : World} {v o v' o' : Value} (h : Fp pb W v o V v' o') (g : Nat) (cs : Array Value) (hg : W.heap.size ≤ g) : Fp pb W v o (V.setRow g cs) v' o' :=
  ⟨h.os, h.tape, h.output, by rw [setRow_size]; exact h.size, fun k hk h1 h2 h3 => (setRow_other _ _ _ _ (by omega)).trans (h.block k hk h1 h2 h3), h.vb, h.ob⟩
theorem PM.row {pb B : Nat} {Nb : Nat → Prop} {tv : Value} {T : List Tok} {W : World} {s : PS} {v o : Value} {ks : Nat → Value} (h : PM pb B Nb tv T W s v o ks) {g : Nat} {old : Array Value} (hg : W.heap[g]? = some (.cells old 80 (0, 0))) (hne : tv.ownBlock ≠ some g) (cs : Array Value) : PM pb B Nb tv T (W.setRow g cs) s v o ks := by
  have key : ∀ {e : TypeId} {base size n : Nat} {u : Value} {xs : List Value}, e ≠ 80 → W.ownsRow base e size u n xs → (W.setRow g cs).ownsRow base e size u n xs := by
    intro e base size n u xs he hr
    refine row_kept hr (fun k hkk => setRow_other _ _ _ _ (fun e2 => ?_))
    obtain ⟨_, h2, cur, h3⟩ := row_at hr hkk
    rw [e2, hg] at h3
    injection h3 with h3
    injection h3 with _ h4
    exact he h4.symm
  refine ⟨(setRow_other _ _ _ _ (fun e2 => ?_)).trans h.box, row_kept h.tok (fun k hkk => setRow_other _ _ _ _ (fun e2 => hne (by rw [← e2]; exact hkk))), h.tlt, ⟨key (by decide) h.parts.row, fun j hj => key (by decide) (h.parts.kids j hj)⟩, key (by decide) h.offs, h.pbB, h.nx, h.ns, h.tl, h.fin, h.apart, h.apx.size (fun k hk => by rw [setRow_size]; exact hk)⟩
  have h1 := h.box
  rw [e2, hg] at h1
  cases h1
set_option maxHeartbeats 4000000 in
set_option maxRecDepth 100000 in
theorem mark_any {pb B : Nat} {Nb : Nat → Prop} {tv : Value} {T : List Tok} {W : World} {s : PS} {v o : Value} {ks : Nat → Value} (h : PM pb B Nb tv T W s v o ks) (m : ByteArray) :
    Calls Tryz.prog 99 #[.pointer (some ⟨pb, 0, none⟩), .string m] W fun e W' => Po pb B Nb tv T (fun _ => L.tv (tk T s.nx)) (markP T s m.toList) W v o e W' := by
  have HB0 := hid (belowA W (.cells #[.int .i64 0, .string ⟨#[]⟩, .int .i64 0, .int .i64 0, .int .i64 0] 80))
  have HX0 := hid (heap_alloc_new W (.cells #[.int .i64 0, .string ⟨#[]⟩, .int .i64 0, .int .i64 0, .int .i64 0] 80))
  have HP := hid (h.low HB0.out)
  have HPW := hid h
  have HTL := hid (show tv.ownBlock ≠ some W.heap.size from fun e => (by have h1 := h.tlt _ e; have h2 := h.pbB; have h3 := lt_blk h.box; omega))
  clear h
  unfold markP
  by_cases hm : isM T s m.toList = true
  · rw [if_pos hm]
    have HAT := hid (at_any HP.out m)
    rw [hm] at HAT
    have hk : (tk T s.nx).kind ≠ 0 := by
      unfold isM at hm
      simp at hm
      omega
    have HTA := hid (fun (Y : World) (l : Below (W.alloc (.cells #[.int .i64 0, .string ⟨#[]⟩, .int .i64 0, .int .i64 0, .int .i64 0] 80)).heap.size (W.alloc (.cells #[.int .i64 0, .string ⟨#[]⟩, .int .i64 0, .int .i64 0, .int .i64 0] 80)) Y) => take_any (HP.out.low l) hk)
    clear hm hk
    obtain ⟨t, ht⟩ : ∃ t, t = tk T s.nx := ⟨_, rfl⟩
    rw [← ht] at HTA ⊢
    unfold L.tv at HTA ⊢
    clear ht
    go_enter Tryz.func99, Tryz.ntmps99
    go_upto_region 1 with (fail)
    generalize W.alloc (.cells #[.int .i64 0, .string ⟨#[]⟩, .int .i64 0, .int .i64 0, .int .i64 0] 80) = X at *
    go_upto_region 3 with (go_at_call 71; refine HAT.out.mono ?_; rintro e Y ⟨rfl, l⟩; have L1 := hid l; clear l)
    refine wp_region_lit ?_
    refine wpList_plain rfl fun K hK => ?_
    have HK := hid hK
    clear hK
    go_simp
    refine HK.out _ _ ?_
    clear HK
    try simp only [Act.put, List.setIfInBounds_toArray, List.set_cons_zero, List.set_cons_succ]
    refine wpList_step fun K hK => ?_
    rw [if_pos (by first | rfl | kernel_rfl)]
    go_simp
    refine (HTA.out Y L1.out).mono ?_
    rintro e V ⟨rfl, hp, hf⟩
    have HPV := hid hp
    have HFV := hid (show Fp pb W v o V v o from ((Fp.of v o HB0.out).below L1.out).trans hf)
    have HXV := hid (show V.heap[W.heap.size]? = some (.cells #[.int .i64 0, .string ⟨#[]⟩, .int .i64 0, .int .i64 0, .int .i64 0] 80 (0, 0)) from (hf.block _ (Nat.lt_of_lt_of_le (lt_blk HX0.out) L1.out.size) (fun e => (by have h1 := HPW.out.box; rw [← e] at h1; have := lt_blk h1; omega)) (fun e => (by have := (row_at HPW.out.parts.row e).2.1; omega)) (fun e => (by have := (row_at HPW.out.offs e).2.1; omega))).trans ((L1.out.block _ (lt_blk HX0.out)).trans HX0.out))
    clear hp hf
    refine hK _ _ ?_
    clear hK K
    try simp only [Act.put, List.setIfInBounds_toArray, List.set_cons_zero, List.set_cons_succ]
    refine wpList_store_row rfl 80 _ _ rfl W.heap.size #[.int .i64 (t.kind : Int), .string t.text, .int .i64 t.num, .int .i64 (t.a : Int), .int .i64 (t.e : Int)] rfl rfl 80 _ HXV.out infoTk rfl (by kernel_rfl) ?_
    try simp only [Act.put, List.setIfInBounds_toArray, List.set_cons_zero, List.set_cons_succ]
    have HVV := hid (setRow_heap V _ _ #[.int .i64 (t.kind : Int), .string t.text, .int .i64 t.num, .int .i64 (t.a : Int), .int .i64 (t.e : Int)] _ _ HXV.out)
    have HPU := hid (HPV.out.row HXV.out HTL.out #[.int .i64 (t.kind : Int), .string t.text, .int .i64 t.num, .int .i64 (t.a : Int), .int .i64 (t.e : Int)])
    have HFU := hid (fp_row HFV.out W.heap.size #[.int .i64 (t.kind : Int), .string t.text, .int .i64 t.num, .int .i64 (t.a : Int), .int .i64 (t.e : Int)] (Nat.le_refl _))
    generalize V.setRow W.heap.size #[.int .i64 (t.kind : Int), .string t.text, .int .i64 t.num, .int .i64 (t.a : Int), .int .i64 (t.e : Int)] = U at *
    go_wp2_with fail
    exact ⟨rfl, .agg #[.int .i64 (t.kind : Int), .string t.text, .int .i64 t.num, .int .i64 (t.a : Int), .int .i64 (t.e : Int)], results_cell_row Tryz.results99 _ U W.heap.size 80 #[.int .i64 (t.kind : Int), .string t.text, .int .i64 t.num, .int .i64 (t.a : Int), .int .i64 (t.e : Int)] (0, 0) _ rfl HVV.out Tryz.underlying80 rfl infoTk, rfl, v, o, ks, HPU.out, HFU.out⟩
  · rw [if_neg hm]
    have HAT := hid (at_any HP.out m)
    rw [show isM T s m.toList = false by simpa using hm] at HAT
    have HRF := hid (fun (Y : World) (l : Below (W.alloc (.cells #[.int .i64 0, .string ⟨#[]⟩, .int .i64 0, .int .i64 0, .int .i64 0] 80)).heap.size (W.alloc (.cells #[.int .i64 0, .string ⟨#[]⟩, .int .i64 0, .int .i64 0, .int .i64 0] 80)) Y) => refuse_any (HP.out.low l))
    clear hm
    go_enter Tryz.func99, Tryz.ntmps99
    go_upto_region 1 with (fail)
    generalize W.alloc (.cells #[.int .i64 0, .string ⟨#[]⟩, .int .i64 0, .int .i64 0, .int .i64 0] 80) = X at *
    go_wp2_with (first
      | (go_at_call 71; refine HAT.out.mono ?_; rintro e Y ⟨rfl, l⟩; have L1 := hid l; clear l)
      | (go_at_call 35; refine (HRF.out Y L1.out).mono ?_; rintro e V ⟨N, rfl, hf, l2⟩; have HF := hid hf; have L2 := hid ((HB0.out.trans (L1.out.mono HB0.out.size)).trans (l2.mono (HB0.out.trans (L1.out.mono HB0.out.size)).size)); clear hf l2))
    exact ⟨rfl, N, rfl, HF.out, HPW.out.below (Fp.of v o L2.out)⟩
theorem run_f0 (a b c d e : Value) (w : World) : (Instr.field 80 (.agg #[a, b, c, d, e]) 0).run Tryz.prog w = .ok a w := by kernel_rfl
theorem run_f1 (a b c d e : Value) (w : World) : (Instr.field 80 (.agg #[a, b, c, d, e]) 1).run Tryz.prog w = .ok b w := by kernel_rfl
theorem run_f3 (a b c d e : Value) (w : World) : (Instr.field 80 (.agg #[a, b, c, d, e]) 3).run Tryz.prog w = .ok d w := by kernel_rfl
set_option maxHeartbeats 4000000 in
set_option maxRecDepth 100000 in
theorem text_any {pb B : Nat} {Nb : Nat → Prop} {tv : Value} {T : List Tok} {W : World} {s : PS} {v o : Value} {ks : Nat → Value} (h : PM pb B Nb tv T W s v o ks) :
    Calls Tryz.prog 115 #[.pointer (some ⟨pb, 0, none⟩)] W fun e W' => Po pb B Nb tv T (fun x => .string x) (textP T s) W v o e W' := by
  have HP := hid h
  unfold textP
  have rf0 := run_f0
  have rf1 := run_f1
  have HTK := hid (token_any h)
  by_cases hk : (tk T s.nx).kind = 1
  · rw [if_pos hk]
    have HTA := hid (fun (Y : World) (l : Below W.heap.size W Y) => take_any (HP.out.low l) (by omega))
    have e1 : (((tk T s.nx).kind : Int) != 1) = false := by simp [hk]
    clear h hk
    obtain ⟨t, ht⟩ : ∃ t, t = tk T s.nx := ⟨_, rfl⟩
    rw [← ht] at HTA HTK e1 ⊢
    unfold L.tv at HTA HTK
    clear ht
    go_enter Tryz.func115, Tryz.ntmps115
    go_wp2_with (first
      | (go_at_call 34; refine HTK.out.mono ?_; rintro e Y ⟨rfl, l⟩; have L1 := hid l; clear l)
      | (go_at_call 72; refine (HTA.out Y L1.out).mono ?_; rintro e V ⟨rfl, hp, hf⟩; have HPV := hid hp; have HFV := hid ((Fp.of v o L1.out).trans hf); clear hp hf))
    go_ret
    exact ⟨rfl, v, o, ks, HPV.out, HFV.out⟩
  · rw [if_neg hk]
    have HRF := hid (fun (Y : World) (l : Below W.heap.size W Y) => refuse_any (HP.out.low l))
    have e1 : (((tk T s.nx).kind : Int) != 1) = true := by simp; omega
    clear h hk
    unfold L.tv at HTK
    go_enter Tryz.func115, Tryz.ntmps115
    go_wp2_with (first
      | (go_at_call 34; refine HTK.out.mono ?_; rintro e Y ⟨rfl, l⟩; have L1 := hid l; clear l)
      | (go_at_call 35; refine (HRF.out Y L1.out).mono ?_; rintro e V ⟨N, rfl, hf, l2⟩; have HF := hid hf; have L2 := hid (L1.out.trans (l2.mono L1.out.size)); clear hf l2))
    exact ⟨rfl, N, rfl, HF.out, HP.out.below (Fp.of v o L2.out)⟩
set_option maxHeartbeats 4000000 in
set_option maxRecDepth 100000 in
theorem shut_any {pb B : Nat} {Nb : Nat → Prop} {tv : Value} {T : List Tok} {W : World} {s : PS} {v o : Value} {ks : Nat → Value} (h : PM pb B Nb tv T W s v o ks) (hn : 1 ≤ s.ns) :
    Calls Tryz.prog 98 #[.pointer (some ⟨pb, 0, none⟩)] W fun e W' => e = .returned (.tuple #[]) ∧ PM pb B Nb tv T W' (shutP s) v o ks ∧ Fp pb W v o W' v o := by
  have HP := hid h
  have c2 : W.cell? ⟨pb, 2, none⟩ = some (.int .i64 (s.ns : Int)) := cell_of_row _ _ 2 _ _ _ h.box
  have f2 := frz_row h.box 2
  have hns := h.ns
  have hi : (s.ns : Int) - 1 = ((s.ns - 1 : Nat) : Int) := by omega
  clear h
  go_enter Tryz.func98, Tryz.ntmps98
  go_wp2_with fail
  have HX := hid (show (W.setCell ⟨pb, 2, none⟩ (.int .i64 ((s.ns - 1 : Nat) : Int))).heap[pb]? = some (.cells #[tv, .int .i64 (s.nx : Int), .int .i64 ((s.ns - 1 : Nat) : Int), v, o] 63 (0, 0)) by rw [setCell_eq_setRow _ _ _ _ _ _ _ HP.out.box, setRow_heap _ _ _ _ _ _ HP.out.box]; rfl)
  have HO := fun k (hk : k ≠ pb) => set_oth (k := k) HP.out.box 2 (.int .i64 ((s.ns - 1 : Nat) : Int)) hk
  exact ⟨rfl, .tuple #[], by first | rfl | kernel_rfl, rfl, HP.out.chg (s' := shutP s) HX.out (fun k _ h2 => HO k h2) rfl rfl HP.out.nx (by show s.ns - 1 ≤ 32; omega), Fp.chg v o rfl rfl rfl (by simp) (fun k _ h2 => HO k h2)⟩
set_option maxHeartbeats 4000000 in
set_option maxRecDepth 100000 in
theorem open_any {pb B : Nat} {Nb : Nat → Prop} {tv : Value} {T : List Tok} {W : World} {s : PS} {v o : Value} {ks : Nat → Value} (h : PM pb B Nb tv T W s v o ks) (m : ByteArray) :
    Calls Tryz.prog 97 #[.pointer (some ⟨pb, 0, none⟩), .string m] W fun e W' => Po pb B Nb tv T (fun _ => L.tv (tk T s.nx)) (openP T s m.toList) W v o e W' := by
  have HB0 := hid (belowA W (.cells #[.int .i64 0, .string ⟨#[]⟩, .int .i64 0, .int .i64 0, .int .i64 0] 80))
  have HX0 := hid (heap_alloc_new W (.cells #[.int .i64 0, .string ⟨#[]⟩, .int .i64 0, .int .i64 0, .int .i64 0] 80))
  have HP := hid (h.low HB0.out)
  have HPW := hid h
  have HTL := hid (show ∀ k, W.heap.size ≤ k → tv.ownBlock ≠ some k from fun k hk e => (by have h1 := h.tlt _ e; have h2 := h.pbB; have h3 := lt_blk h.box; omega))
  have HMK := hid (mark_any HP.out m)
  have hns := h.ns
  clear h
  unfold openP
  unfold markP at HMK
  by_cases hm : isM T s m.toList = true
  · rw [if_pos hm]
    rw [if_pos hm] at HMK
    clear hm
    obtain ⟨t, ht⟩ : ∃ t, t = tk T s.nx := ⟨_, rfl⟩
    rw [← ht] at HMK ⊢
    unfold L.tv at HMK ⊢
    clear ht
    by_cases h32 : s.ns = 32
    · rw [if_pos h32]
      have e1 : ((s.ns : Int) == 32) = true := by simp [h32]
      have HH := hid h32
      clear h32
      go_enter Tryz.func97, Tryz.ntmps97
      go_upto_region 1 with (fail)
      generalize W.alloc (.cells #[.int .i64 0, .string ⟨#[]⟩, .int .i64 0, .int .i64 0, .int .i64 0] 80) = X at *
      go_upto_region 2 with (go_at_call 99; refine HMK.out.mono ?_; rintro e Y ⟨rfl, v', o', ks', hp, hf⟩; have HPY := hid hp; have HFY := hid ((Fp.of v o HB0.out).trans hf); clear hp hf)
      have HB2 := hid (belowA Y (.cells #[.int .i64 (t.kind : Int), .string t.text, .int .i64 t.num, .int .i64 (t.a : Int), .int .i64 (t.e : Int)] 80))
      have HX2 := hid (heap_alloc_new Y (.cells #[.int .i64 (t.kind : Int), .string t.text, .int .i64 t.num, .int .i64 (t.a : Int), .int .i64 (t.e : Int)] 80))
      have HPZ := hid (HPY.out.low HB2.out)
      have HFZ := hid (HFY.out.below HB2.out)
      generalize Y.alloc (.cells #[.int .i64 (t.kind : Int), .string t.text, .int .i64 t.num, .int .i64 (t.a : Int), .int .i64 (t.e : Int)] 80) = Z at *
      generalize Y.heap.size = b1 at *
      have c2 : Z.cell? ⟨pb, 2, none⟩ = some (.int .i64 (s.ns : Int)) := cell_of_row _ _ 2 _ _ _ HPZ.out.box
      have d3 : Z.cell? ⟨b1, 3, none⟩ = some (.int .i64 (t.a : Int)) := cell_of_row _ _ 3 _ _ _ HX2.out
      go_wp2_with (go_at_call 36; refine (giveup_any 122 (t.a : Int) _).mono ?_; rintro e V ⟨N, rfl, hf, l2⟩; have HF := hid hf; have L2 := hid l2; clear hf l2)
      exact ⟨rfl, N, rfl, HF.out, HPW.out.below (HFZ.out.below L2.out)⟩
    · rw [if_neg h32]
      have e1 : ((s.ns : Int) == 32) = false := by simp; omega
      have h33 : s.ns + 1 ≤ 32 := by omega
      clear h32
      go_enter Tryz.func97, Tryz.ntmps97
      go_upto_region 1 with (fail)
      generalize W.alloc (.cells #[.int .i64 0, .string ⟨#[]⟩, .int .i64 0, .int .i64 0, .int .i64 0] 80) = X at *
      go_upto_region 2 with (go_at_call 99; refine HMK.out.mono ?_; rintro e Y ⟨rfl, v', o', ks', hp, hf⟩; have HPY := hid hp; have HXY := hid ((hf.block _ (lt_blk HX0.out) (fun e => (by have h1 := HPW.out.box; rw [← e] at h1; have := lt_blk h1; omega)) (fun e => (by have := (row_at HPW.out.parts.row e).2.1; omega)) (fun e => (by have := (row_at HPW.out.offs e).2.1; omega))).trans HX0.out); have HFY := hid ((Fp.of v o HB0.out).trans hf); clear hp hf)
      have HB2 := hid (belowA Y (.cells #[.int .i64 (t.kind : Int), .string t.text, .int .i64 t.num, .int .i64 (t.a : Int), .int .i64 (t.e : Int)] 80))
      have HX2 := hid (heap_alloc_new Y (.cells #[.int .i64 (t.kind : Int), .string t.text, .int .i64 t.num, .int .i64 (t.a : Int), .int .i64 (t.e : Int)] 80))
      have HPZ := hid (HPY.out.low HB2.out)
      have HFZ := hid (HFY.out.below HB2.out)
      have HWZ := hid ((HB2.out.block _ (lt_blk HXY.out)).trans HXY.out)
      generalize Y.alloc (.cells #[.int .i64 (t.kind : Int), .string t.text, .int .i64 t.num, .int .i64 (t.a : Int), .int .i64 (t.e : Int)] 80) = Z at *
      generalize Y.heap.size = b1 at *
      have c2 : Z.cell? ⟨pb, 2, none⟩ = some (.int .i64 (s.ns : Int)) := cell_of_row _ _ 2 _ _ _ HPZ.out.box
      have f2 := frz_row HPZ.out.box 2
      go_upto_region 5 with (fail)
      have HV1 := hid (show (Z.setCell ⟨pb, 2, none⟩ (.int .i64 ((s.ns : Int) + 1))).heap[pb]? = some (.cells #[tv, .int .i64 ((s.nx + 1 : Nat) : Int), .int .i64 ((s.ns : Int) + 1), v', o'] 63 (0, 0)) by rw [setCell_eq_setRow _ _ _ _ _ _ _ HPZ.out.box, setRow_heap _ _ _ _ _ _ HPZ.out.box]; rfl)
      have HVO := hid (fun k (hk : k ≠ pb) => set_oth (k := k) HPZ.out.box 2 (.int .i64 ((s.ns : Int) + 1)) hk)
      have HPV := hid (show PM pb B Nb tv T (Z.setCell ⟨pb, 2, none⟩ (.int .i64 ((s.ns : Int) + 1))) { adv s with ns := s.ns + 1 } v' o' ks' from HPZ.out.chg (show (Z.setCell ⟨pb, 2, none⟩ (.int .i64 ((s.ns : Int) + 1))).heap[pb]? = some (.cells #[tv, .int .i64 ((s.nx + 1 : Nat) : Int), .int .i64 ((s.ns + 1 : Nat) : Int), v', o'] 63 (0, 0)) by rw [Int.natCast_add s.ns]; exact HV1.out) (fun k _ h2 => HVO.out k h2) rfl rfl HPZ.out.nx h33)
      have HFV := hid (HFZ.out.trans (Fp.chg v' o' rfl rfl rfl (by simp) (fun k _ h2 => HVO.out k h2) : Fp pb Z v' o' (Z.setCell ⟨pb, 2, none⟩ (.int .i64 ((s.ns : Int) + 1))) v' o'))
      have HNB := hid (show b1 ≠ pb from fun e => (by have h1 := HX2.out; rw [e, HPZ.out.box] at h1; cases h1))
      have HNW := hid (show W.heap.size ≠ pb from fun e => (by have h1 := HWZ.out; rw [e, HPZ.out.box] at h1; cases h1))
      have HB1 := hid ((HVO.out _ HNB.out).trans HX2.out)
      have HW1 := hid ((HVO.out _ HNW.out).trans HWZ.out)
      clear c2 f2
      generalize Z.setCell ⟨pb, 2, none⟩ (.int .i64 ((s.ns : Int) + 1)) = V at *
      have ⟨d0, d1, d2, d3, d4⟩ : V.cell? ⟨b1, 0, none⟩ = some (.int .i64 (t.kind : Int)) ∧ V.cell? ⟨b1, 1, none⟩ = some (.string t.text) ∧ V.cell? ⟨b1, 2, none⟩ = some (.int .i64 t.num) ∧ V.cell? ⟨b1, 3, none⟩ = some (.int .i64 (t.a : Int)) ∧ V.cell? ⟨b1, 4, none⟩ = some (.int .i64 (t.e : Int)) := ⟨cell_of_row _ _ 0 _ _ _ HB1.out, cell_of_row _ _ 1 _ _ _ HB1.out, cell_of_row _ _ 2 _ _ _ HB1.out, cell_of_row _ _ 3 _ _ _ HB1.out, cell_of_row _ _ 4 _ _ _ HB1.out⟩
      refine wp_region_lit ?_
      refine wpList_plain rfl fun K hK => ?_
      have HK := hid hK
      clear hK
      go_simp
      refine HK.out _ _ ?_
      clear HK
      try simp only [Act.put, List.setIfInBounds_toArray, List.set_cons_zero, List.set_cons_succ]
      refine wpList_store_row rfl 80 _ _ rfl W.heap.size #[.int .i64 (t.kind : Int), .string t.text, .int .i64 t.num, .int .i64 (t.a : Int), .int .i64 (t.e : Int)] rfl rfl 80 _ HW1.out infoTk rfl (by kernel_rfl) ?_
      try simp only [Act.put, List.setIfInBounds_toArray, List.set_cons_zero, List.set_cons_succ]
      have HVV := hid (setRow_heap V _ _ #[.int .i64 (t.kind : Int), .string t.text, .int .i64 t.num, .int .i64 (t.a : Int), .int .i64 (t.e : Int)] _ _ HW1.out)
      have HPU := hid (HPV.out.row HW1.out (HTL.out _ (Nat.le_refl _)) #[.int .i64 (t.kind : Int), .string t.text, .int .i64 t.num, .int .i64 (t.a : Int), .int .i64 (t.e : Int)])
      have HFU := hid (fp_row HFV.out W.heap.size #[.int .i64 (t.kind : Int), .string t.text, .int .i64 t.num, .int .i64 (t.a : Int), .int .i64 (t.e : Int)] (Nat.le_refl _))
      clear d0 d1 d2 d3 d4
      generalize V.setRow W.heap.size #[.int .i64 (t.kind : Int), .string t.text, .int .i64 t.num, .int .i64 (t.a : Int), .int .i64 (t.e : Int)] = U at *
      go_wp2_with fail
      exact ⟨rfl, .agg #[.int .i64 (t.kind : Int), .string t.text, .int .i64 t.num, .int .i64 (t.a : Int), .int .i64 (t.e : Int)], results_cell_row Tryz.results97 _ U W.heap.size 80 #[.int .i64 (t.kind : Int), .string t.text, .int .i64 t.num, .int .i64 (t.a : Int), .int .i64 (t.e : Int)] (0, 0) _ rfl HVV.out Tryz.underlying80 rfl infoTk, rfl, v', o', ks', HPU.out, HFU.out⟩
  · rw [if_neg hm]
    rw [if_neg hm] at HMK
    clear hm
    go_enter Tryz.func97, Tryz.ntmps97
    go_upto_region 1 with (fail)
    generalize W.alloc (.cells #[.int .i64 0, .string ⟨#[]⟩, .int .i64 0, .int .i64 0, .int .i64 0] 80) = X at *
    go_wp2_with (go_at_call 99; refine HMK.out.mono ?_; rintro e Y ⟨N, rfl, hf, l⟩; have HF := hid hf; have L1 := hid l; clear hf l)
    exact ⟨rfl, N, rfl, HF.out, (HB0.out.mono (by have h1 := HPW.out.pbB; have h2 := lt_blk HPW.out.box; omega)).trans L1.out⟩
end Go.Proofs.YtlhlpamciafocaaGreatDoor.L
namespace Go.Proofs.YtlhlpamciafocaaGreatDoor.Ap
open Go.RowKit
set_option linter.unusedVariables false
section
variable {P : Program} (w : World)
/-- What an append leaves as it was: rows of other blocks, and what was there of the row itself. -/
theorem append_stays (base : Nat) (t ty e : TypeId) (i : TypeInfo) (z : Value) (size bytes : Nat) (ht : P.underlying t = some (.slice e)) (hi : P.info? e = some i) (hz : i.zero = some z)
    (hsize : i.size = size) (hby : i.bytes = bytes)
    (v : Value) (n : Nat) (xs : List Value) (hown : w.ownsRow base e size v n xs)
    (a : Addr) (m c : Nat) (news : List Value) (hl : news.length = m * size) (hnews : ∀ j u, news[j]? = some u → w.cell? (a.add j) = some u) (h1 : ∀ u ∈ news, u.oneCell' = true)
    (h63 : n + m ≤ maxLen) (hbytes : (n + m) * bytes ≤ 140737488355328) (hm : 0 < m) {v' : Value} {w' : World}
    (hr : (Builtin.append_ #[t, t] ty #[v, .slice (some a) m c]).run P w = .ok v' w') :
    (∀ b u n0 ys, w.ownsRow b e size u n0 ys → (n0 ≤ n ∨ u.ownBlock ≠ v.ownBlock) → w'.ownsRow b e size u n0 ys) ∧ (v'.ownBlock = v.ownBlock ∨ v'.ownBlock = some w.heap.size) := by
  subst hsize
  subst hby
  have h63' : n + m ≤ 9223372036854775807 := by simp only [maxLen] at h63; omega
  have moved : ∀ (o : Obj) b u n0 ys, w.ownsRow b e i.size u n0 ys → (w.drew.alloc o).ownsRow b e i.size u n0 ys := fun o b u n0 ys h =>
    h.kept (row := none) ⟨rfl, rfl, rfl, by simp, fun k hk _ => heap_alloc_old w.drew _ hk⟩ (by cases u.ownBlock <;> simp)
  rcases hown.2 with ⟨rfl, rfl⟩ | ⟨g, cap, cur, rfl, hbg, hg, hnc, hcm, hcs, htake⟩
  · have hr' := run_append_nil (P := P) w t ty e i z ht hi hz a m c news hl hnews (by omega) (by omega) (by have hb := hbytes; simp only [Nat.zero_add] at hb; omega)
    rw [hr] at hr'
    injection hr' with e1 e2
    subst e1 e2
    exact ⟨fun b u n0 ys h _ => moved _ b u n0 ys h, Or.inr rfl⟩
  · by_cases hroom : n + m ≤ cap
    · have hfit : n * i.size + news.length ≤ cur.size := by rw [hl, hcs, ← Nat.add_mul]; exact Nat.mul_le_mul_right _ hroom
      have hr' := run_append_room (P := P) w t ty e i ht hi g n cap cur hg a m c news hl hnews h1 hroom hfit
      rw [hr] at hr'
      injection hr' with e1 e2
      subst e1 e2
      refine ⟨fun b u n0 ys h ho => ?_, Or.inl rfl⟩
      by_cases hu : u.ownBlock = some g
      · have hn0 : n0 ≤ n := by
          rcases ho with h | h
          · exact h
          · exact absurd hu h
        rcases h.2 with ⟨rfl, _⟩ | ⟨g', cap', cur', rfl, hb', hg', hnc', hcm', hcs', htake'⟩
        · simp [Value.ownBlock] at hu
        · simp [Value.ownBlock] at hu
          subst hu
          rw [hg] at hg'
          injection hg' with hg'
          injection hg' with hg' _ _
          subst hg'
          have hle : n0 * i.size ≤ n * i.size := Nat.mul_le_mul_right _ hn0
          refine ⟨h.1, Or.inr ⟨g', cap', _, rfl, hb', setRow_heap w g' cur _ e _ hg, hnc', hcm', ?_, ?_⟩⟩
          · simp only [List.size_toArray, List.length_append, List.length_take, List.length_drop, Array.length_toList]
            omega
          · have hcl : n * i.size ≤ cur.toList.length := by rw [Array.length_toList]; omega
            show List.take (n0 * i.size) (cur.toList.take (n * i.size) ++ news ++ cur.toList.drop (n * i.size + news.length)) = ys
            rw [List.append_assoc, List.take_append_of_le_length (by rw [List.length_take]; omega), List.take_take, Nat.min_eq_left hle]
            exact htake'
      · refine h.kept (row := some g) ⟨rfl, rfl, rfl, by simp, fun k _ hk => setRow_other w g k _ (fun e => hk (by rw [e]))⟩ ?_
        exact Or.inr hu
    · have holds : ∀ j u, xs[j]? = some u → w.cell? ((⟨g, 0, none⟩ : Addr).add j) = some u := hown.cells (g := g) rfl
      have hr' := run_append_grow (P := P) w t ty e i z ht hi hz ⟨g, 0, none⟩ n cap xs hown.1 holds a m c news hl hnews (by omega) (by omega) (growslice_fits (by omega) hbytes)
      rw [hr] at hr'
      injection hr' with e1 e2
      subst e1 e2
      exact ⟨fun b u n0 ys h _ => moved _ b u n0 ys h, Or.inr rfl⟩
/-- An append to a row of one's own that tells what stays. -/
theorem wpList_append_stays {ops : Array Oper} {rest : List Oper} {o : Oper} {a : Act} {Q : Exit → Act → World → Prop} (hgd : o.guard = none) (s x : Operand) (t : TypeId)
    (ho : o.op = .call { callee := .builtin .append, args := #[s, x], argTypes := #[t, t] })
    (base : Nat) (e : TypeId) (i : TypeInfo) (z : Value) (size bytes : Nat) (ht : P.underlying t = some (.slice e)) (hi : P.info? e = some i) (hz : i.zero = some z)
    (hsize : i.size = size) (hby : i.bytes = bytes) (hzs : z.cells.size = size) (hsz : 0 < size)
    (v : Value) (n : Nat) (xs : List Value) (hs : a.eval s = v) (hown : w.ownsRow base e size v n xs)
    (ad : Addr) (m c : Nat) (news : List Value) (hx : a.eval x = .slice (some ad) m c) (hl : news.length = m * size) (hnews : ∀ j u, news[j]? = some u → w.cell? (ad.add j) = some u) (h1 : ∀ u ∈ news, u.oneCell' = true)
    (h63 : n + m ≤ maxLen) (hbytes : (n + m) * bytes ≤ 140737488355328) (hbase : base ≤ w.heap.size) (hm : 0 < m)
    (h : ∀ v' w', w'.ownsRow base e size v' (n + m) (xs ++ news) → w.grownBy w' v.ownBlock → (∀ b u n0 ys, w.ownsRow b e size u n0 ys → (n0 ≤ n ∨ u.ownBlock ≠ v.ownBlock) → w'.ownsRow b e size u n0 ys) → (v'.ownBlock = v.ownBlock ∨ v'.ownBlock = some w.heap.size) → wpList P ops Q rest (a.put o.dst v') w') : wpList P ops Q (o :: rest) a w :=
  wpList_plain hgd fun _ hK => by
    obtain ⟨v', w', hr, h2, h3, _⟩ := run_append_own (P := P) w base t o.type e i z size bytes ht hi hz hsize hby hzs hsz v n xs hown ad m c news hl hnews h1 h63 hbytes hbase
    have h4 := append_stays (P := P) w base t o.type e i z size bytes ht hi hz hsize hby v n xs hown ad m c news hl hnews h1 h63 hbytes hm hr
    unfold Oper.wp execOp
    simp only [ho, resolve, invoke, builtin, Sem.run_bind, Sem.run_pure, Result.andThen_ok, List.map_toArray, List.map_cons, List.map_nil, hs, hx, hr]
    exact hK _ _ (h v' w' h2 h3 h4.1 h4.2)
end
section
variable (e eS : TypeId) (K : Nat) (mk bh : Nat → Nat → Value)
variable {e eS K mk bh}
variable (mk bh)
variable {mk bh}
variable (e eS K mk bh)
variable {e eS K mk bh}
variable (e eS K mk bh)
variable {e eS K mk bh}
end
section
variable {eT eS : TypeId} {K : Nat} {bh : Nat → Nat → Value}
end
end Go.Proofs.YtlhlpamciafocaaGreatDoor.Ap
