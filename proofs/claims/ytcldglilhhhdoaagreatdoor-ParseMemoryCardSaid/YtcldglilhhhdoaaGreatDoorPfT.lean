import Derived.Test.YtcldglilhhhdoaaGreatDoorMgAX
namespace Go.Proofs.YtcldglilhhhdoaaGreatDoor.L
open Go.RowKit
set_option linter.unusedVariables false
set_option linter.unusedSimpArgs false
/-- What the document's Parse answers. -/
def RpR (src : ByteArray) (w : World) (e : Ending) (w' : World) : Prop :=
 match parR src with
 | .ok s => ∃ mb B tv T ws fr fl wv v o f ks, w.heap.size ≤ B ∧ e = .returned (.tuple #[.agg #[v], o, .agg (f19 0 0)]) ∧ MM mb B tv T w' s ws fr fl wv v o f ks
 | .error (c, x) => e = .returned (.tuple #[.agg #[.slice none 0 0], .slice none 0 0, .agg (f19 (c : Int) x)])
theorem rpr_err {src : ByteArray} {w w' : World} {c : Nat} {x : Int} {FC : Array Value} (h : parR src = .error (c, x)) (hf : FC = f19 (c : Int) x) : RpR src w (.returned (.tuple #[.agg #[.slice none 0 0], .slice none 0 0, .agg FC])) w' := by
 unfold RpR
 rw [h, hf]
theorem rpr_ok {src : ByteArray} {w w' : World} {s : PS} {mb B : Nat} {tv : Value} {T : List Tok} {ws : List Wn} {fr : List Int} {fl FC : Array Value} {wv v o f : Value} {ks : Nat → Value} (h : parR src = .ok s) (hB : w.heap.size ≤ B) (hf : FC = f19 0 0) (hm : MM mb B tv T w' s ws fr fl wv v o f ks) : RpR src w (.returned (.tuple #[.agg #[v], o, .agg FC])) w' := by
 unfold RpR
 rw [h, hf]
 exact ⟨mb, B, tv, T, ws, fr, fl, wv, v, o, f, ks, hB, rfl, hm⟩
theorem rn_inv {T : List Tok} {n : Nat} {ws : List Wn} {s : PS} {fr : List Int} {R : PRes (List Int)} (h : Rn T n ws s fr R) : (ws = [] ∧ R = .ok (fr, s)) ∨ (∃ w ws', ws = w :: ws' ∧ ws'.length < 200 ∧ ((∃ c x, stepM T w s fr = .error (c, x) ∧ R = .error (c, x)) ∨ (∃ m ps fr' s', n = m + 1 ∧ stepM T w s fr = .ok ((ps, fr'), s') ∧ Rn T m (ps ++ ws') s' fr' R))) := by
 cases h with
 | fin s fr => exact Or.inl ⟨rfl, rfl⟩
 | bad hl h => exact Or.inr ⟨_, _, rfl, hl, Or.inl ⟨_, _, h, rfl⟩⟩
 | go hl h hn => exact Or.inr ⟨_, _, rfl, hl, Or.inr ⟨_, _, _, _, rfl, h, hn⟩⟩
theorem MM.fc {mb B : Nat} {tv : Value} {T : List Tok} {W : World} {s : PS} {ws : List Wn} {fr : List Int} {fl : Array Value} {wv v o f : Value} {ks : Nat → Value} (h : MM mb B tv T W s ws fr fl wv v o f ks) (j : Nat) : W.cell? ⟨mb, 7 + j, none⟩ = fl[j]? := by
 rw [cell_of_row _ _ (7 + j) _ _ _ h.box]
 unfold mc
 rw [Array.getElem?_append_right (by simp)]
 congr 1
 show 7 + j - 7 = j
 omega
theorem pst_ok {mb B : Nat} {tv : Value} {T : List Tok} {ws : List Wn} {fl : Array Value} {r : MR} {W' : World} {ps : List Wn} {fr' : List Int} {s' : PS} (h : Pst mb B tv T ws fl r W') (e : r = .ok ((ps, fr'), s')) : ∃ wv v o f ks, MM mb B tv T W' s' (ps ++ ws) fr' fl wv v o f ks := by
 rw [e] at h
 exact h
theorem pst_bad {mb B : Nat} {tv : Value} {T : List Tok} {ws : List Wn} {fl : Array Value} {r : MR} {W' : World} {c : Nat} {x : Int} (h : Pst mb B tv T ws fl r W') (e : r = .error (c, x)) : ∃ s' ws' fr' wv v o f ks, MM mb B tv T W' s' ws' fr' (f19 c x) wv v o f ks := by
 rw [e] at h
 exact h
/-- The boxes of Parse's answers are written. -/
theorem two_rows {W : World} {bt : Nat} {a b : Array Value} (ht : W.heap[bt]? = some (.cells a 25 (0, 0))) (he : W.heap[bt + 1]? = some (.cells b 35 (0, 0))) (x y : Array Value) : ((W.setRow bt x).setRow (bt + 1) y).heap[bt]? = some (.cells x 25 (0, 0)) ∧ ((W.setRow bt x).setRow (bt + 1) y).heap[bt + 1]? = some (.cells y 35 (0, 0)) ∧ ∀ k, k ≠ bt → k ≠ bt + 1 → ((W.setRow bt x).setRow (bt + 1) y).heap[k]? = W.heap[k]? := by
 refine ⟨(setRow_other _ _ _ _ (by omega)).trans (setRow_heap _ _ _ _ _ _ ht), setRow_heap _ _ _ _ _ _ ((setRow_other _ _ _ _ (by omega)).trans he), fun k h1 h2 => (setRow_other _ _ _ _ h2).trans (setRow_other _ _ _ _ h1)⟩
theorem MM.other {mb B : Nat} {tv : Value} {T : List Tok} {W : World} {s : PS} {ws : List Wn} {fr : List Int} {fl : Array Value} {wv v o f : Value} {ks : Nat → Value} {W' : World} {bt : Nat} (h : MM mb B tv T W s ws fr fl wv v o f ks) (hb : bt + 1 < B) (hk : ∀ k, k ≠ bt → k ≠ bt + 1 → W'.heap[k]? = W.heap[k]?) : MM mb B tv T W' s ws fr fl wv v o f ks := by
 have key : ∀ {e : TypeId} {size n : Nat} {u : Value} {xs : List Value}, W.ownsRow B e size u n xs → W'.ownsRow B e size u n xs := fun hr => row_kept hr (fun k hkk => hk k (by have := (row_at hr hkk).1; omega) (by have := (row_at hr hkk).1; omega))
 have hm := h.mbB
 exact ⟨(hk mb (by omega) (by omega)).trans h.box, h.fl19, key h.tok, key h.wants, ⟨key h.parts.row, fun j hj => key (h.parts.kids j hj)⟩, key h.offs, key h.free, h.mbB, h.nx, h.ns, h.tl, h.fin, h.ko, h.kf, h.of⟩
theorem below_two {w W W' : World} {bt : Nat} (h : Below w.heap.size w W) (hw : w.heap.size = bt) (hs : W.heap.size ≤ W'.heap.size) (h1 : W'.os = W.os) (h2 : W'.tape = W.tape) (h3 : W'.output = W.output) (hk : ∀ k, k ≠ bt → k ≠ bt + 1 → W'.heap[k]? = W.heap[k]?) : Below w.heap.size w W' :=
 ⟨h1.trans h.os, h2.trans h.tape, h3.trans h.output, Nat.le_trans h.size hs, fun k hkk => (hk k (by omega) (by omega)).trans (h.block k hkk)⟩
set_option maxHeartbeats 16000000 in
set_option maxRecDepth 100000 in
theorem rparse_any (src : ByteArray) (w : World) : Calls Tryz.prog 11 #[.string src] w fun e w' => RpR src w e w' ∧ Below w.heap.size w w' := by
 obtain ⟨ZC, hz⟩ : ∃ ZC : Array Value, ZC = f19 0 0 := ⟨_, rfl⟩
 have HZC := hid hz
 have HZ9 := hid (show ZC.size = 19 by rw [hz]; rfl)
 clear hz
 have e1 : (#[.int .i64 0, .int .i64 0, .string ⟨#[]⟩, .int .i64 0, .int .i64 0, .int .i64 0, .string ⟨#[]⟩, .int .i64 0, .int .i64 0, .int .i64 0, .string ⟨#[]⟩, .int .i64 0, .int .i64 0, .int .i64 0, .string ⟨#[]⟩, .int .i64 0, .int .i64 0, .int .i64 0, .string ⟨#[]⟩] : Array Value) = ZC := by rw [HZC.out]; rfl
 have HB1 := hid (show Below w.heap.size w ((w.alloc (.cells #[.slice none 0 0] 25)).alloc (.cells ZC 35)) from (belowA w _).trans ((belowA _ _).mono (belowA w _).size))
 have HT1 := hid (show ((w.alloc (.cells #[.slice none 0 0] 25)).alloc (.cells ZC 35)).heap[w.heap.size]? = some (.cells #[.slice none 0 0] 25 (0, 0)) from ((belowA (w.alloc (.cells #[.slice none 0 0] 25)) (.cells ZC 35)).block _ (by simp)).trans (heap_alloc_new w _))
 have HE1 := hid (show ((w.alloc (.cells #[.slice none 0 0] 25)).alloc (.cells ZC 35)).heap[w.heap.size + 1]? = some (.cells ZC 35 (0, 0)) by have h1 := heap_alloc_new (w.alloc (.cells #[.slice none 0 0] 25)) (.cells ZC 35); rw [World.size_alloc] at h1; exact h1)
 have HZ1 := hid (show w.heap.size + 2 = ((w.alloc (.cells #[.slice none 0 0] 25)).alloc (.cells ZC 35)).heap.size by simp)
 go_enter Tryz.func11, Tryz.ntmps11
 go_upto_region 1 with fail
 generalize ((w.alloc (.cells #[.slice none 0 0] 25)).alloc (.cells ZC 35)) = W1 at *
 clear e1
 obtain ⟨bt, hbt⟩ : ∃ bt, bt = w.heap.size := ⟨_, rfl⟩
 have HBT := hid hbt
 rw [← hbt] at HT1 HE1 HZ1 ⊢
 clear hbt
 go_wp2_with fail
 refine (rscan_any src W1).mono ?_
 rintro e W2 ⟨l, hs⟩
 have HB2 := hid l
 have HT2 := hid ((l.block _ (lt_blk HT1.out)).trans HT1.out)
 have HE2 := hid ((l.block _ (lt_blk HE1.out)).trans HE1.out)
 have HBW := hid (HB1.out.trans (l.mono HB1.out.size))
 clear l
 rcases hs with ⟨v, hs, rfl, ho⟩ | ⟨c, a, hs, rfl⟩
 ·obtain ⟨ta, tc, rfl⟩ := own_len ho
  obtain ⟨tn, htn⟩ : ∃ tn, tn = (scanT src).1.length := ⟨_, rfl⟩
  have HTN := hid htn
  rw [← htn] at ho ⊢
  have HO := hid ho
  have HPN := hid (show parR src = match wholeP (scanT src).1 16392 with | .ok (_, s) => .ok s | .error e => .error e by unfold parR; rw [hs]; rfl)
  have HSF := hid (scan_fin2 hs)
  have HLN := hid (scanT_len src)
  clear htn ho hs
  obtain ⟨T, hT⟩ : ∃ T, T = (scanT src).1 := ⟨_, rfl⟩
  rw [← hT] at HTN HO HPN HSF HLN
  clear hT
  obtain ⟨R, hR⟩ : ∃ R, R = endM T := ⟨_, rfl⟩
  have HR := hid hR
  have HRS := hid (machine_go HLN.out HSF.out.1)
  rw [← hR] at HRS
  clear hR
  obtain ⟨B, hB⟩ : ∃ B, B = W1.heap.size := ⟨_, rfl⟩
  have HBE := hid hB
  rw [← hB] at HO HB2 HZ1
  clear hB
  obtain ⟨MC, hmc⟩ : ∃ MC : Array Value, MC = mc (.slice ta tn tc) 0 (.slice none 0 0) (.slice none 0 0) (.slice none 0 0) (.slice none 0 0) 0 (f19 0 0) := ⟨_, rfl⟩
  have HMC := hid hmc
  clear hmc
  have e1 : (#[.slice ta tn tc, .int .i64 0, .slice none 0 0, .slice none 0 0, .slice none 0 0, .slice none 0 0, .int .i64 0, .int .i64 0, .int .i64 0, .string ⟨#[]⟩, .int .i64 0, .int .i64 0, .int .i64 0, .string ⟨#[]⟩, .int .i64 0, .int .i64 0, .int .i64 0, .string ⟨#[]⟩, .int .i64 0, .int .i64 0, .int .i64 0, .string ⟨#[]⟩, .int .i64 0, .int .i64 0, .int .i64 0, .string ⟨#[]⟩] : Array Value) = MC := by rw [HMC.out]; rfl
  have HM1 := hid (MM.new (by rw [HBE.out]; exact HB2.out.size) HO.out HSF.out.1 HLN.out HSF.out.2)
  rw [← HMC.out] at HM1
  have HB3 := hid (belowA W2 (.cells MC 71))
  have HG1 := hid (Fmm.of HB3.out (show B ≤ W2.heap.size by rw [HBE.out]; exact HB2.out.size))
  go_upto_region 5 with fail
  clear e1
  generalize W2.alloc (.cells MC 71) = Y1 at *
  generalize W2.heap.size = mb at *
  go_wp2_with fail
  refine (mpush_any HM1.out (awt 12) (by decide)).mono ?_
  rintro e Y2 ⟨rfl, ⟨wv2, h8⟩, h9⟩
  have HM2 := hid h8
  have HG2 := hid (HG1.out.trans h9)
  clear h8 h9
  go_wp2_with fail
  refine (mpush_any HM2.out (awt 1) (by decide)).mono ?_
  rintro e Y3 ⟨rfl, ⟨wv3, h8⟩, h9⟩
  have HM3 := hid h8
  have HG3 := hid (HG2.out.trans h9)
  clear h8 h9
  obtain ⟨I, hI⟩ : ∃ I : Nat → World → Prop, I = fun n Y => ∃ ws s fr wv v o f ks, MM mb B (.slice ta tn tc) T Y s ws fr (f19 0 0) wv v o f ks ∧ Bi ws s fr ∧ Rn T n ws s fr R ∧ Fmm B W2 Y := ⟨_, rfl⟩
  have HI := hid hI
  obtain ⟨ms, hms⟩ := least_fn I
  have HMS := hid hms
  obtain ⟨n0, hn0⟩ := HRS.out
  have HST := hid (show ∃ n, I n Y3 from ⟨n0, by rw [hI]; exact ⟨_, _, _, _, _, _, _, _, HM3.out, Bi.first, hn0, HG3.out⟩⟩)
  clear hI hms hn0 HM1 HM2 HM3 HG1 HG2 HG3 HRS HMC
  go_wp2_with fail
  go_loopw [9] (fun p wr => Hid (∃ n, I n wr)) (fun _ wr => ms wr)
  case atStart => exact HST
  case round =>
   obtain ⟨n1, hn1⟩ := hrel.out
   have hn := (HMS.out wr n1 hn1).1
   obtain ⟨N, hN⟩ : ∃ N, N = ms wr := ⟨_, rfl⟩
   have HNM := hid hN
   rw [← hN] at hn ⊢
   rw [HI.out] at hn
   clear hn1 hN n1
   obtain ⟨ws, s, fr, wv, v, o, f, ks, hm, hbi, hrn, hff⟩ := hn
   have HFF := hid hff
   clear hff
   rcases rn_inv hrn with ⟨rfl, hR⟩ | ⟨w0, ws, rfl, hl, hcs⟩
   ·have HM := hid hm
    have HRE := hid hR
    have hbl : s.ps.length ≤ 20000 ∧ s.os.length = s.ps.length := by have h1 := hbi.len; have h3 := hbi.pot; have h4 := hm.nx; have h5 := hm.tl; exact ⟨by omega, h1⟩
    clear hm hbi hrn hR
    have HBL := hid hbl
    clear hbl
    obtain ⟨wa, wc, hwv⟩ := own_len HM.out.wants
    have c2 : wr.cell? ⟨mb, 2, none⟩ = some (.slice wa 0 wc) := (HM.out.cell 2 (by decide)).trans (by rw [hwv]; rfl)
    clear hwv
    obtain ⟨pa, pc, hpv⟩ := own_len HM.out.parts.row
    obtain ⟨pn, hpn⟩ : ∃ pn, pn = s.ps.length := ⟨_, rfl⟩
    have HPE := hid (show v = .slice pa pn pc by rw [hpn]; exact hpv)
    have HPL := hid hpn
    have hpb : pn ≤ 20000 := by rw [hpn]; exact HBL.out.1
    clear hpv hpn
    have c3 : wr.cell? ⟨mb, 3, none⟩ = some (.slice pa pn pc) := (HM.out.cell 3 (by decide)).trans (by rw [HPE.out]; rfl)
    have hpm : pn ≤ maxLen := by unfold maxLen; omega
    have HWP := hid (end_ok (HR.out.symm.trans HRE.out))
    rw [← HPL.out] at HWP
    have HT3 := hid ((HFF.out.low.block bt (by have h8 := HZ1.out; omega)).trans HT2.out)
    have HE3 := hid ((HFF.out.low.block (bt + 1) (by have h8 := HZ1.out; omega)).trans HE2.out)
    have HB9 := hid (HBW.out.trans (HFF.out.low.mono (by have h8 := HZ1.out; have h9 := HBT.out; omega)))
    by_cases hbig : 1000 < pn
    ·obtain ⟨og, oc, hov, hol, hoc⟩ := own_at HM.out.offs (i := 1000) (by have h8 := HBL.out.2; have h9 := HPL.out; omega)
     obtain ⟨on, hon⟩ : ∃ on, on = s.os.length := ⟨_, rfl⟩
     obtain ⟨xo, hxo⟩ : ∃ xo, xo = s.os.getD 1000 0 := ⟨_, rfl⟩
     rw [← hon] at hov
     rw [← hxo] at hoc
     have HOV := hid hov
     have HOC := hid hoc
     have HPR := hid (show parR src = .error (123, xo) by rw [HPN.out, HWP.out, if_pos hbig, hxo])
     have d1 : decide ((1000 : Int) < (pn : Int)) = true := by simp; omega
     have hog : og ≠ bt ∧ og ≠ bt + 1 := by have h8 := (row_at HM.out.offs (by rw [hov]; rfl : o.ownBlock = some og)).1; have h9 := HZ1.out; exact ⟨by omega, by omega⟩
     have HOG := hid hog
     have d2 : (1000 : Int) < (on : Int) := by have h8 := HBL.out.2; have h9 := HPL.out; omega
     have d3 : ((123 : Nat) : Int) = 123 := rfl
     obtain ⟨FC, hfc⟩ : ∃ FC : Array Value, FC = f19 ((123 : Nat) : Int) xo := ⟨_, rfl⟩
     have HFC := hid hfc
     have HF9 := hid (show FC.size = 19 by rw [hfc]; rfl)
     have e1 : (#[.int .i64 123, .int .i64 xo, .string ⟨#[]⟩, .int .i64 0, .int .i64 0, .int .i64 0, .string ⟨#[]⟩, .int .i64 0, .int .i64 0, .int .i64 0, .string ⟨#[]⟩, .int .i64 0, .int .i64 0, .int .i64 0, .string ⟨#[]⟩, .int .i64 0, .int .i64 0, .int .i64 0, .string ⟨#[]⟩] : Array Value) = FC := by rw [HFC.out]; rfl
     clear hfc hov hoc hon hxo hog hbig d3
     go_upto_region 14 with fail
     have MS := hid (show ∀ Y : World, (∀ k, k ≠ bt → k ≠ bt + 1 → Y.heap[k]? = wr.heap[k]?) → (fun Y : World => Y.cell? ⟨mb, 4, none⟩ = some (.slice (some ⟨og, 0, none⟩) on oc) ∧ Y.cell? ⟨og, 1000, none⟩ = some (.int .i64 xo)) Y from fun Y hb => ⟨(World.cell?_of_block (a := ⟨mb, 4, none⟩) (hb mb (by have h8 := HM.out.mbB; have h9 := HZ1.out; omega) (by have h8 := HM.out.mbB; have h9 := HZ1.out; omega))).trans ((HM.out.cell 4 (by decide)).trans (by rw [HOV.out]; rfl)), (World.cell?_of_block (a := ⟨og, 1000, none⟩) (hb og HOG.out.1 HOG.out.2)).trans HOC.out⟩)
     refine wp_region_held_drew (S := (fun Y : World => Y.cell? ⟨mb, 4, none⟩ = some (.slice (some ⟨og, 0, none⟩) on oc) ∧ Y.cell? ⟨og, 1000, none⟩ = some (.int .i64 xo))) (by kernel_rfl) ?_ (fun hHeld => ?_)
     ·exact MS.out _ (fun _ _ _ => rfl)
     have HTZ := hid (show wr.drew.heap[bt]? = _ from HT3.out)
     have HEZ := hid (show wr.drew.heap[bt + 1]? = _ from HE3.out)
     have HZ0 := hid (show ∀ k, k ≠ bt → k ≠ bt + 1 → wr.drew.heap[k]? = wr.heap[k]? from fun _ _ _ => rfl)
     have HBZ := hid (show Below w.heap.size w wr.drew from HB9.out.drew)
     generalize wr.drew = Z0 at *
     refine wpAnyH_take (i := 0) (oi := { dst := some 83, op := Op.build 25 #[], type := 25, pos := "ref.go:472", after := #[], guard := none }) (v := ?_) rfl (by kernel_rfl) (by kernel_rfl) (by kernel_rfl) (fun _ _ _ h => h) (Or.inl ⟨by rfl, ?_⟩) (by assumption) ?_
     rotate_left
     ·(intro w hSw; (try dsimp only at hSw); go_simp; try with_reducible rfl)
     try simp only [Act.put, List.setIfInBounds_toArray, List.set_cons_zero, List.set_cons_succ]
     refine wpAnyH_take (i := 1) (oi := { dst := some 84, op := Op.move (Operand.tmp 8), type := 68, pos := "ref.go:472", after := #[{ on := 9, ground := Ground.gcOnly Departure.lateStores }], guard := none }) (v := ?_) rfl (by kernel_rfl) (by kernel_rfl) (by kernel_rfl) (fun _ _ _ h => h) (Or.inl ⟨by rfl, ?_⟩) (by assumption) ?_
     rotate_left
     ·(intro w hSw; (try dsimp only at hSw); go_simp; try with_reducible rfl)
     try simp only [Act.put, List.setIfInBounds_toArray, List.set_cons_zero, List.set_cons_succ]
     refine wpAnyH_take (i := 2) (oi := { dst := some 85, op := Op.nilCheck (Operand.tmp 84), type := 0, pos := "ref.go:472", after := #[{ on := 1, ground := Ground.data }, { on := 9, ground := Ground.gcOnly Departure.lateStores }], guard := none }) (v := ?_) rfl (by kernel_rfl) (by kernel_rfl) (by kernel_rfl) (fun _ _ _ h => h) (Or.inl ⟨by rfl, ?_⟩) (by assumption) ?_
     rotate_left
     ·(intro w hSw; (try dsimp only at hSw); go_simp; try with_reducible rfl)
     try simp only [Act.put, List.setIfInBounds_toArray, List.set_cons_zero, List.set_cons_succ]
     refine wpAnyH_take (i := 3) (oi := { dst := some 86, op := Op.fieldAddr 71 (Operand.tmp 85) 4, type := 0, pos := "ref.go:472", after := #[{ on := 2, ground := Ground.data }, { on := 9, ground := Ground.gcOnly Departure.lateStores }], guard := none }) (v := ?_) rfl (by kernel_rfl) (by kernel_rfl) (by kernel_rfl) (fun _ _ _ h => h) (Or.inl ⟨by rfl, ?_⟩) (by assumption) ?_
     rotate_left
     ·(intro w hSw; (try dsimp only at hSw); go_simp; try with_reducible rfl)
     try simp only [Act.put, List.setIfInBounds_toArray, List.set_cons_zero, List.set_cons_succ]
     refine wpAnyH_take (i := 4) (oi := { dst := some 87, op := Op.load 26 (Operand.tmp 86), type := 26, pos := "ref.go:472", after := #[{ on := 3, ground := Ground.data }, { on := 9, ground := Ground.gcOnly Departure.lateStores }], guard := none }) (v := ?_) rfl (by kernel_rfl) (by kernel_rfl) (by kernel_rfl) (fun _ _ _ h => h) (Or.inl ⟨by rfl, ?_⟩) (by assumption) ?_
     rotate_left
     ·(intro w hSw; (try dsimp only at hSw); go_simp; try with_reducible rfl)
     try simp only [Act.put, List.setIfInBounds_toArray, List.set_cons_zero, List.set_cons_succ]
     refine wpAnyH_take (i := 5) (oi := { dst := some 88, op := Op.indexAddr 26 (Operand.tmp 87) (Operand.const (Value.int IntKind.i64 1000)), type := 0, pos := "ref.go:472", after := #[{ on := 4, ground := Ground.data }, { on := 9, ground := Ground.gcOnly Departure.lateStores }], guard := none }) (v := ?_) rfl (by kernel_rfl) (by kernel_rfl) (by kernel_rfl) (fun _ _ _ h => h) (Or.inl ⟨by rfl, ?_⟩) (by assumption) ?_
     rotate_left
     ·(intro w hSw; (try dsimp only at hSw); go_simp; try with_reducible rfl)
     try simp only [Act.put, List.setIfInBounds_toArray, List.set_cons_zero, List.set_cons_succ]
     refine wpAnyH_take (i := 6) (oi := { dst := some 89, op := Op.load 3 (Operand.tmp 88), type := 3, pos := "ref.go:472", after := #[{ on := 5, ground := Ground.data }, { on := 9, ground := Ground.gcOnly Departure.lateStores }], guard := none }) (v := ?_) rfl (by kernel_rfl) (by kernel_rfl) (by kernel_rfl) (fun _ _ _ h => h) (Or.inl ⟨by rfl, ?_⟩) (by assumption) ?_
     rotate_left
     ·(intro w hSw; (try dsimp only at hSw); go_simp; try with_reducible rfl)
     try simp only [Act.put, List.setIfInBounds_toArray, List.set_cons_zero, List.set_cons_succ]
     refine wpAnyH_take (i := 7) (oi := { dst := some 90, op := Op.build 35 #[(0, Operand.const (Value.int IntKind.i64 123)), (1, Operand.tmp 89)], type := 35, pos := "ref.go:472", after := #[{ on := 6, ground := Ground.data }, { on := 9, ground := Ground.gcOnly Departure.lateStores }], guard := none }) (v := ?_) rfl (by kernel_rfl) (by kernel_rfl) (by kernel_rfl) (fun _ _ _ h => h) (Or.inl ⟨by rfl, ?_⟩) (by assumption) ?_
     rotate_left
     ·(intro w hSw; (try dsimp only at hSw); go_simp; try with_reducible rfl)
     try simp only [Act.put, List.setIfInBounds_toArray, List.set_cons_zero, List.set_cons_succ]
     refine wpAnyH_ready (rs := [8]) (by kernel_rfl) (by simp) ?_
     refine AllReadyH.cons (o := { dst := none, op := Op.store 25 (Operand.tmp 2) (Operand.tmp 83), type := 0, pos := "ref.go:472", after := #[{ on := 0, ground := Ground.data }, { on := 0, ground := Ground.phase }, { on := 1, ground := Ground.textOnly Departure.lateStores }, { on := 2, ground := Ground.textOnly Departure.lateStores }, { on := 3, ground := Ground.textOnly Departure.lateStores }, { on := 4, ground := Ground.textOnly Departure.lateStores }, { on := 5, ground := Ground.textOnly Departure.lateStores }, { on := 6, ground := Ground.textOnly Departure.lateStores }, { on := 7, ground := Ground.textOnly Departure.lateStores }], guard := none }) rfl (fun K hK => ?_) AllReadyH.nil
     rw [if_pos (by rfl)]
     refine wp_store_row 25 _ _ rfl bt #[.slice none 0 0] rfl rfl 25 _ HTZ.out infoTr rfl (by kernel_rfl) ?_
     refine hK.out _ _ ?_ (fun hHeld => ?_)
     ·exact MS.out _ (fun k h1 h2 => (setRow_other _ _ _ _ h1).trans (HZ0.out k h1 h2))
     clear hK K
     try simp only [Act.put, List.setIfInBounds_toArray, List.set_cons_zero, List.set_cons_succ]
     refine wpAnyH_take (i := 9) (oi := { dst := some 3, op := Op.assign (Operand.const (Value.slice none 0 0)), type := 26, pos := "ref.go:472", after := #[{ on := 8, ground := Ground.chain }, { on := 0, ground := Ground.phase }, { on := 1, ground := Ground.textOnly Departure.lateStores }, { on := 2, ground := Ground.textOnly Departure.lateStores }, { on := 3, ground := Ground.textOnly Departure.lateStores }, { on := 4, ground := Ground.textOnly Departure.lateStores }, { on := 5, ground := Ground.textOnly Departure.lateStores }, { on := 6, ground := Ground.textOnly Departure.lateStores }, { on := 7, ground := Ground.textOnly Departure.lateStores }, { on := 8, ground := Ground.phase }], guard := none }) (v := ?_) rfl (by kernel_rfl) (by kernel_rfl) (by kernel_rfl) (fun _ _ _ h => h) (Or.inl ⟨by rfl, ?_⟩) (by assumption) ?_
     rotate_left
     ·(intro w hSw; (try dsimp only at hSw); go_simp; try with_reducible rfl)
     try simp only [Act.put, List.setIfInBounds_toArray, List.set_cons_zero, List.set_cons_succ]
     refine wpAnyH_ready (rs := [10]) (by kernel_rfl) (by simp) ?_
     refine AllReadyH.cons (o := { dst := none, op := Op.store 35 (Operand.tmp 4) (Operand.tmp 90), type := 0, pos := "ref.go:472", after := #[{ on := 7, ground := Ground.data }, { on := 9, ground := Ground.chain }, { on := 0, ground := Ground.phase }, { on := 1, ground := Ground.phase }, { on := 2, ground := Ground.phase }, { on := 3, ground := Ground.phase }, { on := 4, ground := Ground.phase }, { on := 5, ground := Ground.phase }, { on := 6, ground := Ground.phase }, { on := 7, ground := Ground.phase }, { on := 8, ground := Ground.phase }, { on := 9, ground := Ground.phase }], guard := none }) rfl (fun K hK => ?_) AllReadyH.nil
     rw [if_pos (by rfl)]
     refine wp_store_row 35 _ _ rfl (bt + 1) FC rfl rfl 35 _ ((setRow_other _ _ _ _ (by omega)).trans HEZ.out) (by rw [HF9.out]; exact info19) (by first | rfl | rw [HZ9.out, HF9.out]) (by rw [HFC.out]; kernel_rfl) ?_
     refine hK.out _ _ ?_ (fun hHeld => ?_)
     ·exact MS.out _ (fun k h1 h2 => ((setRow_other _ _ _ _ h2).trans (setRow_other _ _ _ _ h1)).trans (HZ0.out k h1 h2))
     clear hK K hHeld MS
     try simp only [Act.put, List.setIfInBounds_toArray, List.set_cons_zero, List.set_cons_succ]
     refine wpAnyH_done (by kernel_rfl) ?_ _
     have HTR := hid (two_rows HTZ.out HEZ.out #[.slice none 0 0] FC)
     have HSZ := hid (show Z0.heap.size ≤ ((Z0.setRow bt #[.slice none 0 0]).setRow (bt + 1) FC).heap.size by rw [setRow_size, setRow_size]; exact Nat.le_refl _)
     have HBN := hid (below_two HBZ.out HBT.out.symm HSZ.out rfl rfl rfl HTR.out.2.2)
     generalize (Z0.setRow bt #[.slice none 0 0]).setRow (bt + 1) FC = W9 at *
     go_wp2_with fail
     refine ⟨rfl, _, res_rparse _ W9 bt (bt + 1) _ FC rfl rfl HTR.out.1 HTR.out.2.1 HF9.out, ?_⟩
     exact ⟨rpr_err HPR.out HFC.out, HBN.out⟩
    ·obtain ⟨oa, oc, hov⟩ := own_form HM.out.offs
     obtain ⟨on, hon⟩ : ∃ on, on = s.os.length := ⟨_, rfl⟩
     rw [← hon] at hov
     have HOV := hid hov
     have HPR := hid (show parR src = .ok s by rw [HPN.out, HWP.out, if_neg hbig])
     have d1 : decide ((1000 : Int) < (pn : Int)) = false := by simp; omega
     have e1 : (#[.int .i64 0, .int .i64 0, .string ⟨#[]⟩, .int .i64 0, .int .i64 0, .int .i64 0, .string ⟨#[]⟩, .int .i64 0, .int .i64 0, .int .i64 0, .string ⟨#[]⟩, .int .i64 0, .int .i64 0, .int .i64 0, .string ⟨#[]⟩, .int .i64 0, .int .i64 0, .int .i64 0, .string ⟨#[]⟩] : Array Value) = ZC := by rw [HZC.out]; rfl
     clear hov hon hbig
     go_upto_region 15 with fail
     have MS := hid (show ∀ Y : World, (∀ k, k ≠ bt → k ≠ bt + 1 → Y.heap[k]? = wr.heap[k]?) → (fun Y : World => Y.cell? ⟨mb, 3, none⟩ = some (.slice pa pn pc) ∧ Y.cell? ⟨mb, 4, none⟩ = some (.slice oa on oc)) Y from fun Y hb => ⟨(World.cell?_of_block (a := ⟨mb, 3, none⟩) (hb mb (by have h8 := HM.out.mbB; have h9 := HZ1.out; omega) (by have h8 := HM.out.mbB; have h9 := HZ1.out; omega))).trans ((HM.out.cell 3 (by decide)).trans (by rw [HPE.out]; rfl)), (World.cell?_of_block (a := ⟨mb, 4, none⟩) (hb mb (by have h8 := HM.out.mbB; have h9 := HZ1.out; omega) (by have h8 := HM.out.mbB; have h9 := HZ1.out; omega))).trans ((HM.out.cell 4 (by decide)).trans (by rw [HOV.out]; rfl))⟩)
     refine wp_region_held_drew (S := (fun Y : World => Y.cell? ⟨mb, 3, none⟩ = some (.slice pa pn pc) ∧ Y.cell? ⟨mb, 4, none⟩ = some (.slice oa on oc))) (by kernel_rfl) ?_ (fun hHeld => ?_)
     ·exact MS.out _ (fun _ _ _ => rfl)
     have HTZ := hid (show wr.drew.heap[bt]? = _ from HT3.out)
     have HEZ := hid (show wr.drew.heap[bt + 1]? = _ from HE3.out)
     have HZ0 := hid (show ∀ k, k ≠ bt → k ≠ bt + 1 → wr.drew.heap[k]? = wr.heap[k]? from fun _ _ _ => rfl)
     have HBZ := hid (show Below w.heap.size w wr.drew from HB9.out.drew)
     generalize wr.drew = Z0 at *
     refine wpAnyH_take (i := 0) (oi := { dst := some 91, op := Op.move (Operand.tmp 8), type := 68, pos := "ref.go:474", after := #[], guard := none }) (v := ?_) rfl (by kernel_rfl) (by kernel_rfl) (by kernel_rfl) (fun _ _ _ h => h) (Or.inl ⟨by rfl, ?_⟩) (by assumption) ?_
     rotate_left
     ·(intro w hSw; (try dsimp only at hSw); go_simp; try with_reducible rfl)
     try simp only [Act.put, List.setIfInBounds_toArray, List.set_cons_zero, List.set_cons_succ]
     refine wpAnyH_take (i := 1) (oi := { dst := some 92, op := Op.nilCheck (Operand.tmp 91), type := 0, pos := "ref.go:474", after := #[{ on := 0, ground := Ground.data }], guard := none }) (v := ?_) rfl (by kernel_rfl) (by kernel_rfl) (by kernel_rfl) (fun _ _ _ h => h) (Or.inl ⟨by rfl, ?_⟩) (by assumption) ?_
     rotate_left
     ·(intro w hSw; (try dsimp only at hSw); go_simp; try with_reducible rfl)
     try simp only [Act.put, List.setIfInBounds_toArray, List.set_cons_zero, List.set_cons_succ]
     refine wpAnyH_take (i := 2) (oi := { dst := some 93, op := Op.fieldAddr 71 (Operand.tmp 92) 3, type := 0, pos := "ref.go:474", after := #[{ on := 1, ground := Ground.data }], guard := none }) (v := ?_) rfl (by kernel_rfl) (by kernel_rfl) (by kernel_rfl) (fun _ _ _ h => h) (Or.inl ⟨by rfl, ?_⟩) (by assumption) ?_
     rotate_left
     ·(intro w hSw; (try dsimp only at hSw); go_simp; try with_reducible rfl)
     try simp only [Act.put, List.setIfInBounds_toArray, List.set_cons_zero, List.set_cons_succ]
     refine wpAnyH_take (i := 3) (oi := { dst := some 94, op := Op.load 23 (Operand.tmp 93), type := 23, pos := "ref.go:474", after := #[{ on := 2, ground := Ground.data }], guard := none }) (v := ?_) rfl (by kernel_rfl) (by kernel_rfl) (by kernel_rfl) (fun _ _ _ h => h) (Or.inl ⟨by rfl, ?_⟩) (by assumption) ?_
     rotate_left
     ·(intro w hSw; (try dsimp only at hSw); go_simp; try with_reducible rfl)
     try simp only [Act.put, List.setIfInBounds_toArray, List.set_cons_zero, List.set_cons_succ]
     refine wpAnyH_take (i := 4) (oi := { dst := some 95, op := Op.build 25 #[(0, Operand.tmp 94)], type := 25, pos := "ref.go:474", after := #[{ on := 3, ground := Ground.data }], guard := none }) (v := ?_) rfl (by kernel_rfl) (by kernel_rfl) (by kernel_rfl) (fun _ _ _ h => h) (Or.inl ⟨by rfl, ?_⟩) (by assumption) ?_
     rotate_left
     ·(intro w hSw; (try dsimp only at hSw); go_simp; try with_reducible rfl)
     try simp only [Act.put, List.setIfInBounds_toArray, List.set_cons_zero, List.set_cons_succ]
     refine wpAnyH_take (i := 5) (oi := { dst := some 96, op := Op.move (Operand.tmp 8), type := 68, pos := "ref.go:474", after := #[{ on := 10, ground := Ground.gcOnly Departure.lateStores }], guard := none }) (v := ?_) rfl (by kernel_rfl) (by kernel_rfl) (by kernel_rfl) (fun _ _ _ h => h) (Or.inl ⟨by rfl, ?_⟩) (by assumption) ?_
     rotate_left
     ·(intro w hSw; (try dsimp only at hSw); go_simp; try with_reducible rfl)
     try simp only [Act.put, List.setIfInBounds_toArray, List.set_cons_zero, List.set_cons_succ]
     refine wpAnyH_take (i := 6) (oi := { dst := some 97, op := Op.nilCheck (Operand.tmp 96), type := 0, pos := "ref.go:474", after := #[{ on := 5, ground := Ground.data }, { on := 10, ground := Ground.gcOnly Departure.lateStores }], guard := none }) (v := ?_) rfl (by kernel_rfl) (by kernel_rfl) (by kernel_rfl) (fun _ _ _ h => h) (Or.inl ⟨by rfl, ?_⟩) (by assumption) ?_
     rotate_left
     ·(intro w hSw; (try dsimp only at hSw); go_simp; try with_reducible rfl)
     try simp only [Act.put, List.setIfInBounds_toArray, List.set_cons_zero, List.set_cons_succ]
     refine wpAnyH_take (i := 7) (oi := { dst := some 98, op := Op.fieldAddr 71 (Operand.tmp 97) 4, type := 0, pos := "ref.go:474", after := #[{ on := 6, ground := Ground.data }, { on := 10, ground := Ground.gcOnly Departure.lateStores }], guard := none }) (v := ?_) rfl (by kernel_rfl) (by kernel_rfl) (by kernel_rfl) (fun _ _ _ h => h) (Or.inl ⟨by rfl, ?_⟩) (by assumption) ?_
     rotate_left
     ·(intro w hSw; (try dsimp only at hSw); go_simp; try with_reducible rfl)
     try simp only [Act.put, List.setIfInBounds_toArray, List.set_cons_zero, List.set_cons_succ]
     refine wpAnyH_take (i := 8) (oi := { dst := some 99, op := Op.load 26 (Operand.tmp 98), type := 26, pos := "ref.go:474", after := #[{ on := 7, ground := Ground.data }, { on := 10, ground := Ground.gcOnly Departure.lateStores }], guard := none }) (v := ?_) rfl (by kernel_rfl) (by kernel_rfl) (by kernel_rfl) (fun _ _ _ h => h) (Or.inl ⟨by rfl, ?_⟩) (by assumption) ?_
     rotate_left
     ·(intro w hSw; (try dsimp only at hSw); go_simp; try with_reducible rfl)
     try simp only [Act.put, List.setIfInBounds_toArray, List.set_cons_zero, List.set_cons_succ]
     refine wpAnyH_take (i := 9) (oi := { dst := some 100, op := Op.build 35 #[], type := 35, pos := "ref.go:474", after := #[{ on := 11, ground := Ground.gcOnly Departure.lateStores }], guard := none }) (v := ?_) rfl (by kernel_rfl) (by kernel_rfl) (by kernel_rfl) (fun _ _ _ h => h) (Or.inl ⟨by rfl, ?_⟩) (by assumption) ?_
     rotate_left
     ·(intro w hSw; (try dsimp only at hSw); go_simp; try with_reducible rfl)
     try simp only [Act.put, List.setIfInBounds_toArray, List.set_cons_zero, List.set_cons_succ]
     refine wpAnyH_ready (rs := [10]) (by kernel_rfl) (by simp) ?_
     refine AllReadyH.cons (o := { dst := none, op := Op.store 25 (Operand.tmp 2) (Operand.tmp 95), type := 0, pos := "ref.go:474", after := #[{ on := 4, ground := Ground.data }, { on := 0, ground := Ground.phase }, { on := 1, ground := Ground.phase }, { on := 2, ground := Ground.phase }, { on := 3, ground := Ground.phase }, { on := 4, ground := Ground.phase }, { on := 5, ground := Ground.textOnly Departure.lateStores }, { on := 6, ground := Ground.textOnly Departure.lateStores }, { on := 7, ground := Ground.textOnly Departure.lateStores }, { on := 8, ground := Ground.textOnly Departure.lateStores }, { on := 9, ground := Ground.textOnly Departure.lateStores }], guard := none }) rfl (fun K hK => ?_) AllReadyH.nil
     rw [if_pos (by rfl)]
     refine wp_store_row 25 _ _ rfl bt #[.slice pa pn pc] rfl rfl 25 _ HTZ.out infoTr rfl (by kernel_rfl) ?_
     refine hK.out _ _ ?_ (fun hHeld => ?_)
     ·exact MS.out _ (fun k h1 h2 => (setRow_other _ _ _ _ h1).trans (HZ0.out k h1 h2))
     clear hK K
     try simp only [Act.put, List.setIfInBounds_toArray, List.set_cons_zero, List.set_cons_succ]
     refine wpAnyH_take (i := 11) (oi := { dst := some 3, op := Op.assign (Operand.tmp 99), type := 26, pos := "ref.go:474", after := #[{ on := 8, ground := Ground.data }, { on := 10, ground := Ground.chain }, { on := 0, ground := Ground.phase }, { on := 1, ground := Ground.phase }, { on := 2, ground := Ground.phase }, { on := 3, ground := Ground.phase }, { on := 4, ground := Ground.phase }, { on := 5, ground := Ground.phase }, { on := 6, ground := Ground.phase }, { on := 7, ground := Ground.phase }, { on := 8, ground := Ground.phase }, { on := 9, ground := Ground.textOnly Departure.lateStores }, { on := 10, ground := Ground.phase }], guard := none }) (v := ?_) rfl (by kernel_rfl) (by kernel_rfl) (by kernel_rfl) (fun _ _ _ h => h) (Or.inl ⟨by rfl, ?_⟩) (by assumption) ?_
     rotate_left
     ·(intro w hSw; (try dsimp only at hSw); go_simp; try with_reducible rfl)
     try simp only [Act.put, List.setIfInBounds_toArray, List.set_cons_zero, List.set_cons_succ]
     refine wpAnyH_ready (rs := [12]) (by kernel_rfl) (by simp) ?_
     refine AllReadyH.cons (o := { dst := none, op := Op.store 35 (Operand.tmp 4) (Operand.tmp 100), type := 0, pos := "ref.go:474", after := #[{ on := 9, ground := Ground.data }, { on := 11, ground := Ground.chain }, { on := 0, ground := Ground.phase }, { on := 1, ground := Ground.phase }, { on := 2, ground := Ground.phase }, { on := 3, ground := Ground.phase }, { on := 4, ground := Ground.phase }, { on := 5, ground := Ground.phase }, { on := 6, ground := Ground.phase }, { on := 7, ground := Ground.phase }, { on := 8, ground := Ground.phase }, { on := 9, ground := Ground.phase }, { on := 10, ground := Ground.phase }, { on := 11, ground := Ground.phase }], guard := none }) rfl (fun K hK => ?_) AllReadyH.nil
     rw [if_pos (by rfl)]
     refine wp_store_row 35 _ _ rfl (bt + 1) ZC rfl rfl 35 _ ((setRow_other _ _ _ _ (by omega)).trans HEZ.out) (by rw [HZ9.out]; exact info19) (by first | rfl | rw [HZ9.out, HF9.out]) (by rw [HZC.out]; kernel_rfl) ?_
     refine hK.out _ _ ?_ (fun hHeld => ?_)
     ·exact MS.out _ (fun k h1 h2 => ((setRow_other _ _ _ _ h2).trans (setRow_other _ _ _ _ h1)).trans (HZ0.out k h1 h2))
     clear hK K hHeld MS
     try simp only [Act.put, List.setIfInBounds_toArray, List.set_cons_zero, List.set_cons_succ]
     refine wpAnyH_done (by kernel_rfl) ?_ _
     have HTR := hid (two_rows HTZ.out HEZ.out #[.slice pa pn pc] ZC)
     have HSZ := hid (show Z0.heap.size ≤ ((Z0.setRow bt #[.slice pa pn pc]).setRow (bt + 1) ZC).heap.size by rw [setRow_size, setRow_size]; exact Nat.le_refl _)
     have HBN := hid (below_two HBZ.out HBT.out.symm HSZ.out rfl rfl rfl HTR.out.2.2)
     generalize (Z0.setRow bt #[.slice pa pn pc]).setRow (bt + 1) ZC = W9 at *
     go_wp2_with fail
     refine ⟨rfl, _, res_rparse _ W9 bt (bt + 1) _ ZC rfl rfl HTR.out.1 HTR.out.2.1 HZ9.out, ?_⟩
     exact ⟨(by have h8 := rpr_ok (w := w) HPR.out (by have h8 := HZ1.out; have h9 := HBT.out; omega) HZC.out (HM.out.other (bt := bt) (by have h8 := HZ1.out; omega) (fun k h1 h2 => (HTR.out.2.2 k h1 h2).trans (HZ0.out k h1 h2))); rw [HPE.out, HOV.out] at h8; exact h8), HBN.out⟩
   ·have HM := hid hm
    have HL2 := hid hl
    have HCS := hid hcs
    have HBI := hid hbi
    have HBS := hid hbi.bs.1
    have HNS := hid (show (w0.w = 8 ∨ w0.w = 9) → 1 ≤ s.ns from fun h => (by have h8 := hbi.ns; unfold cn c8 at h8; rw [if_pos h] at h8; omega))
    have HBD := hid (show fr.length ≤ 20000 ∧ s.ps.length ≤ 20000 ∧ s.os.length ≤ 20000 by have h1 := hbi.len; have h2 := hbi.fp; have h3 := hbi.pot; have h4 := hm.nx; have h5 := hm.tl; omega)
    clear hm hbi hrn hl hcs
    obtain ⟨g, cap, hwv, hgl, hgc, hcw⟩ := HM.out.wantc
    have HWV := hid hwv
    obtain ⟨k, hk⟩ : ∃ k, k = ws.length := ⟨_, rfl⟩
    have HKK := hid hk
    rw [← hk] at hwv hgc hcw
    have HWE := hid hwv
    have HGL := hid hgl
    have HCW := hid hcw
    have hk2 : k < 200 := by rw [hk]; exact HL2.out
    have hkm : k + 1 ≤ maxLen := by unfold maxLen; omega
    clear hwv hgl hcw hk
    have c2 : wr.cell? ⟨mb, 2, none⟩ = some (.slice (some ⟨g, 0, none⟩) (k + 1) cap) := (HM.out.cell 2 (by decide)).trans (by rw [HWE.out]; rfl)
    have g0 : (0 : Int) ≤ (k : Int) := by omega
    have g1 : (k : Int) < (k : Int) + 1 := by omega
    have g2 : (k : Int) ≤ (cap : Int) := by omega
    have g3 : (0 : Int) < (k : Int) + 1 := by omega
    have hwr : IntKind.i64.wrap (k : Int) = (k : Int) := by (simp [IntKind.wrap, IntKind.bits, IntKind.signed]; omega)
    go_upto_region 8 with fail
    have MS := hid (show ∀ Y, Below wr.heap.size wr Y → (fun Y => Y.cell? ⟨mb, 2, none⟩ = some (.slice (some ⟨g, 0, none⟩) (k + 1) cap) ∧ Y.cell? ⟨g, k * 6, none⟩ = some (.int .i64 w0.w) ∧ Y.cell? ⟨g, k * 6 + 1, none⟩ = some (.int .i64 w0.kd) ∧ Y.cell? ⟨g, k * 6 + 2, none⟩ = some (.int .i64 w0.pos) ∧ Y.cell? ⟨g, k * 6 + 3, none⟩ = some (.string w0.text) ∧ Y.cell? ⟨g, k * 6 + 4, none⟩ = some (.int .i64 w0.num) ∧ Y.cell? ⟨g, k * 6 + 5, none⟩ = some (.int .i64 (w0.base : Int))) Y from fun Y hb => ⟨((HM.out.low hb).cell 2 (by decide)).trans (by rw [HWE.out]; rfl), (hb.cell (p := ⟨g, k * 6, none⟩) HGL.out).trans (HCW.out 0 (by decide)), (hb.cell (p := ⟨g, k * 6 + 1, none⟩) HGL.out).trans (HCW.out 1 (by decide)), (hb.cell (p := ⟨g, k * 6 + 2, none⟩) HGL.out).trans (HCW.out 2 (by decide)), (hb.cell (p := ⟨g, k * 6 + 3, none⟩) HGL.out).trans (HCW.out 3 (by decide)), (hb.cell (p := ⟨g, k * 6 + 4, none⟩) HGL.out).trans (HCW.out 4 (by decide)), (hb.cell (p := ⟨g, k * 6 + 5, none⟩) HGL.out).trans (HCW.out 5 (by decide))⟩)
    have HD := hid (show Below wr.heap.size wr wr.drew from (Below.refl _ wr).drew)
    refine wp_region_held_drew (S := (fun Y => Y.cell? ⟨mb, 2, none⟩ = some (.slice (some ⟨g, 0, none⟩) (k + 1) cap) ∧ Y.cell? ⟨g, k * 6, none⟩ = some (.int .i64 w0.w) ∧ Y.cell? ⟨g, k * 6 + 1, none⟩ = some (.int .i64 w0.kd) ∧ Y.cell? ⟨g, k * 6 + 2, none⟩ = some (.int .i64 w0.pos) ∧ Y.cell? ⟨g, k * 6 + 3, none⟩ = some (.string w0.text) ∧ Y.cell? ⟨g, k * 6 + 4, none⟩ = some (.int .i64 w0.num) ∧ Y.cell? ⟨g, k * 6 + 5, none⟩ = some (.int .i64 (w0.base : Int)))) (by kernel_rfl) ?_ (fun hHeld => ?_)
    ·exact MS.out _ HD.out
    clear c2
    generalize wr.drew = Z at *
    refine wpAnyH_take (i := 0) (oi := { dst := some 37, op := Op.move (Operand.tmp 8), type := 68, pos := "ref.go:464", after := #[], guard := none }) (v := ?_) rfl (by kernel_rfl) (by kernel_rfl) (by kernel_rfl) (fun _ _ _ h => h) (Or.inl ⟨by rfl, ?_⟩) (by assumption) ?_
    rotate_left
    ·(intro w hSw; (try dsimp only at hSw); go_simp; try with_reducible rfl)
    try simp only [Act.put, List.setIfInBounds_toArray, List.set_cons_zero, List.set_cons_succ]
    refine wpAnyH_take (i := 1) (oi := { dst := some 38, op := Op.nilCheck (Operand.tmp 37), type := 0, pos := "ref.go:464", after := #[{ on := 0, ground := Ground.data }], guard := none }) (v := ?_) rfl (by kernel_rfl) (by kernel_rfl) (by kernel_rfl) (fun _ _ _ h => h) (Or.inl ⟨by rfl, ?_⟩) (by assumption) ?_
    rotate_left
    ·(intro w hSw; (try dsimp only at hSw); go_simp; try with_reducible rfl)
    try simp only [Act.put, List.setIfInBounds_toArray, List.set_cons_zero, List.set_cons_succ]
    refine wpAnyH_take (i := 2) (oi := { dst := some 39, op := Op.fieldAddr 71 (Operand.tmp 38) 2, type := 0, pos := "ref.go:464", after := #[{ on := 1, ground := Ground.data }], guard := none }) (v := ?_) rfl (by kernel_rfl) (by kernel_rfl) (by kernel_rfl) (fun _ _ _ h => h) (Or.inl ⟨by rfl, ?_⟩) (by assumption) ?_
    rotate_left
    ·(intro w hSw; (try dsimp only at hSw); go_simp; try with_reducible rfl)
    try simp only [Act.put, List.setIfInBounds_toArray, List.set_cons_zero, List.set_cons_succ]
    refine wpAnyH_take (i := 3) (oi := { dst := some 40, op := Op.load 69 (Operand.tmp 39), type := 69, pos := "ref.go:464", after := #[{ on := 2, ground := Ground.data }], guard := none }) (v := ?_) rfl (by kernel_rfl) (by kernel_rfl) (by kernel_rfl) (fun _ _ _ h => h) (Or.inl ⟨by rfl, ?_⟩) (by assumption) ?_
    rotate_left
    ·(intro w hSw; (try dsimp only at hSw); go_simp; try with_reducible rfl)
    try simp only [Act.put, List.setIfInBounds_toArray, List.set_cons_zero, List.set_cons_succ]
    refine wpAnyH_take (i := 4) (oi := { dst := some 41, op := Op.move (Operand.tmp 8), type := 68, pos := "ref.go:464", after := #[], guard := none }) (v := ?_) rfl (by kernel_rfl) (by kernel_rfl) (by kernel_rfl) (fun _ _ _ h => h) (Or.inl ⟨by rfl, ?_⟩) (by assumption) ?_
    rotate_left
    ·(intro w hSw; (try dsimp only at hSw); go_simp; try with_reducible rfl)
    try simp only [Act.put, List.setIfInBounds_toArray, List.set_cons_zero, List.set_cons_succ]
    refine wpAnyH_take (i := 5) (oi := { dst := some 42, op := Op.nilCheck (Operand.tmp 41), type := 0, pos := "ref.go:464", after := #[{ on := 4, ground := Ground.data }], guard := none }) (v := ?_) rfl (by kernel_rfl) (by kernel_rfl) (by kernel_rfl) (fun _ _ _ h => h) (Or.inl ⟨by rfl, ?_⟩) (by assumption) ?_
    rotate_left
    ·(intro w hSw; (try dsimp only at hSw); go_simp; try with_reducible rfl)
    try simp only [Act.put, List.setIfInBounds_toArray, List.set_cons_zero, List.set_cons_succ]
    refine wpAnyH_take (i := 6) (oi := { dst := some 43, op := Op.fieldAddr 71 (Operand.tmp 42) 2, type := 0, pos := "ref.go:464", after := #[{ on := 5, ground := Ground.data }], guard := none }) (v := ?_) rfl (by kernel_rfl) (by kernel_rfl) (by kernel_rfl) (fun _ _ _ h => h) (Or.inl ⟨by rfl, ?_⟩) (by assumption) ?_
    rotate_left
    ·(intro w hSw; (try dsimp only at hSw); go_simp; try with_reducible rfl)
    try simp only [Act.put, List.setIfInBounds_toArray, List.set_cons_zero, List.set_cons_succ]
    refine wpAnyH_take (i := 7) (oi := { dst := some 44, op := Op.load 69 (Operand.tmp 43), type := 69, pos := "ref.go:464", after := #[{ on := 6, ground := Ground.data }], guard := none }) (v := ?_) rfl (by kernel_rfl) (by kernel_rfl) (by kernel_rfl) (fun _ _ _ h => h) (Or.inl ⟨by rfl, ?_⟩) (by assumption) ?_
    rotate_left
    ·(intro w hSw; (try dsimp only at hSw); go_simp; try with_reducible rfl)
    try simp only [Act.put, List.setIfInBounds_toArray, List.set_cons_zero, List.set_cons_succ]
    refine wpAnyH_take (i := 8) (oi := { dst := some 45, op := Op.call { callee := Callee.builtin Builtin.len, args := #[Operand.tmp 44], argTypes := #[69] }, type := 3, pos := "ref.go:464", after := #[{ on := 7, ground := Ground.data }], guard := none }) (v := ?_) rfl (by kernel_rfl) (by kernel_rfl) (by kernel_rfl) (fun _ _ _ h => h) (Or.inl ⟨by rfl, ?_⟩) (by assumption) ?_
    rotate_left
    ·(intro w hSw; (try dsimp only at hSw); go_simp; try with_reducible rfl)
    try simp only [Act.put, List.setIfInBounds_toArray, List.set_cons_zero, List.set_cons_succ]
    refine wpAnyH_take (i := 9) (oi := { dst := some 46, op := Op.binOp BinOp.sub 3 (Operand.tmp 45) (Operand.const (Value.int IntKind.i64 1)) 3, type := 3, pos := "ref.go:464", after := #[{ on := 8, ground := Ground.data }], guard := none }) (v := ?_) rfl (by kernel_rfl) (by kernel_rfl) (by kernel_rfl) (fun _ _ _ h => h) (Or.inl ⟨by rfl, ?_⟩) (by assumption) ?_
    rotate_left
    ·(intro w hSw; (try dsimp only at hSw); go_simp; try with_reducible rfl)
    try simp only [Act.put, List.setIfInBounds_toArray, List.set_cons_zero, List.set_cons_succ]
    refine wpAnyH_take (i := 10) (oi := { dst := some 47, op := Op.indexAddr 69 (Operand.tmp 40) (Operand.tmp 46), type := 0, pos := "ref.go:464", after := #[{ on := 3, ground := Ground.data }, { on := 9, ground := Ground.data }], guard := none }) (v := ?_) rfl (by kernel_rfl) (by kernel_rfl) (by kernel_rfl) (fun _ _ _ h => h) (Or.inl ⟨by rfl, ?_⟩) (by assumption) ?_
    rotate_left
    ·(intro w hSw; (try dsimp only at hSw); go_simp; try with_reducible rfl)
    try simp only [Act.put, List.setIfInBounds_toArray, List.set_cons_zero, List.set_cons_succ]
    refine wpAnyH_take (i := 11) (oi := { dst := some 48, op := Op.load 74 (Operand.tmp 47), type := 74, pos := "ref.go:464", after := #[{ on := 10, ground := Ground.data }], guard := none }) (v := ?_) rfl (by kernel_rfl) (by kernel_rfl) (by kernel_rfl) (fun _ _ _ h => h) (Or.inl ⟨by rfl, ?_⟩) (by assumption) ?_
    rotate_left
    ·(intro w hSw; (try dsimp only at hSw); go_simp; try with_reducible rfl)
    try simp only [Act.put, List.setIfInBounds_toArray, List.set_cons_zero, List.set_cons_succ]
    refine wpAnyH_ready (rs := [12]) (by kernel_rfl) (by simp) ?_
    refine AllReadyH.cons (o := { dst := some 9, op := Op.alloc 74, type := 0, pos := "ref.go:464", after := #[], guard := none }) rfl (fun K hK => ?_) AllReadyH.nil
    go_simp
    refine hK.out _ _ ?_ (fun hHeld => ?_)
    ·exact MS.out _ (HD.out.trans ((belowA Z (.cells #[.int .i64 0, .int .i64 0, .int .i64 0, .string ⟨#[]⟩, .int .i64 0, .int .i64 0] 74)).mono HD.out.size))
    clear hK K
    try simp only [Act.put, List.setIfInBounds_toArray, List.set_cons_zero, List.set_cons_succ]
    have HXN := hid (heap_alloc_new Z (.cells #[.int .i64 0, .int .i64 0, .int .i64 0, .string ⟨#[]⟩, .int .i64 0, .int .i64 0] 74))
    have HBN := hid (HD.out.trans ((belowA Z (.cells #[.int .i64 0, .int .i64 0, .int .i64 0, .string ⟨#[]⟩, .int .i64 0, .int .i64 0] 74)).mono HD.out.size))
    have HGE := hid HD.out.size
    generalize Z.alloc (.cells #[.int .i64 0, .int .i64 0, .int .i64 0, .string ⟨#[]⟩, .int .i64 0, .int .i64 0] 74) = X at *
    clear HD
    generalize Z.heap.size = b at *
    refine wpAnyH_ready (rs := [13]) (by kernel_rfl) (by simp) ?_
    refine AllReadyH.cons (o := { dst := none, op := Op.store 74 (Operand.tmp 9) (Operand.tmp 48), type := 0, pos := "ref.go:464", after := #[{ on := 12, ground := Ground.data }, { on := 11, ground := Ground.data }, { on := 0, ground := Ground.phase }, { on := 1, ground := Ground.phase }, { on := 2, ground := Ground.phase }, { on := 3, ground := Ground.phase }, { on := 4, ground := Ground.phase }, { on := 5, ground := Ground.phase }, { on := 6, ground := Ground.phase }, { on := 7, ground := Ground.phase }, { on := 8, ground := Ground.phase }, { on := 9, ground := Ground.phase }, { on := 10, ground := Ground.phase }, { on := 11, ground := Ground.phase }, { on := 12, ground := Ground.phase }], guard := none }) rfl (fun K hK => ?_) AllReadyH.nil
    rw [if_pos (by rfl)]
    refine wp_store_row 74 _ _ rfl b #[.int .i64 w0.w, .int .i64 w0.kd, .int .i64 w0.pos, .string w0.text, .int .i64 w0.num, .int .i64 (w0.base : Int)] rfl rfl 74 _ HXN.out info6 rfl (by kernel_rfl) ?_
    refine hK.out _ _ ?_ (fun hHeld => ?_)
    ·exact MS.out _ (below_row HBN.out _ _ HGE.out)
    clear hK K hHeld
    try simp only [Act.put, List.setIfInBounds_toArray, List.set_cons_zero, List.set_cons_succ]
    refine wpAnyH_done (by kernel_rfl) ?_ _
    have HV := hid (setRow_heap X _ _ #[.int .i64 w0.w, .int .i64 w0.kd, .int .i64 w0.pos, .string w0.text, .int .i64 w0.num, .int .i64 (w0.base : Int)] _ _ HXN.out)
    have HBV := hid (below_row HBN.out b #[.int .i64 w0.w, .int .i64 w0.kd, .int .i64 w0.pos, .string w0.text, .int .i64 w0.num, .int .i64 (w0.base : Int)] HGE.out)
    generalize X.setRow b #[.int .i64 w0.w, .int .i64 w0.kd, .int .i64 w0.pos, .string w0.text, .int .i64 w0.num, .int .i64 (w0.base : Int)] = V at *
    clear HXN HBN MS
    have HMV := hid (HM.out.low HBV.out)
    have HGV := hid (HFF.out.trans (Fmm.of HBV.out HM.out.size))
    have HBM := hid (show b ≠ mb from fun e => (by have h1 := lt_blk HM.out.box; have h2 := HGE.out; omega))
    go_upto_region 9 with fail
    refine wp_region_held_drew (S := (fun _ => True)) (by kernel_rfl) trivial (fun hHeld => ?_)
    have HDV := hid (show Below V.heap.size V V.drew from (Below.refl _ V).drew)
    have HMZ := hid (HMV.out.low HDV.out)
    have HGZ := hid (HGV.out.trans (Fmm.of HDV.out HMV.out.size))
    have HVZ := hid ((HDV.out.block b (lt_blk HV.out)).trans HV.out)
    generalize V.drew = Z2 at *
    refine wpAnyH_take (i := 0) (oi := { dst := some 49, op := Op.move (Operand.tmp 8), type := 68, pos := "ref.go:465", after := #[], guard := none }) (v := ?_) rfl (by kernel_rfl) (by kernel_rfl) (by kernel_rfl) (fun _ _ _ h => h) (Or.inl ⟨by rfl, ?_⟩) (by assumption) ?_
    rotate_left
    ·(intro w hSw; (try dsimp only at hSw); go_simp; try with_reducible rfl)
    try simp only [Act.put, List.setIfInBounds_toArray, List.set_cons_zero, List.set_cons_succ]
    refine wpAnyH_take (i := 1) (oi := { dst := some 50, op := Op.move (Operand.tmp 8), type := 68, pos := "ref.go:465", after := #[], guard := none }) (v := ?_) rfl (by kernel_rfl) (by kernel_rfl) (by kernel_rfl) (fun _ _ _ h => h) (Or.inl ⟨by rfl, ?_⟩) (by assumption) ?_
    rotate_left
    ·(intro w hSw; (try dsimp only at hSw); go_simp; try with_reducible rfl)
    try simp only [Act.put, List.setIfInBounds_toArray, List.set_cons_zero, List.set_cons_succ]
    refine wpAnyH_take (i := 2) (oi := { dst := some 51, op := Op.nilCheck (Operand.tmp 50), type := 0, pos := "ref.go:465", after := #[{ on := 1, ground := Ground.data }], guard := none }) (v := ?_) rfl (by kernel_rfl) (by kernel_rfl) (by kernel_rfl) (fun _ _ _ h => h) (Or.inl ⟨by rfl, ?_⟩) (by assumption) ?_
    rotate_left
    ·(intro w hSw; (try dsimp only at hSw); go_simp; try with_reducible rfl)
    try simp only [Act.put, List.setIfInBounds_toArray, List.set_cons_zero, List.set_cons_succ]
    refine wpAnyH_take (i := 3) (oi := { dst := some 52, op := Op.fieldAddr 71 (Operand.tmp 51) 2, type := 0, pos := "ref.go:465", after := #[{ on := 2, ground := Ground.data }], guard := none }) (v := ?_) rfl (by kernel_rfl) (by kernel_rfl) (by kernel_rfl) (fun _ _ _ h => h) (Or.inl ⟨by rfl, ?_⟩) (by assumption) ?_
    rotate_left
    ·(intro w hSw; (try dsimp only at hSw); go_simp; try with_reducible rfl)
    try simp only [Act.put, List.setIfInBounds_toArray, List.set_cons_zero, List.set_cons_succ]
    refine wpAnyH_take (i := 5) (oi := { dst := some 54, op := Op.move (Operand.tmp 8), type := 68, pos := "ref.go:465", after := #[], guard := none }) (v := ?_) rfl (by kernel_rfl) (by kernel_rfl) (by kernel_rfl) (fun _ _ _ h => h) (Or.inl ⟨by rfl, ?_⟩) (by assumption) ?_
    rotate_left
    ·(intro w hSw; (try dsimp only at hSw); go_simp; try with_reducible rfl)
    try simp only [Act.put, List.setIfInBounds_toArray, List.set_cons_zero, List.set_cons_succ]
    refine wpAnyH_take (i := 6) (oi := { dst := some 55, op := Op.nilCheck (Operand.tmp 54), type := 0, pos := "ref.go:465", after := #[{ on := 5, ground := Ground.data }], guard := none }) (v := ?_) rfl (by kernel_rfl) (by kernel_rfl) (by kernel_rfl) (fun _ _ _ h => h) (Or.inl ⟨by rfl, ?_⟩) (by assumption) ?_
    rotate_left
    ·(intro w hSw; (try dsimp only at hSw); go_simp; try with_reducible rfl)
    try simp only [Act.put, List.setIfInBounds_toArray, List.set_cons_zero, List.set_cons_succ]
    refine wpAnyH_take (i := 7) (oi := { dst := some 56, op := Op.fieldAddr 71 (Operand.tmp 55) 2, type := 0, pos := "ref.go:465", after := #[{ on := 6, ground := Ground.data }], guard := none }) (v := ?_) rfl (by kernel_rfl) (by kernel_rfl) (by kernel_rfl) (fun _ _ _ h => h) (Or.inl ⟨by rfl, ?_⟩) (by assumption) ?_
    rotate_left
    ·(intro w hSw; (try dsimp only at hSw); go_simp; try with_reducible rfl)
    try simp only [Act.put, List.setIfInBounds_toArray, List.set_cons_zero, List.set_cons_succ]
    refine wpAnyH_ready (rs := [4, 8]) (by kernel_rfl) (by simp) ?_
    refine AllReadyH.cons (o := { dst := some 53, op := Op.load 69 (Operand.tmp 52), type := 69, pos := "ref.go:465", after := #[{ on := 3, ground := Ground.data }], guard := none }) rfl (fun K hK => ?_) ?_
    ·have c2 : Z2.cell? ⟨mb, 2, none⟩ = some (.slice (some ⟨g, 0, none⟩) (k + 1) cap) := (HMZ.out.cell 2 (by decide)).trans (by rw [HWE.out]; rfl)
     go_simp
     clear c2
     refine hK.out _ _ trivial (fun hHeld => ?_)
     clear hK K hHeld
     try simp only [Act.put, List.setIfInBounds_toArray, List.set_cons_zero, List.set_cons_succ]
     have hHeld := trivial
     refine wpAnyH_ready (rs := [8]) (by kernel_rfl) (by simp) ?_
     refine AllReadyH.cons (o := { dst := some 57, op := Op.load 69 (Operand.tmp 56), type := 69, pos := "ref.go:465", after := #[{ on := 7, ground := Ground.data }], guard := none }) rfl (fun K hK => ?_) AllReadyH.nil
     have c2 : Z2.cell? ⟨mb, 2, none⟩ = some (.slice (some ⟨g, 0, none⟩) (k + 1) cap) := (HMZ.out.cell 2 (by decide)).trans (by rw [HWE.out]; rfl)
     go_simp
     clear c2
     refine hK.out _ _ trivial (fun hHeld => ?_)
     clear hK K hHeld
     try simp only [Act.put, List.setIfInBounds_toArray, List.set_cons_zero, List.set_cons_succ]
     have hHeld := trivial
     refine wpAnyH_take (i := 9) (oi := { dst := some 58, op := Op.call { callee := Callee.builtin Builtin.len, args := #[Operand.tmp 57], argTypes := #[69] }, type := 3, pos := "ref.go:465", after := #[{ on := 8, ground := Ground.data }], guard := none }) (v := ?_) rfl (by kernel_rfl) (by kernel_rfl) (by kernel_rfl) (fun _ _ _ h => h) (Or.inl ⟨by rfl, ?_⟩) (by assumption) ?_
     rotate_left
     ·(intro w hSw; (try dsimp only at hSw); go_simp; try with_reducible rfl)
     try simp only [Act.put, List.setIfInBounds_toArray, List.set_cons_zero, List.set_cons_succ]
     refine wpAnyH_take (i := 10) (oi := { dst := some 59, op := Op.binOp BinOp.sub 3 (Operand.tmp 58) (Operand.const (Value.int IntKind.i64 1)) 3, type := 3, pos := "ref.go:465", after := #[{ on := 9, ground := Ground.data }], guard := none }) (v := ?_) rfl (by kernel_rfl) (by kernel_rfl) (by kernel_rfl) (fun _ _ _ h => h) (Or.inl ⟨by rfl, ?_⟩) (by assumption) ?_
     rotate_left
     ·(intro w hSw; (try dsimp only at hSw); go_simp; try with_reducible rfl)
     try simp only [Act.put, List.setIfInBounds_toArray, List.set_cons_zero, List.set_cons_succ]
     refine wpAnyH_take (i := 11) (oi := { dst := some 60, op := Op.slice 69 (Operand.tmp 53) none (some (Operand.tmp 59)) none, type := 69, pos := "ref.go:465", after := #[{ on := 4, ground := Ground.data }, { on := 10, ground := Ground.data }], guard := none }) (v := ?_) rfl (by kernel_rfl) (by kernel_rfl) (by kernel_rfl) (fun _ _ _ h => h) (Or.inl ⟨by rfl, ?_⟩) (by assumption) ?_
     rotate_left
     ·(intro w hSw; (try dsimp only at hSw); go_simp; try with_reducible rfl)
     try simp only [Act.put, List.setIfInBounds_toArray, List.set_cons_zero, List.set_cons_succ]
     refine wpAnyH_take (i := 12) (oi := { dst := some 61, op := Op.nilCheck (Operand.tmp 49), type := 0, pos := "ref.go:465", after := #[{ on := 0, ground := Ground.data }, { on := 0, ground := Ground.phase }, { on := 1, ground := Ground.phase }, { on := 2, ground := Ground.phase }, { on := 3, ground := Ground.phase }, { on := 4, ground := Ground.phase }, { on := 5, ground := Ground.phase }, { on := 6, ground := Ground.phase }, { on := 7, ground := Ground.phase }, { on := 8, ground := Ground.phase }, { on := 9, ground := Ground.phase }, { on := 10, ground := Ground.phase }, { on := 11, ground := Ground.phase }], guard := none }) (v := ?_) rfl (by kernel_rfl) (by kernel_rfl) (by kernel_rfl) (fun _ _ _ h => h) (Or.inl ⟨by rfl, ?_⟩) (by assumption) ?_
     rotate_left
     ·(intro w hSw; (try dsimp only at hSw); go_simp; try with_reducible rfl)
     try simp only [Act.put, List.setIfInBounds_toArray, List.set_cons_zero, List.set_cons_succ]
     refine wpAnyH_take (i := 13) (oi := { dst := some 62, op := Op.fieldAddr 71 (Operand.tmp 61) 2, type := 0, pos := "ref.go:465", after := #[{ on := 12, ground := Ground.data }, { on := 0, ground := Ground.phase }, { on := 1, ground := Ground.phase }, { on := 2, ground := Ground.phase }, { on := 3, ground := Ground.phase }, { on := 4, ground := Ground.phase }, { on := 5, ground := Ground.phase }, { on := 6, ground := Ground.phase }, { on := 7, ground := Ground.phase }, { on := 8, ground := Ground.phase }, { on := 9, ground := Ground.phase }, { on := 10, ground := Ground.phase }, { on := 11, ground := Ground.phase }], guard := none }) (v := ?_) rfl (by kernel_rfl) (by kernel_rfl) (by kernel_rfl) (fun _ _ _ h => h) (Or.inl ⟨by rfl, ?_⟩) (by assumption) ?_
     rotate_left
     ·(intro w hSw; (try dsimp only at hSw); go_simp; try with_reducible rfl)
     try simp only [Act.put, List.setIfInBounds_toArray, List.set_cons_zero, List.set_cons_succ]
     refine wpAnyH_ready (rs := [14]) (by kernel_rfl) (by simp) ?_
     refine AllReadyH.cons (o := { dst := none, op := Op.store 69 (Operand.tmp 62) (Operand.tmp 60), type := 0, pos := "ref.go:465", after := #[{ on := 13, ground := Ground.data }, { on := 11, ground := Ground.data }, { on := 0, ground := Ground.phase }, { on := 1, ground := Ground.phase }, { on := 2, ground := Ground.phase }, { on := 3, ground := Ground.phase }, { on := 4, ground := Ground.phase }, { on := 5, ground := Ground.phase }, { on := 6, ground := Ground.phase }, { on := 7, ground := Ground.phase }, { on := 8, ground := Ground.phase }, { on := 9, ground := Ground.phase }, { on := 10, ground := Ground.phase }, { on := 11, ground := Ground.phase }], guard := none }) rfl (fun K hK => ?_) AllReadyH.nil
     have c2 : Z2.cell? ⟨mb, 2, none⟩ = some wv := HMZ.out.cell 2 (by decide)
     have f2 := frz_row HMZ.out.box 2
     go_simp
     clear c2 f2
     refine hK.out _ _ trivial (fun hHeld => ?_)
     clear hK K hHeld
     try simp only [Act.put, List.setIfInBounds_toArray, List.set_cons_zero, List.set_cons_succ]
     refine wpAnyH_done (by kernel_rfl) ?_ _
     have HLW := hid (HMZ.out.lessw (by rw [← HKK.out]; exact HWE.out))
     rw [← HKK.out] at HLW
     have HM9 := hid HLW.out.1
     have HG9 := hid (HGZ.out.trans HLW.out.2)
     have HV9 := hid ((set_oth HMZ.out.box 2 (.slice (some ⟨g, 0, none⟩) k cap) HBM.out).trans HVZ.out)
     generalize Z2.setCell ⟨mb, 2, none⟩ (.slice (some ⟨g, 0, none⟩) k cap) = Y9 at *
     clear HLW
     have ⟨y0, y1, y2, y3, y4, y5⟩ := bx6 HV9.out
     go_wp2_with fail
     refine (mstep_any HM9.out w0 HBS.out HNS.out (by have h8 := HBD.out; omega) (by have h8 := HBD.out; omega) (by have h8 := HBD.out; omega) (by have h8 := HL2.out; omega)).mono ?_
     rintro e Y10 ⟨rfl, h8, h9⟩
     have HPS := hid h8
     have HG10 := hid (HG9.out.trans h9)
     clear h8 h9 y0 y1 y2 y3 y4 y5
     rcases HCS.out with ⟨c, x, he, hR⟩ | ⟨m, ps, fr9, s9, hN, he, hrn2⟩
     ·have HSE := hid he
      have HRE := hid hR
      have hc0 : (c : Int) ≠ 0 := by have := nz_step T w0 s fr c x he; omega
      have hc1 : ((c : Int) != 0) = true := by simpa using hc0
      obtain ⟨FC, hfc⟩ : ∃ FC : Array Value, FC = f19 (c : Int) x := ⟨_, rfl⟩
      have HFC := hid hfc
      have HF9 := hid (show FC.size = 19 by rw [hfc]; rfl)
      clear hfc hR he hc0
      obtain ⟨s2, ws2, fr2, wv2, v2, o2, f2, k2, h8⟩ := pst_bad HPS.out HSE.out
      rw [← HFC.out] at h8
      have HM11 := hid h8
      clear h8
      have c7 : Y10.cell? ⟨mb, 7, none⟩ = some (.int .i64 (c : Int)) := (HM11.out.fc 0).trans (by rw [HFC.out]; rfl)
      have HPR := hid (show parR src = .error (c, x) by rw [HPN.out, end_err (HR.out.symm.trans HRE.out)])
      have HT3 := hid ((HG10.out.low.block bt (by have h8 := HZ1.out; omega)).trans HT2.out)
      have HE3 := hid ((HG10.out.low.block (bt + 1) (by have h8 := HZ1.out; omega)).trans HE2.out)
      have HB9 := hid (HBW.out.trans (HG10.out.low.mono (by have h8 := HZ1.out; have h9 := HBT.out; omega)))
      go_upto_region 12 with fail
      have MS := hid (show ∀ Y : World, (∀ k, k ≠ bt → k ≠ bt + 1 → Y.heap[k]? = Y10.heap[k]?) → (fun Y : World => Y.rangeAt mb 7 FC.toList) Y from fun Y hb => fun j u hu => (World.cell?_of_block (a := ⟨mb, 7 + j, none⟩) (hb mb (by have h8 := HM11.out.mbB; have h9 := HZ1.out; omega) (by have h8 := HM11.out.mbB; have h9 := HZ1.out; omega))).trans ((HM11.out.fc j).trans (by rw [← Array.getElem?_toList]; exact hu)))
      refine wp_region_held_drew (S := (fun Y : World => Y.rangeAt mb 7 FC.toList)) (by kernel_rfl) ?_ (fun hHeld => ?_)
      ·exact MS.out _ (fun _ _ _ => rfl)
      have HTZ := hid (show Y10.drew.heap[bt]? = _ from HT3.out)
      have HEZ := hid (show Y10.drew.heap[bt + 1]? = _ from HE3.out)
      have HZ0 := hid (show ∀ k, k ≠ bt → k ≠ bt + 1 → Y10.drew.heap[k]? = Y10.heap[k]? from fun _ _ _ => rfl)
      have HBZ := hid (show Below w.heap.size w Y10.drew from HB9.out.drew)
      generalize Y10.drew = Z0 at *
      refine wpAnyH_take (i := 0) (oi := { dst := some 72, op := Op.build 25 #[], type := 25, pos := "ref.go:468", after := #[], guard := none }) (v := ?_) rfl (by kernel_rfl) (by kernel_rfl) (by kernel_rfl) (fun _ _ _ h => h) (Or.inl ⟨by rfl, ?_⟩) (by assumption) ?_
      rotate_left
      ·(intro w hSw; (try dsimp only at hSw); go_simp; try with_reducible rfl)
      try simp only [Act.put, List.setIfInBounds_toArray, List.set_cons_zero, List.set_cons_succ]
      refine wpAnyH_take (i := 1) (oi := { dst := some 73, op := Op.move (Operand.tmp 8), type := 68, pos := "ref.go:468", after := #[{ on := 6, ground := Ground.gcOnly Departure.lateStores }], guard := none }) (v := ?_) rfl (by kernel_rfl) (by kernel_rfl) (by kernel_rfl) (fun _ _ _ h => h) (Or.inl ⟨by rfl, ?_⟩) (by assumption) ?_
      rotate_left
      ·(intro w hSw; (try dsimp only at hSw); go_simp; try with_reducible rfl)
      try simp only [Act.put, List.setIfInBounds_toArray, List.set_cons_zero, List.set_cons_succ]
      refine wpAnyH_take (i := 2) (oi := { dst := some 74, op := Op.nilCheck (Operand.tmp 73), type := 0, pos := "ref.go:468", after := #[{ on := 1, ground := Ground.data }, { on := 6, ground := Ground.gcOnly Departure.lateStores }], guard := none }) (v := ?_) rfl (by kernel_rfl) (by kernel_rfl) (by kernel_rfl) (fun _ _ _ h => h) (Or.inl ⟨by rfl, ?_⟩) (by assumption) ?_
      rotate_left
      ·(intro w hSw; (try dsimp only at hSw); go_simp; try with_reducible rfl)
      try simp only [Act.put, List.setIfInBounds_toArray, List.set_cons_zero, List.set_cons_succ]
      refine wpAnyH_take (i := 3) (oi := { dst := some 75, op := Op.fieldAddr 71 (Operand.tmp 74) 7, type := 0, pos := "ref.go:468", after := #[{ on := 2, ground := Ground.data }, { on := 6, ground := Ground.gcOnly Departure.lateStores }], guard := none }) (v := ?_) rfl (by kernel_rfl) (by kernel_rfl) (by kernel_rfl) (fun _ _ _ h => h) (Or.inl ⟨by rfl, ?_⟩) (by assumption) ?_
      rotate_left
      ·(intro w hSw; (try dsimp only at hSw); go_simp; try with_reducible rfl)
      try simp only [Act.put, List.setIfInBounds_toArray, List.set_cons_zero, List.set_cons_succ]
      refine wpAnyH_take (i := 4) (oi := { dst := some 76, op := Op.load 35 (Operand.tmp 75), type := 35, pos := "ref.go:468", after := #[{ on := 3, ground := Ground.data }, { on := 6, ground := Ground.gcOnly Departure.lateStores }], guard := none }) (v := .agg FC.toList.toArray) rfl (by kernel_rfl) (by kernel_rfl) (by kernel_rfl) (fun _ _ _ h => h) (yieldsIf_load_mid (by rfl) 35 _ rfl mb 7 rfl FC.toList _ (fun w h => h) str53 rfl (by rw [Array.length_toList, HF9.out]; exact info19)) (by assumption) ?_
      rw [show FC.toList.toArray = FC from Array.toArray_toList]
      try simp only [Act.put, List.setIfInBounds_toArray, List.set_cons_zero, List.set_cons_succ]
      refine wpAnyH_ready (rs := [5]) (by kernel_rfl) (by simp) ?_
      refine AllReadyH.cons (o := { dst := none, op := Op.store 25 (Operand.tmp 2) (Operand.tmp 72), type := 0, pos := "ref.go:468", after := #[{ on := 0, ground := Ground.data }, { on := 0, ground := Ground.phase }, { on := 1, ground := Ground.textOnly Departure.lateStores }, { on := 2, ground := Ground.textOnly Departure.lateStores }, { on := 3, ground := Ground.textOnly Departure.lateStores }, { on := 4, ground := Ground.textOnly Departure.lateStores }], guard := none }) rfl (fun K hK => ?_) AllReadyH.nil
      rw [if_pos (by rfl)]
      refine wp_store_row 25 _ _ rfl bt #[.slice none 0 0] rfl rfl 25 _ HTZ.out infoTr rfl (by kernel_rfl) ?_
      refine hK.out _ _ ?_ (fun hHeld => ?_)
      ·exact MS.out _ (fun k h1 h2 => (setRow_other _ _ _ _ h1).trans (HZ0.out k h1 h2))
      clear hK K
      try simp only [Act.put, List.setIfInBounds_toArray, List.set_cons_zero, List.set_cons_succ]
      refine wpAnyH_take (i := 6) (oi := { dst := some 3, op := Op.assign (Operand.const (Value.slice none 0 0)), type := 26, pos := "ref.go:468", after := #[{ on := 5, ground := Ground.chain }, { on := 0, ground := Ground.phase }, { on := 1, ground := Ground.textOnly Departure.lateStores }, { on := 2, ground := Ground.textOnly Departure.lateStores }, { on := 3, ground := Ground.textOnly Departure.lateStores }, { on := 4, ground := Ground.textOnly Departure.lateStores }, { on := 5, ground := Ground.phase }], guard := none }) (v := ?_) rfl (by kernel_rfl) (by kernel_rfl) (by kernel_rfl) (fun _ _ _ h => h) (Or.inl ⟨by rfl, ?_⟩) (by assumption) ?_
      rotate_left
      ·(intro w hSw; (try dsimp only at hSw); go_simp; try with_reducible rfl)
      try simp only [Act.put, List.setIfInBounds_toArray, List.set_cons_zero, List.set_cons_succ]
      refine wpAnyH_ready (rs := [7]) (by kernel_rfl) (by simp) ?_
      refine AllReadyH.cons (o := { dst := none, op := Op.store 35 (Operand.tmp 4) (Operand.tmp 76), type := 0, pos := "ref.go:468", after := #[{ on := 4, ground := Ground.data }, { on := 6, ground := Ground.chain }, { on := 0, ground := Ground.phase }, { on := 1, ground := Ground.phase }, { on := 2, ground := Ground.phase }, { on := 3, ground := Ground.phase }, { on := 4, ground := Ground.phase }, { on := 5, ground := Ground.phase }, { on := 6, ground := Ground.phase }], guard := none }) rfl (fun K hK => ?_) AllReadyH.nil
      rw [if_pos (by rfl)]
      refine wp_store_row 35 _ _ rfl (bt + 1) FC rfl rfl 35 _ ((setRow_other _ _ _ _ (by omega)).trans HEZ.out) (by rw [HF9.out]; exact info19) (by first | rfl | rw [HZ9.out, HF9.out]) (by rw [HFC.out]; kernel_rfl) ?_
      refine hK.out _ _ ?_ (fun hHeld => ?_)
      ·exact MS.out _ (fun k h1 h2 => ((setRow_other _ _ _ _ h2).trans (setRow_other _ _ _ _ h1)).trans (HZ0.out k h1 h2))
      clear hK K hHeld MS
      try simp only [Act.put, List.setIfInBounds_toArray, List.set_cons_zero, List.set_cons_succ]
      refine wpAnyH_done (by kernel_rfl) ?_ _
      have HTR := hid (two_rows HTZ.out HEZ.out #[.slice none 0 0] FC)
      have HSZ := hid (show Z0.heap.size ≤ ((Z0.setRow bt #[.slice none 0 0]).setRow (bt + 1) FC).heap.size by rw [setRow_size, setRow_size]; exact Nat.le_refl _)
      have HBN := hid (below_two HBZ.out HBT.out.symm HSZ.out rfl rfl rfl HTR.out.2.2)
      generalize (Z0.setRow bt #[.slice none 0 0]).setRow (bt + 1) FC = W9 at *
      go_wp2_with fail
      refine ⟨rfl, _, res_rparse _ W9 bt (bt + 1) _ FC rfl rfl HTR.out.1 HTR.out.2.1 HF9.out, ?_⟩
      exact ⟨rpr_err HPR.out HFC.out, HBN.out⟩
     ·have HSE := hid he
      have HBI2 := hid (bi_step HBI.out he)
      have HRN := hid hrn2
      have HN2 := hid hN
      clear hrn2 he hN
      obtain ⟨wv2, v2, o2, f2, k2, h8⟩ := pst_ok HPS.out HSE.out
      have HM11 := hid h8
      clear h8
      have c7 : Y10.cell? ⟨mb, 7, none⟩ = some (.int .i64 0) := HM11.out.fc 0
      go_wp2_with fail
      have HIN := hid (show I m Y10 by rw [HI.out]; exact ⟨_, _, _, _, _, _, _, _, HM11.out, HBI2.out, HRN.out, HG10.out⟩)
      exact ⟨hid ⟨m, HIN.out⟩, by have h8 := (HMS.out Y10 m HIN.out).2; have h9 := HN2.out; have h10 := HNM.out; omega⟩
    refine AllReadyH.cons (o := { dst := some 57, op := Op.load 69 (Operand.tmp 56), type := 69, pos := "ref.go:465", after := #[{ on := 7, ground := Ground.data }], guard := none }) rfl (fun K hK => ?_) AllReadyH.nil
    have c2 : Z2.cell? ⟨mb, 2, none⟩ = some (.slice (some ⟨g, 0, none⟩) (k + 1) cap) := (HMZ.out.cell 2 (by decide)).trans (by rw [HWE.out]; rfl)
    go_simp
    clear c2
    refine hK.out _ _ trivial (fun hHeld => ?_)
    clear hK K hHeld
    try simp only [Act.put, List.setIfInBounds_toArray, List.set_cons_zero, List.set_cons_succ]
    have hHeld := trivial
    refine wpAnyH_take (i := 9) (oi := { dst := some 58, op := Op.call { callee := Callee.builtin Builtin.len, args := #[Operand.tmp 57], argTypes := #[69] }, type := 3, pos := "ref.go:465", after := #[{ on := 8, ground := Ground.data }], guard := none }) (v := ?_) rfl (by kernel_rfl) (by kernel_rfl) (by kernel_rfl) (fun _ _ _ h => h) (Or.inl ⟨by rfl, ?_⟩) (by assumption) ?_
    rotate_left
    ·(intro w hSw; (try dsimp only at hSw); go_simp; try with_reducible rfl)
    try simp only [Act.put, List.setIfInBounds_toArray, List.set_cons_zero, List.set_cons_succ]
    refine wpAnyH_take (i := 10) (oi := { dst := some 59, op := Op.binOp BinOp.sub 3 (Operand.tmp 58) (Operand.const (Value.int IntKind.i64 1)) 3, type := 3, pos := "ref.go:465", after := #[{ on := 9, ground := Ground.data }], guard := none }) (v := ?_) rfl (by kernel_rfl) (by kernel_rfl) (by kernel_rfl) (fun _ _ _ h => h) (Or.inl ⟨by rfl, ?_⟩) (by assumption) ?_
    rotate_left
    ·(intro w hSw; (try dsimp only at hSw); go_simp; try with_reducible rfl)
    try simp only [Act.put, List.setIfInBounds_toArray, List.set_cons_zero, List.set_cons_succ]
    refine wpAnyH_ready (rs := [4]) (by kernel_rfl) (by simp) ?_
    refine AllReadyH.cons (o := { dst := some 53, op := Op.load 69 (Operand.tmp 52), type := 69, pos := "ref.go:465", after := #[{ on := 3, ground := Ground.data }], guard := none }) rfl (fun K hK => ?_) AllReadyH.nil
    have c2 : Z2.cell? ⟨mb, 2, none⟩ = some (.slice (some ⟨g, 0, none⟩) (k + 1) cap) := (HMZ.out.cell 2 (by decide)).trans (by rw [HWE.out]; rfl)
    go_simp
    clear c2
    refine hK.out _ _ trivial (fun hHeld => ?_)
    clear hK K hHeld
    try simp only [Act.put, List.setIfInBounds_toArray, List.set_cons_zero, List.set_cons_succ]
    have hHeld := trivial
    refine wpAnyH_take (i := 11) (oi := { dst := some 60, op := Op.slice 69 (Operand.tmp 53) none (some (Operand.tmp 59)) none, type := 69, pos := "ref.go:465", after := #[{ on := 4, ground := Ground.data }, { on := 10, ground := Ground.data }], guard := none }) (v := ?_) rfl (by kernel_rfl) (by kernel_rfl) (by kernel_rfl) (fun _ _ _ h => h) (Or.inl ⟨by rfl, ?_⟩) (by assumption) ?_
    rotate_left
    ·(intro w hSw; (try dsimp only at hSw); go_simp; try with_reducible rfl)
    try simp only [Act.put, List.setIfInBounds_toArray, List.set_cons_zero, List.set_cons_succ]
    refine wpAnyH_take (i := 12) (oi := { dst := some 61, op := Op.nilCheck (Operand.tmp 49), type := 0, pos := "ref.go:465", after := #[{ on := 0, ground := Ground.data }, { on := 0, ground := Ground.phase }, { on := 1, ground := Ground.phase }, { on := 2, ground := Ground.phase }, { on := 3, ground := Ground.phase }, { on := 4, ground := Ground.phase }, { on := 5, ground := Ground.phase }, { on := 6, ground := Ground.phase }, { on := 7, ground := Ground.phase }, { on := 8, ground := Ground.phase }, { on := 9, ground := Ground.phase }, { on := 10, ground := Ground.phase }, { on := 11, ground := Ground.phase }], guard := none }) (v := ?_) rfl (by kernel_rfl) (by kernel_rfl) (by kernel_rfl) (fun _ _ _ h => h) (Or.inl ⟨by rfl, ?_⟩) (by assumption) ?_
    rotate_left
    ·(intro w hSw; (try dsimp only at hSw); go_simp; try with_reducible rfl)
    try simp only [Act.put, List.setIfInBounds_toArray, List.set_cons_zero, List.set_cons_succ]
    refine wpAnyH_take (i := 13) (oi := { dst := some 62, op := Op.fieldAddr 71 (Operand.tmp 61) 2, type := 0, pos := "ref.go:465", after := #[{ on := 12, ground := Ground.data }, { on := 0, ground := Ground.phase }, { on := 1, ground := Ground.phase }, { on := 2, ground := Ground.phase }, { on := 3, ground := Ground.phase }, { on := 4, ground := Ground.phase }, { on := 5, ground := Ground.phase }, { on := 6, ground := Ground.phase }, { on := 7, ground := Ground.phase }, { on := 8, ground := Ground.phase }, { on := 9, ground := Ground.phase }, { on := 10, ground := Ground.phase }, { on := 11, ground := Ground.phase }], guard := none }) (v := ?_) rfl (by kernel_rfl) (by kernel_rfl) (by kernel_rfl) (fun _ _ _ h => h) (Or.inl ⟨by rfl, ?_⟩) (by assumption) ?_
    rotate_left
    ·(intro w hSw; (try dsimp only at hSw); go_simp; try with_reducible rfl)
    try simp only [Act.put, List.setIfInBounds_toArray, List.set_cons_zero, List.set_cons_succ]
    refine wpAnyH_ready (rs := [14]) (by kernel_rfl) (by simp) ?_
    refine AllReadyH.cons (o := { dst := none, op := Op.store 69 (Operand.tmp 62) (Operand.tmp 60), type := 0, pos := "ref.go:465", after := #[{ on := 13, ground := Ground.data }, { on := 11, ground := Ground.data }, { on := 0, ground := Ground.phase }, { on := 1, ground := Ground.phase }, { on := 2, ground := Ground.phase }, { on := 3, ground := Ground.phase }, { on := 4, ground := Ground.phase }, { on := 5, ground := Ground.phase }, { on := 6, ground := Ground.phase }, { on := 7, ground := Ground.phase }, { on := 8, ground := Ground.phase }, { on := 9, ground := Ground.phase }, { on := 10, ground := Ground.phase }, { on := 11, ground := Ground.phase }], guard := none }) rfl (fun K hK => ?_) AllReadyH.nil
    have c2 : Z2.cell? ⟨mb, 2, none⟩ = some wv := HMZ.out.cell 2 (by decide)
    have f2 := frz_row HMZ.out.box 2
    go_simp
    clear c2 f2
    refine hK.out _ _ trivial (fun hHeld => ?_)
    clear hK K hHeld
    try simp only [Act.put, List.setIfInBounds_toArray, List.set_cons_zero, List.set_cons_succ]
    refine wpAnyH_done (by kernel_rfl) ?_ _
    have HLW := hid (HMZ.out.lessw (by rw [← HKK.out]; exact HWE.out))
    rw [← HKK.out] at HLW
    have HM9 := hid HLW.out.1
    have HG9 := hid (HGZ.out.trans HLW.out.2)
    have HV9 := hid ((set_oth HMZ.out.box 2 (.slice (some ⟨g, 0, none⟩) k cap) HBM.out).trans HVZ.out)
    generalize Z2.setCell ⟨mb, 2, none⟩ (.slice (some ⟨g, 0, none⟩) k cap) = Y9 at *
    clear HLW
    have ⟨y0, y1, y2, y3, y4, y5⟩ := bx6 HV9.out
    go_wp2_with fail
    refine (mstep_any HM9.out w0 HBS.out HNS.out (by have h8 := HBD.out; omega) (by have h8 := HBD.out; omega) (by have h8 := HBD.out; omega) (by have h8 := HL2.out; omega)).mono ?_
    rintro e Y10 ⟨rfl, h8, h9⟩
    have HPS := hid h8
    have HG10 := hid (HG9.out.trans h9)
    clear h8 h9 y0 y1 y2 y3 y4 y5
    rcases HCS.out with ⟨c, x, he, hR⟩ | ⟨m, ps, fr9, s9, hN, he, hrn2⟩
    ·have HSE := hid he
     have HRE := hid hR
     have hc0 : (c : Int) ≠ 0 := by have := nz_step T w0 s fr c x he; omega
     have hc1 : ((c : Int) != 0) = true := by simpa using hc0
     obtain ⟨FC, hfc⟩ : ∃ FC : Array Value, FC = f19 (c : Int) x := ⟨_, rfl⟩
     have HFC := hid hfc
     have HF9 := hid (show FC.size = 19 by rw [hfc]; rfl)
     clear hfc hR he hc0
     obtain ⟨s2, ws2, fr2, wv2, v2, o2, f2, k2, h8⟩ := pst_bad HPS.out HSE.out
     rw [← HFC.out] at h8
     have HM11 := hid h8
     clear h8
     have c7 : Y10.cell? ⟨mb, 7, none⟩ = some (.int .i64 (c : Int)) := (HM11.out.fc 0).trans (by rw [HFC.out]; rfl)
     have HPR := hid (show parR src = .error (c, x) by rw [HPN.out, end_err (HR.out.symm.trans HRE.out)])
     have HT3 := hid ((HG10.out.low.block bt (by have h8 := HZ1.out; omega)).trans HT2.out)
     have HE3 := hid ((HG10.out.low.block (bt + 1) (by have h8 := HZ1.out; omega)).trans HE2.out)
     have HB9 := hid (HBW.out.trans (HG10.out.low.mono (by have h8 := HZ1.out; have h9 := HBT.out; omega)))
     go_upto_region 12 with fail
     have MS := hid (show ∀ Y : World, (∀ k, k ≠ bt → k ≠ bt + 1 → Y.heap[k]? = Y10.heap[k]?) → (fun Y : World => Y.rangeAt mb 7 FC.toList) Y from fun Y hb => fun j u hu => (World.cell?_of_block (a := ⟨mb, 7 + j, none⟩) (hb mb (by have h8 := HM11.out.mbB; have h9 := HZ1.out; omega) (by have h8 := HM11.out.mbB; have h9 := HZ1.out; omega))).trans ((HM11.out.fc j).trans (by rw [← Array.getElem?_toList]; exact hu)))
     refine wp_region_held_drew (S := (fun Y : World => Y.rangeAt mb 7 FC.toList)) (by kernel_rfl) ?_ (fun hHeld => ?_)
     ·exact MS.out _ (fun _ _ _ => rfl)
     have HTZ := hid (show Y10.drew.heap[bt]? = _ from HT3.out)
     have HEZ := hid (show Y10.drew.heap[bt + 1]? = _ from HE3.out)
     have HZ0 := hid (show ∀ k, k ≠ bt → k ≠ bt + 1 → Y10.drew.heap[k]? = Y10.heap[k]? from fun _ _ _ => rfl)
     have HBZ := hid (show Below w.heap.size w Y10.drew from HB9.out.drew)
     generalize Y10.drew = Z0 at *
     refine wpAnyH_take (i := 0) (oi := { dst := some 72, op := Op.build 25 #[], type := 25, pos := "ref.go:468", after := #[], guard := none }) (v := ?_) rfl (by kernel_rfl) (by kernel_rfl) (by kernel_rfl) (fun _ _ _ h => h) (Or.inl ⟨by rfl, ?_⟩) (by assumption) ?_
     rotate_left
     ·(intro w hSw; (try dsimp only at hSw); go_simp; try with_reducible rfl)
     try simp only [Act.put, List.setIfInBounds_toArray, List.set_cons_zero, List.set_cons_succ]
     refine wpAnyH_take (i := 1) (oi := { dst := some 73, op := Op.move (Operand.tmp 8), type := 68, pos := "ref.go:468", after := #[{ on := 6, ground := Ground.gcOnly Departure.lateStores }], guard := none }) (v := ?_) rfl (by kernel_rfl) (by kernel_rfl) (by kernel_rfl) (fun _ _ _ h => h) (Or.inl ⟨by rfl, ?_⟩) (by assumption) ?_
     rotate_left
     ·(intro w hSw; (try dsimp only at hSw); go_simp; try with_reducible rfl)
     try simp only [Act.put, List.setIfInBounds_toArray, List.set_cons_zero, List.set_cons_succ]
     refine wpAnyH_take (i := 2) (oi := { dst := some 74, op := Op.nilCheck (Operand.tmp 73), type := 0, pos := "ref.go:468", after := #[{ on := 1, ground := Ground.data }, { on := 6, ground := Ground.gcOnly Departure.lateStores }], guard := none }) (v := ?_) rfl (by kernel_rfl) (by kernel_rfl) (by kernel_rfl) (fun _ _ _ h => h) (Or.inl ⟨by rfl, ?_⟩) (by assumption) ?_
     rotate_left
     ·(intro w hSw; (try dsimp only at hSw); go_simp; try with_reducible rfl)
     try simp only [Act.put, List.setIfInBounds_toArray, List.set_cons_zero, List.set_cons_succ]
     refine wpAnyH_take (i := 3) (oi := { dst := some 75, op := Op.fieldAddr 71 (Operand.tmp 74) 7, type := 0, pos := "ref.go:468", after := #[{ on := 2, ground := Ground.data }, { on := 6, ground := Ground.gcOnly Departure.lateStores }], guard := none }) (v := ?_) rfl (by kernel_rfl) (by kernel_rfl) (by kernel_rfl) (fun _ _ _ h => h) (Or.inl ⟨by rfl, ?_⟩) (by assumption) ?_
     rotate_left
     ·(intro w hSw; (try dsimp only at hSw); go_simp; try with_reducible rfl)
     try simp only [Act.put, List.setIfInBounds_toArray, List.set_cons_zero, List.set_cons_succ]
     refine wpAnyH_take (i := 4) (oi := { dst := some 76, op := Op.load 35 (Operand.tmp 75), type := 35, pos := "ref.go:468", after := #[{ on := 3, ground := Ground.data }, { on := 6, ground := Ground.gcOnly Departure.lateStores }], guard := none }) (v := .agg FC.toList.toArray) rfl (by kernel_rfl) (by kernel_rfl) (by kernel_rfl) (fun _ _ _ h => h) (yieldsIf_load_mid (by rfl) 35 _ rfl mb 7 rfl FC.toList _ (fun w h => h) str53 rfl (by rw [Array.length_toList, HF9.out]; exact info19)) (by assumption) ?_
     rw [show FC.toList.toArray = FC from Array.toArray_toList]
     try simp only [Act.put, List.setIfInBounds_toArray, List.set_cons_zero, List.set_cons_succ]
     refine wpAnyH_ready (rs := [5]) (by kernel_rfl) (by simp) ?_
     refine AllReadyH.cons (o := { dst := none, op := Op.store 25 (Operand.tmp 2) (Operand.tmp 72), type := 0, pos := "ref.go:468", after := #[{ on := 0, ground := Ground.data }, { on := 0, ground := Ground.phase }, { on := 1, ground := Ground.textOnly Departure.lateStores }, { on := 2, ground := Ground.textOnly Departure.lateStores }, { on := 3, ground := Ground.textOnly Departure.lateStores }, { on := 4, ground := Ground.textOnly Departure.lateStores }], guard := none }) rfl (fun K hK => ?_) AllReadyH.nil
     rw [if_pos (by rfl)]
     refine wp_store_row 25 _ _ rfl bt #[.slice none 0 0] rfl rfl 25 _ HTZ.out infoTr rfl (by kernel_rfl) ?_
     refine hK.out _ _ ?_ (fun hHeld => ?_)
     ·exact MS.out _ (fun k h1 h2 => (setRow_other _ _ _ _ h1).trans (HZ0.out k h1 h2))
     clear hK K
     try simp only [Act.put, List.setIfInBounds_toArray, List.set_cons_zero, List.set_cons_succ]
     refine wpAnyH_take (i := 6) (oi := { dst := some 3, op := Op.assign (Operand.const (Value.slice none 0 0)), type := 26, pos := "ref.go:468", after := #[{ on := 5, ground := Ground.chain }, { on := 0, ground := Ground.phase }, { on := 1, ground := Ground.textOnly Departure.lateStores }, { on := 2, ground := Ground.textOnly Departure.lateStores }, { on := 3, ground := Ground.textOnly Departure.lateStores }, { on := 4, ground := Ground.textOnly Departure.lateStores }, { on := 5, ground := Ground.phase }], guard := none }) (v := ?_) rfl (by kernel_rfl) (by kernel_rfl) (by kernel_rfl) (fun _ _ _ h => h) (Or.inl ⟨by rfl, ?_⟩) (by assumption) ?_
     rotate_left
     ·(intro w hSw; (try dsimp only at hSw); go_simp; try with_reducible rfl)
     try simp only [Act.put, List.setIfInBounds_toArray, List.set_cons_zero, List.set_cons_succ]
     refine wpAnyH_ready (rs := [7]) (by kernel_rfl) (by simp) ?_
     refine AllReadyH.cons (o := { dst := none, op := Op.store 35 (Operand.tmp 4) (Operand.tmp 76), type := 0, pos := "ref.go:468", after := #[{ on := 4, ground := Ground.data }, { on := 6, ground := Ground.chain }, { on := 0, ground := Ground.phase }, { on := 1, ground := Ground.phase }, { on := 2, ground := Ground.phase }, { on := 3, ground := Ground.phase }, { on := 4, ground := Ground.phase }, { on := 5, ground := Ground.phase }, { on := 6, ground := Ground.phase }], guard := none }) rfl (fun K hK => ?_) AllReadyH.nil
     rw [if_pos (by rfl)]
     refine wp_store_row 35 _ _ rfl (bt + 1) FC rfl rfl 35 _ ((setRow_other _ _ _ _ (by omega)).trans HEZ.out) (by rw [HF9.out]; exact info19) (by first | rfl | rw [HZ9.out, HF9.out]) (by rw [HFC.out]; kernel_rfl) ?_
     refine hK.out _ _ ?_ (fun hHeld => ?_)
     ·exact MS.out _ (fun k h1 h2 => ((setRow_other _ _ _ _ h2).trans (setRow_other _ _ _ _ h1)).trans (HZ0.out k h1 h2))
     clear hK K hHeld MS
     try simp only [Act.put, List.setIfInBounds_toArray, List.set_cons_zero, List.set_cons_succ]
     refine wpAnyH_done (by kernel_rfl) ?_ _
     have HTR := hid (two_rows HTZ.out HEZ.out #[.slice none 0 0] FC)
     have HSZ := hid (show Z0.heap.size ≤ ((Z0.setRow bt #[.slice none 0 0]).setRow (bt + 1) FC).heap.size by rw [setRow_size, setRow_size]; exact Nat.le_refl _)
     have HBN := hid (below_two HBZ.out HBT.out.symm HSZ.out rfl rfl rfl HTR.out.2.2)
     generalize (Z0.setRow bt #[.slice none 0 0]).setRow (bt + 1) FC = W9 at *
     go_wp2_with fail
     refine ⟨rfl, _, res_rparse _ W9 bt (bt + 1) _ FC rfl rfl HTR.out.1 HTR.out.2.1 HF9.out, ?_⟩
     exact ⟨rpr_err HPR.out HFC.out, HBN.out⟩
    ·have HSE := hid he
     have HBI2 := hid (bi_step HBI.out he)
     have HRN := hid hrn2
     have HN2 := hid hN
     clear hrn2 he hN
     obtain ⟨wv2, v2, o2, f2, k2, h8⟩ := pst_ok HPS.out HSE.out
     have HM11 := hid h8
     clear h8
     have c7 : Y10.cell? ⟨mb, 7, none⟩ = some (.int .i64 0) := HM11.out.fc 0
     go_wp2_with fail
     have HIN := hid (show I m Y10 by rw [HI.out]; exact ⟨_, _, _, _, _, _, _, _, HM11.out, HBI2.out, HRN.out, HG10.out⟩)
     exact ⟨hid ⟨m, HIN.out⟩, by have h8 := (HMS.out Y10 m HIN.out).2; have h9 := HN2.out; have h10 := HNM.out; omega⟩
 ·have HPR := hid (show parR src = .error (c, (a : Int)) by unfold parR; rw [hs])
  have h0 : (c : Int) ≠ 0 := by have := scanT_code src hs; omega
  have h0' : ((c : Int) != 0) = true := by simpa using h0
  clear h0 hs
  obtain ⟨FC, hfc⟩ : ∃ FC : Array Value, FC = f19 (c : Int) (a : Int) := ⟨_, rfl⟩
  have HFC := hid hfc
  have HF9 := hid (show FC.size = 19 by rw [hfc]; rfl)
  clear hfc
  have e1 : (#[.int .i64 (c : Int), .int .i64 (a : Int), .string ⟨#[]⟩, .int .i64 0, .int .i64 0, .int .i64 0, .string ⟨#[]⟩, .int .i64 0, .int .i64 0, .int .i64 0, .string ⟨#[]⟩, .int .i64 0, .int .i64 0, .int .i64 0, .string ⟨#[]⟩, .int .i64 0, .int .i64 0, .int .i64 0, .string ⟨#[]⟩] : Array Value) = FC := by rw [HFC.out]; rfl
  go_upto_region 3 with fail
  refine wp_region_lit ?_
  refine wpList_plain rfl fun K hK => ?_
  have HK := hid hK
  clear hK
  go_simp
  (try rw [e1])
  refine HK.out _ _ ?_
  clear HK
  try simp only [Act.put, List.setIfInBounds_toArray, List.set_cons_zero, List.set_cons_succ]
  refine wpList_plain rfl fun K hK => ?_
  have HK := hid hK
  clear hK
  go_simp
  (try rw [e1])
  refine HK.out _ _ ?_
  clear HK
  try simp only [Act.put, List.setIfInBounds_toArray, List.set_cons_zero, List.set_cons_succ]
  refine wpList_plain rfl fun K hK => ?_
  have HK := hid hK
  clear hK
  go_simp
  (try rw [e1])
  refine HK.out _ _ ?_
  clear HK
  try simp only [Act.put, List.setIfInBounds_toArray, List.set_cons_zero, List.set_cons_succ]
  refine wpList_plain rfl fun K hK => ?_
  have HK := hid hK
  clear hK
  go_simp
  (try rw [e1])
  refine HK.out _ _ ?_
  clear HK
  try simp only [Act.put, List.setIfInBounds_toArray, List.set_cons_zero, List.set_cons_succ]
  refine wpList_store_row rfl 25 _ _ rfl bt #[.slice none 0 0] rfl rfl 25 _ HT2.out infoTr rfl (by kernel_rfl) ?_
  try simp only [Act.put, List.setIfInBounds_toArray, List.set_cons_zero, List.set_cons_succ]
  refine wpList_plain rfl fun K hK => ?_
  have HK := hid hK
  clear hK
  go_simp
  (try rw [e1])
  refine HK.out _ _ ?_
  clear HK
  try simp only [Act.put, List.setIfInBounds_toArray, List.set_cons_zero, List.set_cons_succ]
  refine wpList_store_row rfl 35 _ _ rfl (bt + 1) FC rfl rfl 35 _ ((setRow_other _ _ _ _ (by omega)).trans HE2.out) (by rw [HF9.out]; exact info19) (by rw [HZ9.out, HF9.out]) (by rw [HFC.out]; kernel_rfl) ?_
  try simp only [Act.put, List.setIfInBounds_toArray, List.set_cons_zero, List.set_cons_succ]
  clear e1
  have HTR := hid (two_rows HT2.out HE2.out #[.slice none 0 0] FC)
  have HSZ := hid (show W2.heap.size ≤ ((W2.setRow bt #[.slice none 0 0]).setRow (bt + 1) FC).heap.size by rw [setRow_size, setRow_size]; exact Nat.le_refl _)
  have HBN := hid (below_two HBW.out HBT.out.symm HSZ.out rfl rfl rfl HTR.out.2.2)
  generalize (W2.setRow bt #[.slice none 0 0]).setRow (bt + 1) FC = W9 at *
  go_wp2_with fail
  refine ⟨rfl, _, res_rparse _ W9 bt (bt + 1) _ FC rfl rfl HTR.out.1 HTR.out.2.1 HF9.out, ?_⟩
  exact ⟨rpr_err HPR.out HFC.out, HBN.out⟩
end Go.Proofs.YtcldglilhhhdoaaGreatDoor.L
