import Derived.Test.YtdhjoimiejdgbaaDoorBgn
import Derived.Test.YtdhjoimiejdgbaaDoorChh
import Derived.Test.YtdhjoimiejdgbaaDoorLo1
namespace Go.Proofs.YtdhjoimiejdgbaaDoor.L
open Go.RowKit Bs Go.Maps
set_option linter.unusedVariables false
/-- One change of table 1. -/
theorem ch_one {w0 w : World} {B : Nat} {G : List Nat} {st : Nat → St} (h : Wh w0 w B G st) (hr : Re st) (ta : TabG w0 G) {p : Nat} (hp : (st 1).pv = .pointer (some ⟨p, 0, none⟩)) (k oa ot ov : Int) (h2 : 2 ≤ k) (h4 : k ≤ 4) (s : ByteArray) (hs : s.size ≤ maxLen) :
    Calls Tryd.prog 48 #[.pointer (some ⟨B, 0, none⟩), .agg #[.int .i64 k, .int .i64 oa, .int .i64 ot, .string s, .int .i64 ov], .int .i64 1] w fun e w' => e = .returned (.bool true) ∧ ∃ st', Wh w0 w' B G st' ∧ Re st' ∧ Ky st st' := by
  obtain ⟨m, l, F, mo, v, d, hst⟩ : ∃ m l F mo v d, st 1 = ⟨.pointer (some ⟨p, 0, none⟩), m, l, F, mo, v, d⟩ := by
    generalize st 1 = x at *
    obtain ⟨pv, m, l, F, mo, v, d⟩ := x
    dsimp at hp
    subst hp
    exact ⟨m, l, F, mo, v, d, rfl⟩
  have : k = 2 ∨ k = 3 ∨ k = 4 := by omega
  rcases this with rfl | rfl | rfl
  · exact ch_put w0 w B st h hr ta 1 (by decide) p m l F mo v d hst oa ot ov s hs
  · exact ch_set w0 w B st h hr ta 1 (by decide) p m l F mo v d hst oa ot ov s hs
  · exact ch_drop w0 w B st h hr ta 1 (by decide) p m l F mo v d hst oa ot ov s hs
abbrev oneW (p m : Nat) (v : Value) : Array Value := #[.pointer none, .pointer (some ⟨p, 0, none⟩), .pointer none, .pointer none, .int .i64 0, .slice none 0 0, .int .i64 (m : Int), v, .int .i64 0, .slice none 0 0, .int .i64 0, .slice none 0 0]
/-- What stands while after goes on. -/
def Ai (W wr : World) (B p m : Nat) (F : List Nat) : Prop := ∃ st, Wh W wr B F st ∧ Re st ∧ (st 1).pv = .pointer (some ⟨p, 0, none⟩) ∧ (st 1).m = m
theorem wh_start {W : World} {p m : Nat} {l : List Rw} {F : List Nat} {v : Value} {d : List Dr} (T : Tb W p m l F) (O : OwnD W v d) (R : Rel l d) : Ai W (W.alloc (.cells (oneW p m v) 38)) W.heap.size p m F := by
  have bl := (Below.refl W.heap.size W).alloc (Nat.le_refl _) (.cells (oneW p m v) 38)
  have h : (W.alloc (.cells (oneW p m v) 38)).heap[W.heap.size]? = some (.cells (oneW p m v) 38) := heap_alloc_new W _
  refine ⟨upd st0 1 ⟨.pointer (some ⟨p, 0, none⟩), m, l, F, (m : Int), v, d⟩, ⟨⟨_, h, rfl, fun i hi => ?_⟩, fun i hi => ?_, fun i hi => ?_, fun i j hi hj hij k hk => ?_, Bx.of bl, Nat.le_refl _, fun i hi k hk => ?_⟩, re0.upd (i := 1) R (Or.inr rfl), rfl, rfl⟩
  · have : i = 0 ∨ i = 1 ∨ i = 2 ∨ i = 3 := by omega
    rcases this with rfl | rfl | rfl | rfl <;> exact ⟨rfl, rfl, rfl⟩
  · by_cases e : i = 1
    · subst e; rw [upd_same]; exact Or.inr ⟨p, rfl, T.low bl⟩
    · rw [upd_other _ _ e]; exact Or.inl ⟨rfl, rfl, rfl, rfl⟩
  · by_cases e : i = 1
    · subst e; rw [upd_same]; exact O.low bl
    · rw [upd_other _ _ e]; exact ⟨rfl, Or.inl ⟨rfl, rfl⟩⟩
  · by_cases e : i = 1
    · have ej : j ≠ 1 := fun c => hij (e.trans c.symm)
      rw [upd_other _ _ ej]
      intro c; cases c
    · rw [upd_other _ _ e] at hk; cases hk
  · by_cases e : i = 1
    · subst e; rw [upd_same] at hk; exact Or.inr hk
    · rw [upd_other _ _ e] at hk; cases hk
set_option maxHeartbeats 8000000 in
set_option maxRecDepth 100000 in
theorem after_any (wS w : World) (p m : Nat) (l : List Rw) (F : List Nat) (a : Option Addr) (L cap : Nat) (d : List Dr) (hL : L = d.length) (T : Tb w p m l F) (O : OwnD w (.slice a L cap) d) (R : Rel l d) (vs : Value) (os : List Opd) (hv : ItemsO wS vs os) (hg : GoodO os) (bS : Below wS.heap.size wS w) (hF : ∀ k ∈ F, wS.heap.size ≤ k) (ta : TabG w F) :
    Calls Tryd.prog 44 #[.pointer (some ⟨p, 0, none⟩), .agg #[.int .i64 (m : Int), .slice a L cap], vs] w fun e w' => ∃ l' F' v' d', e = .returned (.tuple #[.agg #[.int .i64 (m : Int), v'], .bool true]) ∧ Tb w' p m l' F' ∧ OwnD w' v' d' ∧ Rel l' d' ∧ Mv F F' w w' := by
  obtain ⟨sa, sc, rfl, hi⟩ := hv
  have hl := hg.1
  have HG := hid hg.2
  obtain ⟨N, hN⟩ : ∃ N, N = os.length := ⟨_, rfl⟩
  rw [← hN] at hl ⊢
  have HI := hid hi
  have HN := hid hN
  unfold maxLen at hl
  have BO := Bp.mk2 w (m : Int) (.slice a L cap) 35
  have b2 : Below w.heap.size w ((w.alloc (.cells #[.int .i64 (m : Int), .slice a L cap] 35)).alloc (.cells #[.int .i64 0, .slice none 0 0] 35)) := BO.lo
  have WS := hid (wh_start (T.low b2) (O.low b2) R)
  have RB : Hid (((w.alloc (.cells #[.int .i64 (m : Int), .slice a L cap] 35)).alloc (.cells #[.int .i64 0, .slice none 0 0] 35)).heap[w.heap.size + 1]? = some (.cells #[.int .i64 0, .slice none 0 0] 35 (0, 0))) := hid (heap_alloc2_new w _ _)
  have hz2 : ((w.alloc (.cells #[.int .i64 (m : Int), .slice a L cap] 35)).alloc (.cells #[.int .i64 0, .slice none 0 0] 35)).heap.size = w.heap.size + 1 + 1 := by simp
  rw [hz2] at WS
  have HB2 := hid b2
  have HZ := hid hz2
  have HBS := hid bS
  have HFS := hid hF
  have HTA := hid ta
  have BOh := hid BO
  have hTl := hid T.lt
  clear hN hg hi T O R b2 BO hz2 bS hF ta hL
  generalize hQ : (fun e w' => ∃ l' F' v' d', e = Ending.returned (.tuple #[.agg #[.int .i64 (m : Int), v'], .bool true]) ∧ Tb w' p m l' F' ∧ OwnD w' v' d' ∧ Rel l' d' ∧ Mv F F' w w') = Q
  have HQ := hid hQ
  clear hQ
  have t1 := BOh.out.c1
  have t2 := BOh.out.c2
  go_enter Tryd.func44, Tryd.ntmps44
  go_wp2_with fail
  generalize (w.alloc (.cells #[.int .i64 (m : Int), .slice a L cap] 35)).alloc (.cells #[.int .i64 0, .slice none 0 0] 35) = X2 at *
  have hzz : X2.heap.size = w.heap.size + 1 + 1 := HZ.out
  go_region
  go_wp2_with fail
  have W0 : Hid (Ai X2 (X2.alloc (Obj.cells (oneW p m (.slice a L cap)) 38)).drew (w.heap.size + 1 + 1) p m F) := hid (by
    obtain ⟨st, h1, h2, h3, h4⟩ := WS.out
    exact ⟨st, h1.low (belowDr _), h2, h3, h4⟩)
  have TA : Hid (TabG X2 F) := hid (fun W hb => HTA.out W ((Bx.of HB2.out).trans (hb.mono (by omega) (fun k hk => Or.inl hk))))
  have BS2 : Hid (Below wS.heap.size wS X2) := hid (HBS.out.trans (HB2.out.mono HBS.out.size))
  clear WS t1 t2 HTA
  go_loopw [25] (fun i wr => ∃ k : Nat, k ≤ N ∧ i = .int .i64 k ∧ Hid (Ai X2 wr (w.heap.size + 1 + 1) p m F)) (fun i _ => N - (intOf i).toNat)
  case atStart => exact ⟨0, Nat.zero_le _, rfl, W0⟩
  case round =>
    clear W0
    obtain ⟨k, hk, rfl, HX⟩ := hrel
    obtain ⟨st, hW, hR, hp, hm⟩ := HX.out
    have BL : Below wS.heap.size wS wr := BS2.out.trans (hW.lo.below (by have := BS2.out.size; omega) HFS.out)
    have HW := hid hW
    have HR := hid hR
    have HP := hid hp
    have HM := hid hm
    clear hW hR hp hm
    by_cases hlt : k < N
    · have hkl : k < os.length := by rw [← HN.out]; exact hlt
      rcases HI.out with h0 | ⟨b, off, ea, hbl, hc⟩
      · omega
      subst ea
      obtain ⟨x0, x1, x2, x3, x4⟩ := hc k hkl
      rw [← BL.cell (p := ⟨b, off + k * 5, none⟩) hbl] at x0
      rw [← BL.cell (p := ⟨b, off + k * 5 + 1, none⟩) hbl] at x1
      rw [← BL.cell (p := ⟨b, off + k * 5 + 2, none⟩) hbl] at x2
      rw [← BL.cell (p := ⟨b, off + k * 5 + 3, none⟩) hbl] at x3
      rw [← BL.cell (p := ⟨b, off + k * 5 + 4, none⟩) hbl] at x4
      have hsz := HG.out _ (List.getElem_mem hkl)
      generalize os[k].k = kk at *
      generalize os[k].a = oa at *
      generalize os[k].t = ot at *
      generalize os[k].s = s at *
      generalize os[k].v = ov at *
      have W1 := hid (HW.out.low ((Below.refl wr.heap.size wr).alloc (Nat.le_refl _) (.cells #[.int .i64 kk, .int .i64 1, .int .i64 ot, .string s, .int .i64 ov] 28)))
      clear hc hkl BL HX
      by_cases h2 : (2 : Int) ≤ kk
      · by_cases h4 : kk ≤ (4 : Int)
        · have CS := hid (ch_one W1.out HR.out TA.out HP.out kk 1 ot ov h2 h4 s hsz)
          clear hsz
          go_wp2_with (go_at_call 48; refine CS.out.mono ?_; rintro e w5 ⟨rfl, st', hA, hB, hK⟩; have HS5 : Hid (Ai X2 w5 (w.heap.size + 1 + 1) p m F) := hid ⟨st', hA, hB, (hK 1).1.trans HP.out, (hK 1).2.trans HM.out⟩; clear hA hB hK)
          exact ⟨⟨k + 1, by omega, by go_num, HS5⟩, by simp [intOf]; omega⟩
        · have HS5 : Hid (Ai X2 (wr.alloc (.cells #[.int .i64 kk, .int .i64 1, .int .i64 ot, .string s, .int .i64 ov] 28)) (w.heap.size + 1 + 1) p m F) := hid ⟨st, W1.out, HR.out, HP.out, HM.out⟩
          clear hsz
          go_wp2_with fail
          exact ⟨⟨k + 1, by omega, by go_num, HS5⟩, by simp [intOf]; omega⟩
      · have HS5 : Hid (Ai X2 (wr.alloc (.cells #[.int .i64 kk, .int .i64 1, .int .i64 ot, .string s, .int .i64 ov] 28)) (w.heap.size + 1 + 1) p m F) := hid ⟨st, W1.out, HR.out, HP.out, HM.out⟩
        clear hsz
        go_wp2_with fail
        exact ⟨⟨k + 1, by omega, by go_num, HS5⟩, by simp [intOf]; omega⟩
    · have hkL : N = k := by omega
      subst hkL
      have rbx : wr.heap[w.heap.size + 1]? = some (.cells #[.int .i64 0, .slice none 0 0] 35 (0, 0)) := (HW.out.lo.block _ (by omega) (fun c => by have := hTl.out _ c; omega)).trans RB.out
      obtain ⟨c0, e1, e2⟩ := HW.out.cells (i := 1) (by decide)
      have c1 : wr.cell? ⟨w.heap.size + 1 + 1, 6, none⟩ = some (.int .i64 (st 1).mo) := e1
      have c2 : wr.cell? ⟨w.heap.size + 1 + 1, 7, none⟩ = some (st 1).v := e2
      clear e1 e2
      have hmo : (st 1).mo = (m : Int) := by
        rcases (HR.out 1 (by decide)).2 with e | e
        · rw [HP.out] at e; cases e
        · rw [e, HM.out]
      rw [hmo] at c1
      obtain ⟨va, vc, hv⟩ := own_len (HW.out.od 1 (by decide))
      have HV := hid hv
      rw [hv] at c2
      have g0 : wr.cell? ⟨w.heap.size + 1, 0, none⟩ = some (.int .i64 0) := (by rw [cell_of_row wr _ 0 _ _ _ rbx]; rfl)
      have g1 : wr.cell? ⟨w.heap.size + 1, 1, none⟩ = some (.slice none 0 0) := (by rw [cell_of_row wr _ 1 _ _ _ rbx]; rfl)
      have z0 : wr.frozen? ⟨w.heap.size + 1, 0, none⟩ = false := frozen_of_row wr _ 0 _ _ rbx
      have z1 : wr.frozen? ⟨w.heap.size + 1, 1, none⟩ = false := frozen_of_row wr _ 1 _ _ rbx
      have RBX := hid rbx
      generalize hLd : (st 1).d.length = Ld at *
      clear hLd hv hmo rbx HX BL c0
      go_wp2_with fail
      (try simp only [Exit.inBlock, Exit.then])
      rw [← HQ.out]
      have b1 := cellSet RBX.out 0 (.int .i64 (m : Int))
      have nF := (HW.out.tq 1 (by decide)).not RBX.out (by decide)
      have T5 : Tq ((wr.setCell ⟨w.heap.size + 1, 0, none⟩ (.int .i64 (m : Int))).setCell ⟨w.heap.size + 1, 1, none⟩ (.slice va Ld vc)) (st 1).pv (st 1).m (st 1).l (st 1).F := (HW.out.tq 1 (by decide)).frame (fun k hk => by
        have hne : k ≠ w.heap.size + 1 := fun e => nF (by rw [← e]; exact hk)
        rw [set_other _ _ hne, set_other _ _ hne])
      have O5 : OwnD ((wr.setCell ⟨w.heap.size + 1, 0, none⟩ (.int .i64 (m : Int))).setCell ⟨w.heap.size + 1, 1, none⟩ (.slice va Ld vc)) (st 1).v (st 1).d := ((HW.out.od 1 (by decide)).setO RBX.out 0 _).setO b1 1 _
      have L5 : Bx F w.heap.size w ((wr.setCell ⟨w.heap.size + 1, 0, none⟩ (.int .i64 (m : Int))).setCell ⟨w.heap.size + 1, 1, none⟩ (.slice va Ld vc)) := (((Bx.of HB2.out).trans (HW.out.lo.mono (by omega) (fun k hk => Or.inl hk))).setCell (p := ⟨w.heap.size + 1, 0, none⟩) (Or.inr (Nat.le_succ _)) _).setCell (p := ⟨w.heap.size + 1, 1, none⟩) (Or.inr (Nat.le_succ _)) _
      have F5 := HW.out.fa 1 (by decide)
      rw [HP.out, HM.out] at T5
      rw [HV.out] at O5
      refine bodyPost_ret (v := .tuple #[.agg #[.int .i64 (m : Int), .slice va Ld vc], .bool true]) ?_ rfl ⟨(st 1).l, (st 1).F, _, (st 1).d, rfl, ?_, O5, (HR.out 1 (by decide)).1, ?_, ?_⟩
      · rw [results_cell_tmp rfl]
        go_simp
      · rcases T5 with ⟨e, _⟩ | ⟨p', e, t⟩
        · cases e
        · injection e with e
          injection e with e
          injection e with e _ _
          subst e
          exact t
      · exact L5
      · intro k hk
        rcases F5 k hk with c | c
        · right; omega
        · exact Or.inl c
end Go.Proofs.YtdhjoimiejdgbaaDoor.L
