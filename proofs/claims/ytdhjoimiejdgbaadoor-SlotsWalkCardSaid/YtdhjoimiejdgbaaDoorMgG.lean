import Derived.Test.YtdhjoimiejdgbaaDoorChh
import Derived.Test.YtdhjoimiejdgbaaDoorChn
import Derived.Test.YtdhjoimiejdgbaaDoorStp
import Derived.Test.YtdhjoimiejdgbaaDoorLo1
namespace Go.Proofs.YtdhjoimiejdgbaaDoor.L
open Go.RowKit Bs Go.Maps
set_option linter.unusedVariables false
theorem low_re {w0 w w' : World} {B : Nat} {G : List Nat} {st : Nat → St} (h : Wh w0 w B G st) (hr : Re st) (hb : Below w.heap.size w w') : ∃ st', Wh w0 w' B G st' ∧ Re st' := ⟨st, h.low hb, hr⟩
theorem st_form {w0 w : World} {B : Nat} {G : List Nat} {st : Nat → St} (h : Wh w0 w B G st) {i : Nat} (hi : i < 4) : (st i).pv = .pointer none ∨ ∃ p m l F mo v d, st i = ⟨.pointer (some ⟨p, 0, none⟩), m, l, F, mo, v, d⟩ := by
  rcases h.tq i hi with ⟨e, _⟩ | ⟨p, e, _⟩
  · exact Or.inl e
  · right
    generalize st i = x at *
    obtain ⟨pv, m, l, F, mo, v, d⟩ := x
    dsimp at e
    subst e
    exact ⟨p, m, l, F, mo, v, d, rfl⟩
theorem ch_all1 {w0 w : World} {B : Nat} {G : List Nat} {st : Nat → St} (h : Wh w0 w B G st) (hr : Re st) (i : Nat) (hi : i < 4) (oa ot ov : Int) (s : ByteArray) :
    Calls Tryd.prog 48 #[.pointer (some ⟨B, 0, none⟩), .agg #[.int .i64 1, .int .i64 oa, .int .i64 ot, .string s, .int .i64 ov], .int .i64 (i : Int)] w fun e w' => e = .returned (.bool true) ∧ ∃ st', Wh w0 w' B G st' ∧ Re st' := by
  by_cases hot : ot < 0 ∨ 65536 < ot
  · exact (ch_new_no w0 w B st h i hi oa ov ot s hot).mono (fun e w' ⟨a, b⟩ => ⟨a, low_re h hr b⟩)
  · obtain ⟨n, rfl⟩ : ∃ n : Nat, ot = n := ⟨ot.toNat, by omega⟩
    exact ch_new w0 w B st h hr i hi oa ov n s (by omega)
theorem ch_all2 {w0 w : World} {B : Nat} {G : List Nat} {st : Nat → St} (h : Wh w0 w B G st) (hr : Re st) (ta : TabG w0 G) (i : Nat) (hi : i < 4) (oa ot ov : Int) (s : ByteArray) (hs : s.size ≤ maxLen) :
    Calls Tryd.prog 48 #[.pointer (some ⟨B, 0, none⟩), .agg #[.int .i64 2, .int .i64 oa, .int .i64 ot, .string s, .int .i64 ov], .int .i64 (i : Int)] w fun e w' => e = .returned (.bool true) ∧ ∃ st', Wh w0 w' B G st' ∧ Re st' := by
  rcases st_form h hi with e | ⟨p, m, l, F, mo, v, d, e⟩
  · exact (ch_put_nil w0 w B st h i hi e oa ot ov s).mono (fun e w' ⟨a, b⟩ => ⟨a, low_re h hr b⟩)
  · exact (ch_put w0 w B st h hr ta i hi p m l F mo v d e oa ot ov s hs).mono (fun e w' ⟨a, st', b, c, _⟩ => ⟨a, st', b, c⟩)
theorem ch_all3 {w0 w : World} {B : Nat} {G : List Nat} {st : Nat → St} (h : Wh w0 w B G st) (hr : Re st) (ta : TabG w0 G) (i : Nat) (hi : i < 4) (oa ot ov : Int) (s : ByteArray) (hs : s.size ≤ maxLen) :
    Calls Tryd.prog 48 #[.pointer (some ⟨B, 0, none⟩), .agg #[.int .i64 3, .int .i64 oa, .int .i64 ot, .string s, .int .i64 ov], .int .i64 (i : Int)] w fun e w' => e = .returned (.bool true) ∧ ∃ st', Wh w0 w' B G st' ∧ Re st' := by
  rcases st_form h hi with e | ⟨p, m, l, F, mo, v, d, e⟩
  · exact (ch_set_nil w0 w B st h i hi e oa ot ov s).mono (fun e w' ⟨a, b⟩ => ⟨a, low_re h hr b⟩)
  · exact (ch_set w0 w B st h hr ta i hi p m l F mo v d e oa ot ov s hs).mono (fun e w' ⟨a, st', b, c, _⟩ => ⟨a, st', b, c⟩)
theorem ch_all4 {w0 w : World} {B : Nat} {G : List Nat} {st : Nat → St} (h : Wh w0 w B G st) (hr : Re st) (ta : TabG w0 G) (i : Nat) (hi : i < 4) (oa ot ov : Int) (s : ByteArray) (hs : s.size ≤ maxLen) :
    Calls Tryd.prog 48 #[.pointer (some ⟨B, 0, none⟩), .agg #[.int .i64 4, .int .i64 oa, .int .i64 ot, .string s, .int .i64 ov], .int .i64 (i : Int)] w fun e w' => e = .returned (.bool true) ∧ ∃ st', Wh w0 w' B G st' ∧ Re st' := by
  rcases st_form h hi with e | ⟨p, m, l, F, mo, v, d, e⟩
  · exact (ch_drop_nil w0 w B st h i hi e oa ot ov s).mono (fun e w' ⟨a, b⟩ => ⟨a, low_re h hr b⟩)
  · exact (ch_drop w0 w B st h hr ta i hi p m l F mo v d e oa ot ov s hs).mono (fun e w' ⟨a, st', b, c, _⟩ => ⟨a, st', b, c⟩)
end Go.Proofs.YtdhjoimiejdgbaaDoor.L
namespace Go.Proofs.YtdhjoimiejdgbaaDoor.L
open Go.RowKit Bs Go.Maps
set_option linter.unusedVariables false
theorem step_op {w0 W : World} {B : Nat} {G : List Nat} {st : Nat → St} (h : Wh w0 W B G st) (hr : Re st) (ta : TabG w0 G) (k oa ot ov : Int) (s : ByteArray) (hs : s.size ≤ maxLen) :
    Calls Tryd.prog 11 #[.pointer (some ⟨B, 0, none⟩), .agg #[.int .i64 k, .int .i64 oa, .int .i64 ot, .string s, .int .i64 ov]] W fun e w' => e = .returned (.bool true) ∧ ∃ st', Wh w0 w' B G st' ∧ Re st' := by
  by_cases h1 : k = 1
  · subst h1; exact st_ch1 w0 W B st oa ot ov s (fun W' i hi hW => ch_all1 hW hr i hi oa ot ov s) h hr
  by_cases h2 : k = 2
  · subst h2; exact st_ch2 w0 W B st oa ot ov s (fun W' i hi hW => ch_all2 hW hr ta i hi oa ot ov s hs) h hr
  by_cases h3 : k = 3
  · subst h3; exact st_ch3 w0 W B st oa ot ov s (fun W' i hi hW => ch_all3 hW hr ta i hi oa ot ov s hs) h hr
  by_cases h4 : k = 4
  · subst h4; exact st_ch4 w0 W B st oa ot ov s (fun W' i hi hW => ch_all4 hW hr ta i hi oa ot ov s hs) h hr
  by_cases h5 : k = 5
  · subst h5; exact st_find w0 W B st oa ot ov s hs h hr
  by_cases h6 : k = 6
  · subst h6; exact st_at w0 W B st oa ot ov s h hr
  by_cases h7 : k = 7
  · subst h7; exact st_len w0 W B st oa ot ov s h hr
  by_cases h8 : k = 8
  · subst h8; exact st_names w0 W B st oa ot ov s h hr
  by_cases h9 : k = 9
  · subst h9; exact st_all w0 W B st oa ot ov s h hr
  by_cases h10 : k = 10
  · subst h10; exact st_copy w0 W B st oa ot ov s h hr
  have n : ∀ q : Int, k ≠ q → (k == q) = false := fun q hq => beq_eq_false_iff_ne.2 hq
  exact st_other w0 W B st oa ot ov s k (n _ h1) (n _ h2) (n _ h3) (n _ h4) (n _ h5) (n _ h6) (n _ h7) (n _ h8) (n _ h9) (n _ h10) h hr
set_option maxHeartbeats 8000000 in
set_option maxRecDepth 100000 in
theorem answers_law (v : Value) (os : List Opd) (w : World) (hv : ItemsO w v os) (hg : GoodO os) (ht : Tab w) :
    Calls Tryd.prog 3 #[v] w fun e w' => e = .returned (.bool true) ∧ Below w.heap.size w w' := by
  have FX := hid (fixed_any w ht)
  obtain ⟨a, cap, rfl, hi⟩ := hv
  have hl := hg.1
  have HG := hid hg.2
  obtain ⟨L, hL⟩ : ∃ L, L = os.length := ⟨_, rfl⟩
  rw [← hL] at hl ⊢
  have HI := hid hi
  have HL := hid hL
  have HT := hid ht
  unfold maxLen at hl
  clear hL hg hi ht
  generalize hQ : (fun (e : Ending) (w' : World) => e = .returned (.bool true) ∧ Below w.heap.size w w') = Q
  have HQ := hid hQ
  clear hQ
  go_enter Tryd.func3, Tryd.ntmps3
  go_wp2_with (first
    | (go_at_call 9; refine FX.out.mono ?_; rintro e w1 ⟨rfl, B1⟩)
    | (go_at_call 10; refine (begin_any _).mono ?_; rintro e w2 ⟨B, st0', rfl, hW0, hR0⟩))
  have TA : Hid (TabG w1 []) := hid (fun W hb => (HT.out.low B1).low (hb.below (Nat.le_refl _) (fun k hk => by cases hk)))
  have BW := hid B1
  have H0 : Hid (∃ st, Wh w1 w2 B [] st ∧ Re st) := hid ⟨_, hW0, hR0⟩
  clear hW0 hR0 B1 FX
  go_loopw [18] (fun i wr => ∃ k : Nat, k ≤ L ∧ i = .int .i64 k ∧ Hid (∃ st, Wh w1 wr B [] st ∧ Re st)) (fun i _ => L - (intOf i).toNat)
  case atStart => exact ⟨0, Nat.zero_le _, rfl, H0⟩
  case round =>
    clear H0
    obtain ⟨k, hk, rfl, HX⟩ := hrel
    obtain ⟨st, hWs, hRs⟩ := HX.out
    have HW := hid hWs
    have HR := hid hRs
    clear HX hWs hRs
    by_cases hlt : k < L
    · have hkl : k < os.length := by rw [← HL.out]; exact hlt
      rcases HI.out with h0 | ⟨b, off, ea, hbl, hc⟩
      · omega
      subst ea
      obtain ⟨x0, x1, x2, x3, x4⟩ := hc k hkl
      have BL := hid (BW.out.trans ((HW.out.lo.below (Nat.le_refl _) (fun k hk => by cases hk)).mono BW.out.size))
      rw [← BL.out.cell (p := ⟨b, off + k * 5, none⟩) hbl] at x0
      rw [← BL.out.cell (p := ⟨b, off + k * 5 + 1, none⟩) hbl] at x1
      rw [← BL.out.cell (p := ⟨b, off + k * 5 + 2, none⟩) hbl] at x2
      rw [← BL.out.cell (p := ⟨b, off + k * 5 + 3, none⟩) hbl] at x3
      rw [← BL.out.cell (p := ⟨b, off + k * 5 + 4, none⟩) hbl] at x4
      have hsz := HG.out _ (List.getElem_mem hkl)
      generalize os[k].k = kk at *
      generalize os[k].a = oa at *
      generalize os[k].t = ot at *
      generalize os[k].s = s at *
      generalize os[k].v = ov at *
      have CS := hid (step_op (HW.out.low ((Below.refl wr.heap.size wr).alloc (Nat.le_refl _) (.cells #[.int .i64 kk, .int .i64 oa, .int .i64 ot, .string s, .int .i64 ov] 28))) HR.out TA.out kk oa ot ov s hsz)
      clear hc hkl hsz
      go_wp2_with (go_at_call 11; refine CS.out.mono ?_; rintro e w5 ⟨rfl, hst⟩; have HS5 := hid hst; clear hst)
      exact ⟨⟨k + 1, by omega, by go_num, HS5⟩, by simp [intOf]; omega⟩
    · have hkL : L = k := by omega
      subst hkL
      have H1 : Hid (∃ st, Wh w1 wr B [] st ∧ Re st) := hid ⟨st, HW.out, HR.out⟩
      clear HW HR
      go_wp2_with fail
      go_loopw [27] (fun i wr => ∃ k : Nat, k ≤ 4 ∧ i = .int .i64 k ∧ Hid (∃ st, Wh w1 wr B [] st ∧ Re st)) (fun i _ => 4 - (intOf i).toNat)
      case atStart => exact ⟨0, Nat.zero_le _, rfl, H1⟩
      case round =>
        clear H1
        obtain ⟨k, hk, rfl, HX⟩ := hrel
        obtain ⟨st, hWs, hRs⟩ := HX.out
        have HW := hid hWs
        have HR := hid hRs
        clear HX hWs hRs
        by_cases hlt : k < 4
        · obtain ⟨b, hb⟩ := (HW.out.tq k hlt).form
          obtain ⟨va, vc, hv⟩ := own_len (HW.out.od k hlt)
          obtain ⟨c0, c1, c2⟩ := HW.out.cells hlt
          rw [hb] at c0
          rw [hv] at c2
          have SD := hid (sd_of hlt HW.out HR.out hb hv)
          generalize (st k).mo = mo at *
          generalize hLe : (st k).d.length = Ld at *
          have HLE := hid hLe.symm
          clear hLe hb hv
          have SN := hid (fun W (h : Below wr.heap.size wr W) => seen_any (.pointer b) (st k).m (st k).l (st k).F mo va Ld vc (st k).d W HLE.out (SD.out.low h))
          have hk4 : (k : Int) < 4 := by omega
          clear SD HLE
          go_wp2_with fail
          go_region_held3 (fun X => X.cell? ⟨B, k, none⟩ = some (.pointer b) ∧ X.cell? ⟨B, 4 + k * 2, none⟩ = some (.int .i64 mo) ∧ X.cell? ⟨B, 4 + k * 2 + 1, none⟩ = some (.slice va Ld vc))
            (first | exact ⟨c0, c1, c2⟩ | exact T2)
            (first
              | (go_at_call 12; refine (SN.out _ (belowDr wr)).mono ?_; rintro e w5 ⟨rfl, hb⟩
                 have W5 := hid (HW.out.low (belowU hb))
                 have T2 := And.intro ((hb.cell (p := ⟨B, k, none⟩) HW.out.lt).trans c0) (And.intro ((hb.cell (p := ⟨B, 4 + k * 2, none⟩) HW.out.lt).trans c1) ((hb.cell (p := ⟨B, 4 + k * 2 + 1, none⟩) HW.out.lt).trans c2))
                 clear hb))
          go_wp2_with fail
          exact ⟨⟨k + 1, by omega, by go_num, hid ⟨st, W5.out, HR.out⟩⟩, by simp [intOf]; omega⟩
        · obtain rfl : k = 4 := by omega
          go_wp2_with fail
          rw [← HQ.out]
          exact ⟨rfl, BW.out.trans ((HW.out.lo.below (Nat.le_refl _) (fun k hk => by cases hk)).mono BW.out.size)⟩
end Go.Proofs.YtdhjoimiejdgbaaDoor.L
namespace Go.Proofs.YtdhjoimiejdgbaaDoor.L
open Go.RowKit Bs Go.Maps
set_option linter.unusedVariables false
/-- The blocks that a step may turn: the law's World and those of its tables. -/
def gsB (B : Nat) (st : Nat → St) : List Nat := B :: ((st 0).F ++ ((st 1).F ++ ((st 2).F ++ (st 3).F)))
theorem mem_gs {B : Nat} {st : Nat → St} {k : Nat} (h : k ∈ gsB B st) : k = B ∨ ∃ i, i < 4 ∧ k ∈ (st i).F := by
  unfold gsB at h
  simp only [List.mem_cons, List.mem_append] at h
  rcases h with h | h | h | h | h
  · exact Or.inl h
  · exact Or.inr ⟨0, by omega, h⟩
  · exact Or.inr ⟨1, by omega, h⟩
  · exact Or.inr ⟨2, by omega, h⟩
  · exact Or.inr ⟨3, by omega, h⟩
theorem gs_mem {B : Nat} {st : Nat → St} {k i : Nat} (hi : i < 4) (h : k ∈ (st i).F) : k ∈ gsB B st := by
  have : i = 0 ∨ i = 1 ∨ i = 2 ∨ i = 3 := by omega
  unfold gsB
  simp only [List.mem_cons, List.mem_append]
  rcases this with rfl | rfl | rfl | rfl
  · exact Or.inr (Or.inl h)
  · exact Or.inr (Or.inr (Or.inl h))
  · exact Or.inr (Or.inr (Or.inr (Or.inl h)))
  · exact Or.inr (Or.inr (Or.inr (Or.inr h)))
/-- The law's World, seen from where it stands. -/
theorem Wh.here {w0 w : World} {B : Nat} {G : List Nat} {st : Nat → St} (h : Wh w0 w B G st) : Wh w w B (gsB B st) st :=
  ⟨h.bb, h.tq, h.od, h.ap, Bx.refl _ _ _, Or.inl (List.mem_cons_self ..), fun i hi k hk => Or.inr (gs_mem hi hk)⟩
theorem Wh.gs_le {s w : World} {B : Nat} {st : Nat → St} (h : Wh s w B [] st) : ∀ k ∈ gsB B st, s.heap.size ≤ k := fun k hk => by
  rcases mem_gs hk with rfl | ⟨i, hi, hk⟩
  · rcases h.hB with c | c
    · cases c
    · exact c
  · rcases h.fa i hi k hk with c | c
    · exact c
    · cases c
theorem Wh.back {s w w' : World} {B : Nat} {st st' : Nat → St} (h : Wh s w B [] st) (h' : Wh w w' B (gsB B st) st') : Wh s w' B [] st' := by
  have hs : s.heap.size ≤ w.heap.size := h.lo.size
  refine ⟨h'.bb, h'.tq, h'.od, h'.ap, h.lo.trans (Bx.of (h'.lo.below hs h.gs_le)), h.hB, fun i hi k hk => Or.inl ?_⟩
  rcases h'.fa i hi k hk with c | c
  · omega
  · exact h.gs_le k c
/-- A block of another type than the World's and the tables' is no block that a step turns. -/
theorem Wh.not_gs {w0 w : World} {B : Nat} {G : List Nat} {st : Nat → St} (h : Wh w0 w B G st) {g : Nat} {cur : Array Value} {t : TypeId} (hg : w.heap[g]? = some (.cells cur t (0, 0))) (ht : t ≠ 122 ∧ t ≠ 124 ∧ t ≠ 129) (hw : t ≠ 38) : g ∉ gsB B st := fun c => by
  rcases mem_gs c with rfl | ⟨i, hi, hk⟩
  · obtain ⟨cur', hc, _⟩ := h.bb
    rw [hg] at hc
    injection hc with e
    injection e with _ e2 _
    exact hw e2
  · exact (h.tq i hi).not hg ht hk
/-- A step leaves all but the World and its tables. -/
theorem step_fr {s W : World} {B : Nat} {st : Nat → St} (h : Wh s W B [] st) (hr : Re st) (ht : Tab s) (k oa ot ov : Int) (n : ByteArray) (hn : n.size ≤ maxLen) :
    Calls Tryd.prog 11 #[.pointer (some ⟨B, 0, none⟩), .agg #[.int .i64 k, .int .i64 oa, .int .i64 ot, .string n, .int .i64 ov]] W fun e w' => e = .returned (.bool true) ∧ ∃ st', Wh s w' B [] st' ∧ Re st' ∧ Bx (gsB B st) W.heap.size W w' := by
  have tg : TabG W (gsB B st) := fun W' hx => ht.low ((h.lo.below (Nat.le_refl _) (fun k hk => by cases hk)).trans (hx.below h.lo.size h.gs_le))
  refine (step_op h.here hr tg k oa ot ov n hn).mono ?_
  rintro e w' ⟨rfl, st', h', hr'⟩
  exact ⟨rfl, st', h.back h', hr', h'.lo⟩
end Go.Proofs.YtdhjoimiejdgbaaDoor.L
