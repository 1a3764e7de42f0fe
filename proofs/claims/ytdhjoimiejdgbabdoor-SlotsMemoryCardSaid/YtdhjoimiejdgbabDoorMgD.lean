import Derived.Test.YtdhjoimiejdgbabDoorWld
import Derived.Deep.RegionHeld3
namespace Go.Proofs.YtdhjoimiejdgbabDoor.L
open Go.RowKit Bs Go.Maps
set_option linter.unusedVariables false
theorem OwnD.mv {W w' : World} {p m : Nat} {l : List Rw} {F F' : List Nat} {v : Value} {d : List Dr} (O : OwnD W v d) (T : Tb W p m l F) (M : Mv F F' W w') : OwnD w' v d :=
  own_stays O (fun g hg => M.1.block g (O.lt g hg).2 (fun c => by
    obtain ⟨cur, hc⟩ := O.kind hg
    exact Tq.not (pv := .pointer (some ⟨p, 0, none⟩)) (Or.inr ⟨p, rfl, T⟩) hc (by decide) c))
theorem itD_of {W : World} {a : Option Addr} {cap : Nat} {d : List Dr} (O : OwnD W (.slice a d.length cap) d) : ItD W a cap d := own_itemsD O
theorem badB_size {s : ByteArray} (h : badB s = false) : s.size ≠ 0 := by
  unfold badB at h
  rw [Bool.or_eq_false_iff] at h
  simpa using h.1
/-- Both Puts answer one thing. -/
theorem two_put {W : World} {p m : Nat} {l : List Rw} {F : List Nat} {a : Option Addr} {cap L : Nat} {d : List Dr} (hL : L = d.length) (T : Tb W p m l F) (O : OwnD W (.slice a L cap) d) (R : Rel l d) (ta : Tab W) (s : ByteArray) (hs : s.size ≤ maxLen) (x : Int) :
    Calls Tryd.prog 7 #[.pointer (some ⟨p, 0, none⟩), .string s, .int .i64 x] W fun e w' => ∃ l' F' sl er, e = .returned (.tuple #[.int .i64 sl, .int .i64 er]) ∧ Tb w' p m l' F' ∧ Mv F F' W w' ∧
      ∀ W2, Below w'.heap.size w' W2 → Calls Tryd.prog 42 #[.agg #[.int .i64 (m : Int), .slice a L cap], .string s, .int .i64 x] W2 fun e w'' => ∃ v' d', e = .returned (.tuple #[.agg #[.int .i64 (m : Int), v'], .int .i64 sl, .int .i64 er]) ∧ OwnD w'' v' d' ∧ Rel l' d' ∧ Below W2.heap.size W2 w'' := by
  subst hL
  have ok := T.ok
  have hdl : d.length ≤ 65536 := by rw [R.len]; exact Nat.le_trans ok.ct ok.mm
  cases hb : badB s
  · rcases R.find s with ⟨hn, hf⟩ | ⟨k, hf, hk, h1, h2, h3, h4⟩
    · by_cases hc : cnt l < m
      · refine (put_ok p m l F s x W T ta hb hn hc).mono ?_
        rintro e w' ⟨F', rfl, T', M⟩
        refine ⟨_, F', _, _, rfl, T', M, fun W2 hb2 => ?_⟩
        have O2 := (O.mv T M).low hb2
        refine (rput_okL m a cap d.length d rfl s x W2 O2 ok.mm (R.slots ok) hb hf (by rw [R.len]; exact hc)).mono ?_
        rintro e w'' ⟨r, v', hr, rfl, o', b'⟩
        have e := R.lowest hr
        exact ⟨v', _, by rw [e], o', by rw [e]; exact R.put (badB_size hb) e, b'⟩
      · refine (put_full p m l F s x W T hb hn (Nat.le_antisymm ok.ct (by omega))).mono ?_
        rintro e w' ⟨rfl, n, rfl⟩
        refine ⟨l, F, _, _, rfl, T.drewN n, Mv.drewN F W n, fun W2 hb2 => ?_⟩
        have O2 : OwnD W2 (.slice a d.length cap) d := (O.low (belowD W n)).low hb2
        refine (rput_full m a cap d s x W2 (itD_of O2) hdl hb hf (by rw [R.len]; omega)).mono ?_
        rintro e w'' ⟨rfl, b'⟩
        exact ⟨_, d, rfl, O2.low b', R, b'⟩
    · refine (put_there p m (ds d k) l F s x W T hb h1 h2).mono ?_
      rintro e w' ⟨rfl, rfl⟩
      refine ⟨l, F, _, _, rfl, T, Mv.refl F w', fun W2 hb2 => ?_⟩
      have O2 := O.low hb2
      refine (rput_there (m : Int) a cap d s x W2 (itD_of O2) hdl hb k hf).mono ?_
      rintro e w'' ⟨rfl, b'⟩
      exact ⟨_, d, rfl, O2.low b', R, b'⟩
  · refine (put_bad p s x W hs hb).mono ?_
    rintro e w' ⟨rfl, rfl⟩
    refine ⟨l, F, _, _, rfl, T, Mv.refl F w', fun W2 hb2 => ?_⟩
    refine (rput_bad (m : Int) a d.length cap s x W2 hs hb).mono ?_
    rintro e w'' ⟨rfl, b'⟩
    exact ⟨_, d, rfl, (O.low hb2).low b', R, b'⟩
theorem two_set {W : World} {p m : Nat} {l : List Rw} {F : List Nat} {a : Option Addr} {cap L : Nat} {d : List Dr} (hL : L = d.length) (T : Tb W p m l F) (O : OwnD W (.slice a L cap) d) (R : Rel l d) (s : ByteArray) (hs : s.size ≤ maxLen) (x : Int) :
    Calls Tryd.prog 10 #[.pointer (some ⟨p, 0, none⟩), .string s, .int .i64 x] W fun e w' => ∃ l' F' er, e = .returned (.int .i64 er) ∧ Tb w' p m l' F' ∧ Mv F F' W w' ∧
      ∀ W2, Below w'.heap.size w' W2 → Calls Tryd.prog 43 #[.agg #[.int .i64 (m : Int), .slice a L cap], .string s, .int .i64 x] W2 fun e w'' => ∃ v' d', e = .returned (.tuple #[.agg #[.int .i64 (m : Int), v'], .int .i64 er]) ∧ OwnD w'' v' d' ∧ Rel l' d' ∧ Below W2.heap.size W2 w'' := by
  subst hL
  have ok := T.ok
  have hdl : d.length ≤ 65536 := by rw [R.len]; exact Nat.le_trans ok.ct ok.mm
  cases hb : badB s
  · rcases R.find s with ⟨hn, hf⟩ | ⟨k, hf, hk, h1, h2, h3, h4⟩
    · refine (set_no p m l F s x W T hb hn).mono ?_
      rintro e w' ⟨rfl, rfl⟩
      refine ⟨l, F, _, rfl, T, Mv.refl F w', fun W2 hb2 => ?_⟩
      have O2 := O.low hb2
      refine (rset_gone (m : Int) a cap d s x W2 (itD_of O2) hdl hb hf).mono ?_
      rintro e w'' ⟨rfl, b'⟩
      exact ⟨_, d, rfl, O2.low b', R, b'⟩
    · refine (set_ok p m (ds d k) l F s x W T hb h1 h2).mono ?_
      rintro e w' ⟨rfl, T', M⟩
      refine ⟨_, F, _, rfl, T', M, fun W2 hb2 => ?_⟩
      have O2 := (O.mv T M).low hb2
      refine (rset_okL m a cap d.length d rfl s x W2 O2 hdl hb k hf hk).mono ?_
      rintro e w'' ⟨v', rfl, o', b'⟩
      exact ⟨v', _, rfl, o', R.set hk h3, b'⟩
  · refine (set_bad p s x W hs hb).mono ?_
    rintro e w' ⟨rfl, rfl⟩
    refine ⟨l, F, _, rfl, T, Mv.refl F w', fun W2 hb2 => ?_⟩
    refine (rset_bad (m : Int) a d.length cap s x W2 hs hb).mono ?_
    rintro e w'' ⟨rfl, b'⟩
    exact ⟨_, d, rfl, (O.low hb2).low b', R, b'⟩
theorem two_drop {W : World} {p m : Nat} {l : List Rw} {F : List Nat} {a : Option Addr} {cap L : Nat} {d : List Dr} (hL : L = d.length) (T : Tb W p m l F) (O : OwnD W (.slice a L cap) d) (R : Rel l d) (s : ByteArray) (hs : s.size ≤ maxLen) :
    Calls Tryd.prog 8 #[.pointer (some ⟨p, 0, none⟩), .string s] W fun e w' => ∃ l' F' sl er, e = .returned (.tuple #[.int .i64 sl, .int .i64 er]) ∧ Tb w' p m l' F' ∧ Mv F F' W w' ∧
      ∀ W2, Below w'.heap.size w' W2 → Calls Tryd.prog 44 #[.agg #[.int .i64 (m : Int), .slice a L cap], .string s] W2 fun e w'' => ∃ v' d', e = .returned (.tuple #[.agg #[.int .i64 (m : Int), v'], .int .i64 sl, .int .i64 er]) ∧ OwnD w'' v' d' ∧ Rel l' d' ∧ Below W2.heap.size W2 w'' := by
  subst hL
  have ok := T.ok
  have hdl : d.length ≤ 65536 := by rw [R.len]; exact Nat.le_trans ok.ct ok.mm
  cases hb : badB s
  · rcases R.find s with ⟨hn, hf⟩ | ⟨k, hf, hk, h1, h2, h3, h4⟩
    · refine (drop_no p m l F s W T hb hn).mono ?_
      rintro e w' ⟨rfl, rfl⟩
      refine ⟨l, F, _, _, rfl, T, Mv.refl F w', fun W2 hb2 => ?_⟩
      have O2 := O.low hb2
      refine (rdrop_gone (m : Int) a cap d s W2 (itD_of O2) hdl hb hf).mono ?_
      rintro e w'' ⟨rfl, b'⟩
      exact ⟨_, d, rfl, O2.low b', R, b'⟩
    · refine (drop_ok p m (ds d k) l F s W T hb h1 h2).mono ?_
      rintro e w' ⟨F', rfl, T', M⟩
      refine ⟨_, F', _, _, rfl, T', M, fun W2 hb2 => ?_⟩
      have O2 := (O.mv T M).low hb2
      refine (rdrop_okL m a cap d.length d rfl s W2 O2 hdl hb k hf hk).mono ?_
      rintro e w'' ⟨v', rfl, o', b'⟩
      exact ⟨v', _, rfl, o', R.drop hk, b'⟩
  · refine (drop_bad p s W hs hb).mono ?_
    rintro e w' ⟨rfl, rfl⟩
    refine ⟨l, F, _, _, rfl, T, Mv.refl F w', fun W2 hb2 => ?_⟩
    refine (rdrop_bad (m : Int) a d.length cap s W2 hs hb).mono ?_
    rintro e w'' ⟨rfl, b'⟩
    exact ⟨_, d, rfl, (O.low hb2).low b', R, b'⟩
end Go.Proofs.YtdhjoimiejdgbabDoor.L
namespace Go.Proofs.YtdhjoimiejdgbabDoor.L
open Go.RowKit Bs Go.Maps
set_option linter.unusedVariables false
theorem OwnD.setO {w : World} {v : Value} {d : List Dr} (o : OwnD w v d) {g : Nat} {cur : Array Value} (hg : w.heap[g]? = some (.cells cur 49 (0, 0))) (j : Nat) (x : Value) : OwnD (w.setCell ⟨g, j, none⟩ x) v d :=
  own_stays o (fun k hk => set_other _ _ (fun e => by
    subst e
    obtain ⟨cur2, hc2⟩ := o.kind hk
    rw [hg] at hc2
    injection hc2 with e
    injection e with _ e2 _
    exact absurd e2 (by decide)))
/-- A box of the document's table is written. -/
theorem Wh.setO {w0 w : World} {B : Nat} {G : List Nat} {st : Nat → St} (h : Wh w0 w B G st) {g : Nat} {cur : Array Value} (hg : w.heap[g]? = some (.cells cur 49 (0, 0))) (hw : w0.heap.size ≤ g) (j : Nat) (x : Value) : Wh w0 (w.setCell ⟨g, j, none⟩ x) B G st := by
  obtain ⟨cb, hc, hs, r⟩ := h.bb
  have hB : B ≠ g := fun e => by
    subst e
    rw [hg] at hc
    injection hc with e
    injection e with _ e2 _
    exact absurd e2 (by decide)
  refine ⟨⟨cb, (set_other _ _ hB).trans hc, hs, r⟩, fun i hi => (h.tq i hi).frame (fun k hk => set_other _ _ (fun e => by subst e; exact (h.tq i hi).not hg (by decide) hk)), fun i hi => (h.od i hi).setO hg j x, h.ap, h.lo.setCell (p := ⟨g, j, none⟩) (Or.inr hw) _, h.hB, h.fa⟩
/-- The box b of the document's table, with its two cells. -/
structure Yb (w0 Y : World) (B : Nat) (G : List Nat) (st : Nat → St) (b : Nat) (m : Int) (v : Value) (d : List Dr) : Prop where
  wh : Wh w0 Y B G st
  od : OwnD Y v d
  y0 : Y.cell? ⟨b, 0, none⟩ = some (.int .i64 m)
  y1 : Y.cell? ⟨b, 1, none⟩ = some v
theorem Yb.one {w0 w3 : World} {B : Nat} {G : List Nat} {st : Nat → St} {b : Nat} {m : Int} {v : Value} {d : List Dr} (h : Wh w0 w3 B G st) (o : OwnD w3 v d) (bx : w3.heap[b]? = some (.cells #[.int .i64 0, .slice none 0 0] 49 (0, 0))) (hw : w0.heap.size ≤ b) : Yb w0 ((w3.setCell ⟨b, 0, none⟩ (.int .i64 m)).setCell ⟨b, 1, none⟩ v) B G st b m v d := by
  have b1 := cellSet bx 0 (.int .i64 m)
  have b2 := cellSet b1 1 v
  refine ⟨(h.setO bx hw _ _).setO b1 hw _ _, (o.setO bx _ _).setO b1 _ _, ?_, ?_⟩
  · rw [cell_of_row _ b 0 _ _ _ b2]; rfl
  · rw [cell_of_row _ b 1 _ _ _ b2]; rfl
theorem Yb.two {w0 w3 : World} {B : Nat} {G : List Nat} {st : Nat → St} {m : Int} {v : Value} {d : List Dr} (h : Wh w0 w3 B G st) (o : OwnD w3 v d) : Yb w0 (w3.alloc (.cells #[.int .i64 m, v] 49)) B G st w3.heap.size m v d := by
  have bl := (Below.refl w3.heap.size w3).alloc (Nat.le_refl _) (.cells #[.int .i64 m, v] 49)
  have b2 : (w3.alloc (.cells #[.int .i64 m, v] 49)).heap[w3.heap.size]? = some (.cells #[.int .i64 m, v] 49) := heap_alloc_new w3 _
  refine ⟨h.low bl, o.low bl, ?_, ?_⟩
  · rw [cell_of_row _ _ 0 _ _ _ b2]; rfl
  · rw [cell_of_row _ _ 1 _ _ _ b2]; rfl
/-- The same tables, of the same most. -/
def Ky (st st' : Nat → St) : Prop := ∀ j, (st' j).pv = (st j).pv ∧ (st' j).m = (st j).m
theorem Yb.end {w0 Y : World} {B : Nat} {G : List Nat} {st : Nat → St} {b : Nat} {v : Value} {d : List Dr} {i p m : Nat} {l l' : List Rw} {F F' : List Nat} {v0 : Value} {d0 : List Dr} (hi : i < 4) (hst : st i = ⟨.pointer (some ⟨p, 0, none⟩), m, l, F, (m : Int), v0, d0⟩) (hr : Re st) (y : Yb w0 Y B G (upd st i { st i with l := l', F := F' }) b (m : Int) v d) (hre : Rel l' d) :
    ∃ st', Wh w0 ((Y.setCell ⟨B, 4 + i * 2, none⟩ (.int .i64 (m : Int))).setCell ⟨B, 4 + i * 2 + 1, none⟩ v) B G st' ∧ Re st' ∧ Ky st st' := by
  refine ⟨_, y.wh.setM hi y.od, ?_⟩
  rw [upd_twice, upd_same]
  refine ⟨hr.upd (i := i) ?_ ?_, fun j => ?_⟩
  · exact hre
  · right
    rw [hst]
  · by_cases e : j = i
    · subst e; rw [upd_same]; exact ⟨rfl, rfl⟩
    · rw [upd_other _ _ e]; exact ⟨rfl, rfl⟩
end Go.Proofs.YtdhjoimiejdgbabDoor.L
namespace Go.Proofs.YtdhjoimiejdgbabDoor.L
open Go.RowKit Bs Go.Maps
set_option linter.unusedVariables false
/-- The box of an Op that was handed in. -/
structure Bo (w W : World) (k oa ot ov : Int) (s : ByteArray) : Prop where
  o0 : W.cell? ⟨w.heap.size, 0, none⟩ = some (.int .i64 k)
  o1 : W.cell? ⟨w.heap.size, 1, none⟩ = some (.int .i64 oa)
  o2 : W.cell? ⟨w.heap.size, 2, none⟩ = some (.int .i64 ot)
  o3 : W.cell? ⟨w.heap.size, 3, none⟩ = some (.string s)
  o4 : W.cell? ⟨w.heap.size, 4, none⟩ = some (.int .i64 ov)
  sz : w.heap.size < W.heap.size
def opC (k oa ot ov : Int) (s : ByteArray) : Array Value := #[.int .i64 k, .int .i64 oa, .int .i64 ot, .string s, .int .i64 ov]
theorem Bo.mk5 (w : World) (k oa ot ov : Int) (s : ByteArray) (t : TypeId) : Bo w (w.alloc (.cells #[.int .i64 k, .int .i64 oa, .int .i64 ot, .string s, .int .i64 ov] t)) k oa ot ov s := by
  have h : (w.alloc (.cells #[.int .i64 k, .int .i64 oa, .int .i64 ot, .string s, .int .i64 ov] t)).heap[w.heap.size]? = some (.cells #[.int .i64 k, .int .i64 oa, .int .i64 ot, .string s, .int .i64 ov] t) := heap_alloc_new w _
  refine ⟨?_, ?_, ?_, ?_, ?_, by simp⟩
  · unfold World.cell?; rw [h]; rfl
  · unfold World.cell?; rw [h]; rfl
  · unfold World.cell?; rw [h]; rfl
  · unfold World.cell?; rw [h]; rfl
  · unfold World.cell?; rw [h]; rfl
theorem Bo.of {w W W' : World} {k oa ot ov : Int} {s : ByteArray} (h : Bo w W k oa ot ov s) (e : W'.heap[w.heap.size]? = W.heap[w.heap.size]?) (hs : W.heap.size ≤ W'.heap.size) : Bo w W' k oa ot ov s := by
  have c : ∀ j, W'.cell? ⟨w.heap.size, j, none⟩ = W.cell? ⟨w.heap.size, j, none⟩ := fun j => World.cell?_of_block (w := W) (a := ⟨w.heap.size, j, none⟩) e
  exact ⟨(c 0).trans h.o0, (c 1).trans h.o1, (c 2).trans h.o2, (c 3).trans h.o3, (c 4).trans h.o4, Nat.lt_of_lt_of_le h.sz hs⟩
theorem Bo.low {w W W' : World} {k oa ot ov : Int} {s : ByteArray} (h : Bo w W k oa ot ov s) (hb : Below W.heap.size W W') : Bo w W' k oa ot ov s := h.of (hb.block _ h.sz) hb.size
theorem Bo.mv {w W W' : World} {k oa ot ov : Int} {s : ByteArray} {F F' : List Nat} (h : Bo w W k oa ot ov s) (M : Mv F F' W W') (hF : ∀ q ∈ F, q < w.heap.size) : Bo w W' k oa ot ov s := h.of (M.1.block _ h.sz (fun c => by have := hF _ c; omega)) M.1.size
theorem wh_tb {w0 W : World} {B : Nat} {G : List Nat} {st : Nat → St} (hW : Wh w0 W B G st) {i : Nat} (hi : i < 4) {p m : Nat} {l : List Rw} {F : List Nat} {mo : Int} {v : Value} {d : List Dr} (hst : st i = ⟨.pointer (some ⟨p, 0, none⟩), m, l, F, mo, v, d⟩) : Tb W p m l F ∧ OwnD W v d := by
  have t := hW.tq i hi
  have o := hW.od i hi
  rw [hst] at t o
  rcases t with ⟨e, _⟩ | ⟨p', e, t⟩
  · cases e
  · injection e with e
    injection e with e
    injection e with e _ _
    subst e
    exact ⟨t, o⟩
theorem cell_oth {W : World} {g o : Nat} {v : Value} {b j : Nat} (h : b ≠ g) : (W.setCell ⟨g, o, none⟩ v).cell? ⟨b, j, none⟩ = W.cell? ⟨b, j, none⟩ := World.cell?_of_block (w := W) (a := ⟨b, j, none⟩) (set_other W v h)
theorem belowDr (w : World) : Below w.heap.size w w.drew := ⟨rfl, rfl, rfl, Nat.le_refl _, fun _ _ => rfl⟩
end Go.Proofs.YtdhjoimiejdgbabDoor.L
