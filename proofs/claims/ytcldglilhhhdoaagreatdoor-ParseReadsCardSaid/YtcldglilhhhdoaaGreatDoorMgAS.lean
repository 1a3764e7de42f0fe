import Derived.Test.YtcldglilhhhdoaaGreatDoorMgAR
import Derived.Deep.MidRow
import Derived.Deep.QuietTactic
import Derived.BigQuiet
namespace Go.Proofs.YtcldglilhhhdoaaGreatDoor.L
open Go.RowKit
set_option linter.unusedVariables false
set_option linter.unusedSimpArgs false
/-- A want of a row: of conjs, or of units. -/
def Lsw (T : List Tok) (W kd nxt : Int) (m : List UInt8) : Prop := ∀ (pos : Int) (b : Nat) (s : PS) (fr : List Int), stepM T ⟨W, kd, pos, ⟨#[]⟩, 0, b⟩ s fr = listM T ⟨W, kd, pos, ⟨#[]⟩, 0, b⟩ m nxt s fr
theorem lst_ors (T : List Tok) : Lsw T 2 5 3 [124, 124] := fun _ _ _ _ => rfl
theorem lst_ands (T : List Tok) : Lsw T 4 4 5 [38, 38] := fun _ _ _ _ => rfl
theorem rows_go {T : List Tok} {W kd nxt : Int} {m : List UInt8} {d : Nat} (hst : Lsw T W kd nxt m) {one : PS → PRes Int} (h1 : Smm T (awt nxt) d one) (hg : Gone one) (A : Nat) (fr : List Int) (ws : List Wn) (r : PRes (List Int)) :
    ∀ (n : Nat) (ks : List Int) (s : PS), s.ns ≤ 32 → ws.length + 5 * (32 - s.ns) + d + 1 < 200 → T.length ≤ n + s.nx → Af r (fun ks' s2 => Af r (fun k s' => Rs T ws s' (fr ++ [k]) r) (putP s2 ⟨kd, ⟨#[]⟩, 0, ks'⟩ (A : Int))) (rowsP T one m n ks s) → Rs T (⟨W, kd, (A : Int), ⟨#[]⟩, 0, fr.length⟩ :: ws) s (fr ++ ks) r := by
  have fin : ∀ (ks : List Int) (s : PS), ws.length < 200 → isM T s m = false → Af r (fun k s' => Rs T ws s' (fr ++ [k]) r) (putP s ⟨kd, ⟨#[]⟩, 0, ks⟩ (A : Int)) → Rs T (⟨W, kd, (A : Int), ⟨#[]⟩, 0, fr.length⟩ :: ws) s (fr ++ ks) r := by
    intro ks s hl hm h
    refine rs_step hl ?_
    rw [hst]
    unfold listM
    rw [if_neg (by rw [hm]; simp), if_pos (by show (0 : Int) ≤ (A : Int); omega)]
    exact af_lay h
  intro n
  induction n with
  | zero =>
    intro ks s hn hl hT h
    exact fin ks s (by omega) (isM_end m (by omega)) h
  | succ n ih =>
    intro ks s hn hl hT h
    unfold rowsP at h
    by_cases hm : isM T s m = true
    · rw [if_pos hm, af_bnd] at h
      refine rs_step (by omega) ?_
      rw [hst]
      unfold listM
      rw [if_pos hm]
      show Rs T (awt nxt :: ⟨W, kd, if (A : Int) < 0 then ((tk T s.nx).a : Int) else (A : Int), ⟨#[]⟩, 0, fr.length⟩ :: ws) (adv s) (fr ++ ks) r
      rw [if_neg (by omega)]
      refine h1 (adv s) (fr ++ ks) _ r hn (by rw [List.length_cons]; show ws.length + 1 + 5 * (32 - s.ns) + d < 200; omega) (h.mono fun k s1 e hk => ?_)
      have hgn := (hg _ _ _ e).nx
      have hgs : s1.ns = s.ns := (hg _ _ _ e).ns
      rw [List.append_assoc]
      exact ih (ks ++ [k]) s1 (by omega) (by omega) (by simp only [adv] at hgn; omega) hk
    · rw [if_neg hm] at h
      exact fin ks s (by omega) (by simpa using hm) h
theorem row_go {T : List Tok} {W kd nxt w0 : Int} {m : List UInt8} {d : Nat} (hT : T.length ≤ 4097) (hst : Lsw T W kd nxt m) (h0 : ∀ (s : PS) (fr : List Int), stepM T (awt w0) s fr = .ok (([awt nxt, ⟨W, kd, -1, ⟨#[]⟩, 0, fr.length⟩], fr), s)) {one : PS → PRes Int} (h1 : Smm T (awt nxt) d one) (hg : Gone one) : Smm T (awt w0) (d + 1) (rowP T one kd m) := by
  intro s fr ws r hn hl h
  unfold rowP at h
  rw [af_bnd] at h
  refine rs_step (by omega) ?_
  rw [h0]
  show Rs T (awt nxt :: ⟨W, kd, -1, ⟨#[]⟩, 0, fr.length⟩ :: ws) s fr r
  refine h1 s fr _ r hn (by rw [List.length_cons]; omega) (h.mono fun k0 s1 e hk => ?_)
  have hgs : s1.ns = s.ns := (hg _ _ _ e).ns
  rw [af_bnd] at hk
  refine rs_step (by omega) ?_
  rw [hst]
  unfold listM
  rw [show (4097 : Nat) = 4096 + 1 from rfl] at hk
  by_cases hm : isM T s1 m = true
  · rw [if_pos hm]
    show Rs T (awt nxt :: ⟨W, kd, if (-1 : Int) < 0 then ((tk T s1.nx).a : Int) else -1, ⟨#[]⟩, 0, fr.length⟩ :: ws) (adv s1) (fr ++ [k0]) r
    rw [if_pos (by decide)]
    unfold rowsP at hk
    rw [if_pos hm, af_bnd] at hk
    refine h1 (adv s1) (fr ++ [k0]) _ r (by show s1.ns ≤ 32; omega) (by rw [List.length_cons]; show ws.length + 1 + 5 * (32 - s1.ns) + d < 200; omega) (hk.mono fun k s2 e2 hk2 => ?_)
    have hgn := (hg _ _ _ e2).nx
    have hg2 : s2.ns = s1.ns := (hg _ _ _ e2).ns
    rw [List.append_assoc]
    refine rows_go hst h1 hg _ fr ws r 4096 ([k0] ++ [k]) s2 (by omega) (by omega) (by simp only [adv] at hgn; omega) (hk2.mono fun ks' s3 e3 hk3 => ?_)
    have := (gn_rows hg _ e3).1
    rw [if_neg (by simp at this; omega)] at hk3
    exact hk3
  · rw [if_neg hm, if_neg (by show ¬ (0 : Int) ≤ -1; decide)]
    unfold rowsP at hk
    rw [if_neg hm] at hk
    exact hk
theorem with_go {T : List Tok} {α : Type} {inner : PS → PRes α} {s : PS} {r : PRes (List Int)} {K : α → PS → Prop} (h : Af r K (withP T inner s)) : Af r (fun _ s1 => Af r (fun k s2 => Af r (fun _ s3 => K k (shutP s3)) (markP T s2 [41])) (inner s1)) (openP T s [40]) := by
  unfold withP at h
  rw [af_bnd] at h
  refine h.mono fun _ s1 _ h1 => ?_
  rw [af_bnd] at h1
  refine h1.mono fun k s2 _ h2 => ?_
  rw [af_bnd] at h2
  exact h2
theorem open_ns {T : List Tok} {s s' : PS} {m : List UInt8} {u : Unit} (h : openP T s m = .ok (u, s')) (hs : s.ns ≤ 32) : s'.ns = s.ns + 1 ∧ s'.ns ≤ 32 := by
  have h1 := (gn_open h).ns
  refine ⟨h1, ?_⟩
  by_cases h2 : s.ns = 32
  · unfold openP at h
    split at h
    · first | cases h | (rw [if_pos h2] at h; cases h)
    · cases h
  · omega
theorem close_go {T : List Tok} {ws : List Wn} {s : PS} {fr : List Int} {r : PRes (List Int)} (hl : ws.length < 200) (h : Af r (fun _ s3 => Rs T ws (shutP s3) fr r) (markP T s [41])) : Rs T (awt 8 :: ws) s fr r := by
  refine rs_step hl ?_
  show Af r _ (bnd (markP T s [41]) fun _ s1 => .ok (([], fr), shutP s1))
  rw [af_bnd]
  exact h
theorem part_go {T : List Tok} {ws : List Wn} {s : PS} {fr ks : List Int} {r : PRes (List Int)} {kd nu pos : Int} {tx : ByteArray} {W : Int} (hl : ws.length < 200) (hW : W = 10 ∨ W = 11) (h : Af r (fun k s' => Rs T ws s' (fr ++ [k]) r) (putP s ⟨kd, tx, nu, ks⟩ pos)) : Rs T (⟨W, kd, pos, tx, nu, fr.length⟩ :: ws) s (fr ++ ks) r := by
  refine rs_step hl ?_
  have e : stepM T ⟨W, kd, pos, tx, nu, fr.length⟩ s (fr ++ ks) = layM s (fr ++ ks) kd tx nu pos fr.length := by
    rcases hW with rfl | rfl <;> rfl
  rw [e]
  exact af_lay h
theorem sel_go {T : List Tok} {ex : PS → PRes Int} (h1 : Smm T (awt 1) 4 ex) {kd : Int} {s : PS} {fr : List Int} {ws : List Wn} {r : PRes (List Int)} (hn : s.ns ≤ 32) (hl : ws.length + 5 * (32 - s.ns) + 1 < 200) (h : Af r (fun k s' => Rs T ws s' (fr ++ [k]) r) (selP T ex kd s)) : Af r (fun q s' => Rs T (q.1 ++ ws) s' q.2 r) (selM T kd s fr) := by
  unfold selP at h
  rw [af_bnd] at h
  have h := with_go h
  unfold selM
  rw [af_bnd]
  refine h.mono fun _ s1 e1 h2 => ?_
  have ho := open_ns e1 hn
  have ho1 : (adv s).ns = s.ns := rfl
  rw [af_bnd] at h2 ⊢
  refine h2.mono fun t s2 e2 h3 => ?_
  have n2 := (gn_text e2).ns
  rw [af_bnd] at h3 ⊢
  refine h3.mono fun _ s3 e3 h4 => ?_
  have n3 := (gn_mark e3).ns
  rw [af_bnd] at h4
  show Rs T (awt 1 :: awt 8 :: ⟨10, kd, ((tk T s.nx).a : Int), t, 0, fr.length⟩ :: ws) s3 fr r
  refine h1 s3 fr _ r (by omega) (by rw [List.length_cons, List.length_cons]; omega) (h4.mono fun k s4 _ h5 => ?_)
  refine close_go (by rw [List.length_cons]; omega) (Af.mono (show Af r _ (markP T s4 [41]) from h5) fun _ s5 _ h6 => ?_)
  exact part_go (by omega) (Or.inl rfl) h6
theorem comp_go {T : List Tok} {te : PS → PRes Int} (h1 : Smm T (awt 6) 1 te) (hg : Gone te) {s : PS} {fr : List Int} {ws : List Wn} {r : PRes (List Int)} (hn : s.ns ≤ 32) (hl : ws.length + 5 * (32 - s.ns) + 2 < 200) (h : Af r (fun k s' => Rs T ws s' (fr ++ [k]) r) (compP T te s)) : Af r (fun q s' => Rs T (q.1 ++ ws) s' q.2 r) (cmpM s fr) := by
  unfold compP at h
  rw [af_bnd] at h
  show Rs T (awt 6 :: ⟨7, 0, 0, ⟨#[]⟩, 0, fr.length⟩ :: ws) s fr r
  refine h1 s fr _ r hn (by rw [List.length_cons]; omega) (h.mono fun l s1 e1 h2 => ?_)
  have n1 := (hg _ _ _ e1).ns
  refine rs_step (by omega) ?_
  show Af r _ (relM T fr.length s1 (fr ++ [l]))
  unfold relM
  cases hb : betO (tk T s1.nx) with
  | none =>
    rw [hb] at h2
    exact h2
  | some q =>
    obtain ⟨kd, nu⟩ := q
    rw [hb] at h2
    dsimp only at h2 ⊢
    rw [af_bnd] at h2
    show Rs T (awt 6 :: ⟨11, kd, ((tk T s1.nx).a : Int), ⟨#[]⟩, nu, fr.length⟩ :: ws) (adv s1) (fr ++ [l]) r
    refine h1 (adv s1) (fr ++ [l]) _ r (by show s1.ns ≤ 32; omega) (by rw [List.length_cons]; show ws.length + 1 + 5 * (32 - s1.ns) + 1 < 200; omega) (h2.mono fun r2 s2 _ h3 => ?_)
    rw [List.append_assoc]
    exact part_go (by omega) (Or.inr rfl) h3
theorem unit_go {T : List Tok} {ex un te : PS → PRes Int} (h1 : Smm T (awt 1) 4 ex) (h5 : Smm T (awt 5) 2 un) (h6 : Smm T (awt 6) 1 te) (hg : Gone te) : Smm T (awt 5) 2 (unitP T ex un te) := by
  intro s fr ws r hn hl h
  refine rs_step (by omega) ?_
  show Af r _ (unitM T s fr)
  unfold unitP at h
  unfold unitM
  by_cases ha : isM T s [33] = true
  · rw [if_pos ha] at h ⊢
    unfold negP at h
    rw [af_bnd] at h ⊢
    refine h.mono fun _ s1 eo h2 => ?_
    have ho := open_ns eo hn
    rw [af_bnd] at h2
    show Rs T (awt 5 :: ⟨9, 0, ((tk T s.nx).a : Int), ⟨#[]⟩, 0, fr.length⟩ :: ws) s1 fr r
    refine h5 s1 fr _ r (by omega) (by rw [List.length_cons]; omega) (h2.mono fun k s2 _ h3 => ?_)
    refine rs_step (by omega) ?_
    show Af r _ (layM (shutP s2) (fr ++ [k]) 3 ⟨#[]⟩ 0 ((tk T s.nx).a : Int) fr.length)
    exact af_lay h3
  · rw [if_neg ha] at h ⊢
    by_cases hb : isM T s [40] = true
    · rw [if_pos hb] at h ⊢
      have h := with_go h
      rw [af_bnd]
      refine h.mono fun _ s1 eo h2 => ?_
      have ho := open_ns eo hn
      show Rs T (awt 1 :: awt 8 :: ws) s1 fr r
      exact h1 s1 fr _ r (by omega) (by rw [List.length_cons]; omega) (h2.mono fun k s2 _ h3 => close_go (by omega) h3)
    · rw [if_neg hb] at h ⊢
      unfold atomP at h
      by_cases hk : (tk T s.nx).kind = 3
      · rw [if_pos hk] at h ⊢
        by_cases c1 : (tk T s.nx).text.toList = [116, 114, 117, 101]
        · rw [if_pos c1] at h ⊢; exact af_lv h
        rw [if_neg c1] at h ⊢
        by_cases c2 : (tk T s.nx).text.toList = [102, 97, 108, 115, 101]
        · rw [if_pos c2] at h ⊢; exact af_lv h
        rw [if_neg c2] at h ⊢
        by_cases c3 : (tk T s.nx).text.toList = [110, 101, 97, 114]
        · rw [if_pos c3] at h ⊢; exact sel_go h1 hn (by omega) h
        rw [if_neg c3] at h ⊢
        by_cases c4 : (tk T s.nx).text.toList = [97, 112, 97, 114, 116]
        · rw [if_pos c4] at h ⊢; exact sel_go h1 hn (by omega) h
        rw [if_neg c4] at h ⊢
        by_cases c5 : (tk T s.nx).text.toList = [116, 111, 108, 101, 114, 97, 116, 101, 100]
        · rw [if_pos c5] at h ⊢; exact af_lv h
        rw [if_neg c5] at h ⊢
        exact comp_go h6 hg hn (by omega) h
      · rw [if_neg hk] at h ⊢
        exact comp_go h6 hg hn (by omega) h
theorem term_go {T : List Tok} {ex te : PS → PRes Int} (h1 : Smm T (awt 1) 4 ex) (h6 : Smm T (awt 6) 1 te) : Smm T (awt 6) 1 (termP T ex te) := by
  intro s fr ws r hn hl h
  refine rs_step (by omega) ?_
  show Af r _ (termM T s fr)
  unfold termP at h
  unfold termM
  by_cases ha : isEl (tk T s.nx) = true
  · rw [if_pos ha] at h ⊢; exact af_lv h
  rw [if_neg ha] at h ⊢
  by_cases hb : isM T s [123] = true
  · rw [if_pos hb] at h ⊢; exact af_lv h
  rw [if_neg hb] at h ⊢
  by_cases hk : (tk T s.nx).kind = 3
  · rw [if_pos hk] at h ⊢
    unfold wordP at h
    by_cases c1 : (tk T s.nx).text.toList = [110, 111, 100, 101]
    · rw [if_pos c1] at h ⊢; exact af_lv h
    rw [if_neg c1] at h ⊢
    by_cases c2 : (tk T s.nx).text.toList = [112, 111, 100]
    · rw [if_pos c2] at h ⊢; exact af_lv h
    rw [if_neg c2] at h ⊢
    by_cases c3 : (tk T s.nx).text.toList = [105, 116]
    · rw [if_pos c3] at h ⊢; exact af_lv h
    rw [if_neg c3] at h ⊢
    by_cases c4 : (tk T s.nx).text.toList = [105, 110, 116]
    · rw [if_pos c4] at h ⊢
      rw [af_bnd] at h ⊢
      have h := with_go h
      refine h.mono fun _ s1 eo h2 => ?_
      have ho := open_ns eo hn
      have ho1 : (adv s).ns = s.ns := rfl
      show Rs T (awt 6 :: awt 8 :: ⟨10, 19, ((tk T s.nx).a : Int), ⟨#[]⟩, 0, fr.length⟩ :: ws) s1 fr r
      refine h6 s1 fr _ r (by omega) (by rw [List.length_cons, List.length_cons]; omega) (h2.mono fun k s2 _ h3 => ?_)
      exact close_go (by rw [List.length_cons]; omega) (h3.mono fun _ s3 _ h4 => part_go (by omega) (Or.inl rfl) h4)
    rw [if_neg c4] at h ⊢
    by_cases c5 : (tk T s.nx).text.toList = [99, 111, 117, 110, 116]
    · rw [if_pos c5] at h ⊢; exact sel_go h1 hn (by omega) h
    rw [if_neg c5] at h ⊢
    exact h
  · rw [if_neg hk] at h ⊢
    exact h
/-- The want of a production. -/
def wg : Gr → Int
  | .expr => 1
  | .conj => 3
  | .unit => 5
  | .term => 6
def wd : Gr → Nat
  | .expr => 4
  | .conj => 3
  | .unit => 2
  | .term => 1
theorem gr_go {T : List Tok} (hT : T.length ≤ 4097) : ∀ (n : Nat) (g : Gr), Smm T (awt (wg g)) (wd g) (gr T n g)
  | 0, g => fun s fr ws r _ _ h => absurd rfl h.1
  | n + 1, .expr => row_go hT (lst_ors T) (fun _ _ => rfl) (gr_go hT n .conj) (gn_gr n .conj)
  | n + 1, .conj => row_go hT (lst_ands T) (fun _ _ => rfl) (gr_go hT n .unit) (gn_gr n .unit)
  | n + 1, .unit => unit_go (gr_go hT n .expr) (gr_go hT n .unit) (gr_go hT n .term) (gn_gr n .term)
  | n + 1, .term => term_go (gr_go hT n .expr) (gr_go hT n .term)
/-- What the machine comes to, ahead of the count of the parts. -/
def endM (T : List Tok) : PRes (List Int) :=
  bnd (gr T 16392 .expr ⟨0, 0, [], []⟩) fun k s => if (tk T s.nx).kind = 0 then .ok ([k], s) else .error (rfE T s)
/-- THE MACHINE READS WHAT THE GRAMMAR READS. -/
theorem machine_go {T : List Tok} (hT : T.length ≤ 4097) (h0 : 0 < T.length) : Rs T [awt 1, awt 12] ⟨0, 0, [], []⟩ [] (endM T) := by
  refine gr_go hT 16392 .expr _ [] [awt 12] _ (by decide) (by decide) ?_
  unfold endM
  cases hq : gr T 16392 .expr ⟨0, 0, [], []⟩ with
  | error q =>
    obtain ⟨c, x⟩ := q
    exact ⟨nz_gr 16392 .expr _ (by simp only [lvl]; omega) c x hq, rfl⟩
  | ok q =>
    obtain ⟨k, s⟩ := q
    show Rs T [awt 12] s [k] (if (tk T s.nx).kind = 0 then .ok ([k], s) else .error (rfE T s))
    refine rs_step (by decide) ?_
    show Af _ _ (if (tk T s.nx).kind = 0 then .ok (([], [k]), s) else .error (rfE T s))
    by_cases hk : (tk T s.nx).kind = 0
    · rw [if_pos hk, if_pos hk]
      exact ⟨0, .fin s [k]⟩
    · rw [if_neg hk, if_neg hk]
      refine ⟨?_, rfl⟩
      rw [if_neg hk]
      decide
end Go.Proofs.YtcldglilhhhdoaaGreatDoor.L
namespace Go.Proofs.YtcldglilhhhdoaaGreatDoor.L
open Go.RowKit
set_option linter.unusedVariables false
set_option linter.unusedSimpArgs false
/-- A fault as plain data. -/
def f19 (c a : Int) : Array Value := #[.int .i64 c, .int .i64 a, .string ⟨#[]⟩, .int .i64 0, .int .i64 0, .int .i64 0, .string ⟨#[]⟩, .int .i64 0, .int .i64 0, .int .i64 0, .string ⟨#[]⟩, .int .i64 0, .int .i64 0, .int .i64 0, .string ⟨#[]⟩, .int .i64 0, .int .i64 0, .int .i64 0, .string ⟨#[]⟩]
theorem read_flt (N c : Nat) (a : Int) (w : World) (h : Fli w N c a) (h0 : c ≠ 0) : Calls Tryz.prog 12 #[fv N] w fun e w' => e = .returned (.agg (f19 c a)) ∧ Below w.heap.size w w' := read_yes N c a w h h0
set_option maxHeartbeats 4000000 in
set_option maxRecDepth 100000 in
theorem read_nil (w : World) : Calls Tryz.prog 12 #[.nilIface] w fun e w' => e = .returned (.agg (f19 0 0)) ∧ Below w.heap.size w w' := by
  obtain ⟨ZC, hz⟩ : ∃ ZC : Array Value, ZC = f19 0 0 := ⟨_, rfl⟩
  have hz9 : ZC.size = 19 := by rw [hz]; rfl
  have HZ := hid hz
  have HZ9 := hid hz9
  have HB := hid (belowA w (.cells ZC 35))
  have HX := hid (heap_alloc_new w (.cells ZC 35))
  rw [← hz]
  clear hz hz9
  go_enter Tryz.func12, Tryz.ntmps12
  go_upto_region 2 with fail
  have e1 : (#[.int .i64 0, .int .i64 0, .string ⟨#[]⟩, .int .i64 0, .int .i64 0, .int .i64 0, .string ⟨#[]⟩, .int .i64 0, .int .i64 0, .int .i64 0, .string ⟨#[]⟩, .int .i64 0, .int .i64 0, .int .i64 0, .string ⟨#[]⟩, .int .i64 0, .int .i64 0, .int .i64 0, .string ⟨#[]⟩] : Array Value) = ZC := by rw [HZ.out]; rfl
  rw [e1]
  refine wp_region_lit ?_
  refine wpList_plain rfl fun K hK => ?_
  have HK := hid hK
  clear hK
  go_simp
  (try rw [e1])
  refine HK.out _ _ ?_
  clear HK
  try simp only [Act.put, List.setIfInBounds_toArray, List.set_cons_zero, List.set_cons_succ]
  refine wpList_store_row rfl 35 _ _ rfl w.heap.size ZC rfl rfl 35 ZC HX.out (by rw [HZ9.out]; exact info53) rfl (by rw [HZ.out]; kernel_rfl) ?_
  try simp only [Act.put, List.setIfInBounds_toArray, List.set_cons_zero, List.set_cons_succ]
  have HX3 := hid (setRow_heap _ _ ZC ZC _ _ HX.out)
  have HB3 := hid (below_row HB.out w.heap.size ZC (Nat.le_refl _))
  generalize (w.alloc (.cells ZC 35)).setRow w.heap.size ZC = W3 at *
  go_wp2_with fail
  exact ⟨rfl, .agg ZC, results_cell_row Tryz.results12 _ W3 w.heap.size 35 ZC (0, 0) _ rfl HX3.out Tryz.underlying35 rfl (by rw [HZ9.out]; exact info53), rfl, HB3.out⟩
/-- What reading Parse's error gives. -/
def rdc (src : ByteArray) : Int × Int :=
  match parR src with
  | .ok _ => (0, 0)
  | .error (c, x) => ((c : Int), x)
/-- Every fault of Parse has a number. -/
theorem parR_code {src : ByteArray} {c : Nat} {x : Int} (h : parR src = .error (c, x)) : c ≠ 0 := by
  unfold parR at h
  cases hs : (scanT src).2 with
  | some q =>
    obtain ⟨c', a'⟩ := q
    rw [hs] at h
    simp only [Except.error.injEq, Prod.mk.injEq] at h
    have := scanT_codes hs
    omega
  | none =>
    rw [hs] at h
    simp only at h
    cases hw : wholeP (scanT src).1 16392 with
    | ok q => rw [hw] at h; cases h
    | error q =>
      rw [hw] at h
      simp only [Except.error.injEq] at h
      subst h
      exact whole_code hw (scan_fin2 hs).1 (scanT_len src)
end Go.Proofs.YtcldglilhhhdoaaGreatDoor.L
