import Derived.Test.YtlhlpamciafocaaGreatDoorPa6
namespace Go.Proofs.YtlhlpamciafocaaGreatDoor.L
open Go.RowKit
set_option linter.unusedVariables false
set_option linter.unusedSimpArgs false
theorem mark_ok {T : List Tok} {s s' : PS} {m : List UInt8} {u : Unit} (h : markP T s m = .ok (u, s')) : s' = adv s := by
  unfold markP at h
  split at h
  · injection h with h; injection h with _ h; exact h.symm
  · cases h
theorem text_ok {T : List Tok} {s s' : PS} {t : ByteArray} (h : textP T s = .ok (t, s')) : s' = adv s := by
  unfold textP at h
  split at h
  · injection h with h; injection h with _ h; exact h.symm
  · cases h
theorem own_nil (W : World) (B : Nat) : OwnI W B (.slice none 0 0) [] := World.ownsRow_nil _ _ _ _
/-- A part without kids is put. -/
theorem put0_any {pb B : Nat} {Nb : Nat → Prop} {tv : Value} {T : List Tok} {W : World} {s : PS} {v o : Value} {ks : Nat → Value} (h : PM pb B Nb tv T W s v o ks) (k : Int) (t : ByteArray) (n : Int) (off : Int) (hl : s.ps.length ≤ 100000) (hlo : s.os.length ≤ 100000) :
    Calls Tryz.prog 73 #[.pointer (some ⟨pb, 0, none⟩), .agg #[.int .i64 k, .string t, .int .i64 n, .slice none 0 0], .int .i64 off] W fun e W' => Po pb B Nb tv T (fun k => .int .i64 k) (putP s ⟨k, t, n, []⟩ off) W v o e W' :=
  put_any h ⟨k, t, n, []⟩ (.slice none 0 0) (own_nil W B) (fun k hk => (by cases hk)) (fun k hk => (by cases hk)) (fun j _ k hk => (by cases hk)) off hl hlo
theorem po_ok {pb B : Nat} {Nb : Nat → Prop} {tv : Value} {T : List Tok} {W : World} {v o : Value} {α : Type} {mk : α → Value} {a : α} {s' : PS} {e : Ending} {W' : World} (h : Po pb B Nb tv T mk (.ok (a, s')) W v o e W') : e = .returned (mk a) ∧ ∃ v' o' ks', PM pb B Nb tv T W' s' v' o' ks' ∧ Fp pb W v o W' v' o' := h
theorem po_bad {pb B : Nat} {Nb : Nat → Prop} {tv : Value} {T : List Tok} {W : World} {v o : Value} {α : Type} {mk : α → Value} {c : Nat} {x : Int} {e : Ending} {W' : World} (h : Po pb B Nb tv T mk (.error (c, x) : PRes α) W v o e W') : ∃ N, e = pe N ∧ Fli W' N c x ∧ Below B W W' := h
set_option maxHeartbeats 4000000 in
set_option maxRecDepth 100000 in
theorem constant_any {pb B : Nat} {Nb : Nat → Prop} {tv : Value} {T : List Tok} {W : World} {s : PS} {v o : Value} {ks : Nat → Value} (h : PM pb B Nb tv T W s v o ks) (hk : (tk T s.nx).kind ≠ 0) (hl : s.ps.length ≤ 100000) (hlo : s.os.length ≤ 100000) (k : Int) :
    Calls Tryz.prog 100 #[.pointer (some ⟨pb, 0, none⟩), .int .i64 k] W fun e W' => Po pb B Nb tv T (fun k => .int .i64 k) (constP T s k) W v o e W' := by
  unfold constP
  have HP := hid h
  have HK := hid hk
  have HL := hid (And.intro hl hlo)
  have rf3 := run_f3
  clear h hk hl hlo
  go_enter Tryz.func100, Tryz.ntmps100
  go_wp2_with fail
  refine (take_any HP.out HK.out).mono ?_
  rintro e X ⟨rfl, hp, hf⟩
  have HPX := hid hp
  have HFX := hid hf
  clear hp hf
  unfold L.tv
  go_wp2_with fail
  refine (put0_any HPX.out k ⟨#[]⟩ 0 _ HL.out.1 HL.out.2).mono ?_
  intro e U hpo
  obtain ⟨rfl, v', o', ks', hp, hf⟩ := po_ok hpo
  have HPU := hid hp
  have HFU := hid (HFX.out.trans hf)
  clear hp hf hpo
  go_wp2_with fail
  go_ret
  exact ⟨rfl, v', o', ks', HPU.out, HFU.out⟩
theorem ml40 : (⟨#[40]⟩ : ByteArray).toList = [40] := ByteArray.toList_eq _
theorem ml41 : (⟨#[41]⟩ : ByteArray).toList = [41] := ByteArray.toList_eq _
theorem named_ok {T : List Tok} {s s' : PS} {t : ByteArray} (h : namedP T s = .ok (t, s')) : s' = adv (adv (adv s)) := by
  unfold namedP at h
  cases h1 : markP T s [40] with
  | error q => rw [h1, bnd_bad] at h; cases h
  | ok q =>
    obtain ⟨u, s1⟩ := q
    rw [h1, bnd_ok] at h
    cases h2 : textP T s1 with
    | error q => rw [h2, bnd_bad] at h; cases h
    | ok q =>
      obtain ⟨t1, s2⟩ := q
      rw [h2, bnd_ok] at h
      cases h3 : markP T s2 [41] with
      | error q => rw [h3, bnd_bad] at h; cases h
      | ok q =>
        obtain ⟨u, s3⟩ := q
        rw [h3, bnd_ok] at h
        injection h with h
        injection h with _ h
        rw [← h, mark_ok h3, text_ok h2, mark_ok h1]
set_option maxHeartbeats 4000000 in
set_option maxRecDepth 100000 in
theorem named_any {pb B : Nat} {Nb : Nat → Prop} {tv : Value} {T : List Tok} {W : World} {s : PS} {v o : Value} {ks : Nat → Value} (h : PM pb B Nb tv T W s v o ks) :
    Calls Tryz.prog 116 #[.pointer (some ⟨pb, 0, none⟩)] W fun e W' => Po pb B Nb tv T (fun x => .string x) (namedP T s) W v o e W' := by
  unfold namedP
  have HP := hid h
  have HP0 := hid h
  have HF0 := hid (Fp.refl pb W v o)
  cases h1 : markP T s [40] with
  | error q =>
    obtain ⟨c, x⟩ := q
    have HR0 := hid h1
    rw [bnd_bad]
    clear h
    clear h1
    go_enter Tryz.func116, Tryz.ntmps116
    go_wp2_with fail
    refine (mark_any HP0.out ⟨#[40]⟩).mono ?_
    intro e W1 hpo
    rw [ml40] at hpo
    rw [HR0.out] at hpo
    obtain ⟨N, rfl, hf, hb⟩ := po_bad hpo
    have HF := hid hf
    have HBD := hid ((HP.out.below HF0.out).trans hb)
    clear hf hb hpo
    go_wp2_with fail
    exact ⟨rfl, N, rfl, HF.out, HBD.out⟩
  | ok q =>
    obtain ⟨u1, s1⟩ := q
    have HR0 := hid h1
    rw [bnd_ok]
    cases h2 : textP T s1 with
    | error q =>
      obtain ⟨c, x⟩ := q
      have HR1 := hid h2
      rw [bnd_bad]
      clear h
      clear h1
      clear h2
      go_enter Tryz.func116, Tryz.ntmps116
      go_wp2_with fail
      refine (mark_any HP0.out ⟨#[40]⟩).mono ?_
      intro e W1 hpo
      rw [ml40] at hpo
      rw [HR0.out] at hpo
      obtain ⟨rfl, v1, o1, ks1, hp, hf⟩ := po_ok hpo
      have HP1 := hid hp
      have HF1 := hid (HF0.out.trans hf)
      clear hp hf hpo
      (try unfold L.tv)
      go_wp2_with fail
      refine (text_any HP1.out).mono ?_
      intro e W2 hpo
      rw [HR1.out] at hpo
      obtain ⟨N, rfl, hf, hb⟩ := po_bad hpo
      have HF := hid hf
      have HBD := hid ((HP.out.below HF1.out).trans hb)
      clear hf hb hpo
      go_wp2_with fail
      exact ⟨rfl, N, rfl, HF.out, HBD.out⟩
    | ok q =>
      obtain ⟨t, s2⟩ := q
      have HR1 := hid h2
      rw [bnd_ok]
      cases h3 : markP T s2 [41] with
      | error q =>
        obtain ⟨c, x⟩ := q
        have HR2 := hid h3
        rw [bnd_bad]
        clear h
        clear h1
        clear h2
        clear h3
        go_enter Tryz.func116, Tryz.ntmps116
        go_wp2_with fail
        refine (mark_any HP0.out ⟨#[40]⟩).mono ?_
        intro e W1 hpo
        rw [ml40] at hpo
        rw [HR0.out] at hpo
        obtain ⟨rfl, v1, o1, ks1, hp, hf⟩ := po_ok hpo
        have HP1 := hid hp
        have HF1 := hid (HF0.out.trans hf)
        clear hp hf hpo
        (try unfold L.tv)
        go_wp2_with fail
        refine (text_any HP1.out).mono ?_
        intro e W2 hpo
        rw [HR1.out] at hpo
        obtain ⟨rfl, v2, o2, ks2, hp, hf⟩ := po_ok hpo
        have HP2 := hid hp
        have HF2 := hid (HF1.out.trans hf)
        clear hp hf hpo
        (try unfold L.tv)
        go_wp2_with fail
        refine (mark_any HP2.out ⟨#[41]⟩).mono ?_
        intro e W3 hpo
        rw [ml41] at hpo
        rw [HR2.out] at hpo
        obtain ⟨N, rfl, hf, hb⟩ := po_bad hpo
        have HF := hid hf
        have HBD := hid ((HP.out.below HF2.out).trans hb)
        clear hf hb hpo
        go_wp2_with fail
        exact ⟨rfl, N, rfl, HF.out, HBD.out⟩
      | ok q =>
        obtain ⟨u3, s3⟩ := q
        have HR2 := hid h3
        rw [bnd_ok]
        clear h
        clear h1
        clear h2
        clear h3
        go_enter Tryz.func116, Tryz.ntmps116
        go_wp2_with fail
        refine (mark_any HP0.out ⟨#[40]⟩).mono ?_
        intro e W1 hpo
        rw [ml40] at hpo
        rw [HR0.out] at hpo
        obtain ⟨rfl, v1, o1, ks1, hp, hf⟩ := po_ok hpo
        have HP1 := hid hp
        have HF1 := hid (HF0.out.trans hf)
        clear hp hf hpo
        (try unfold L.tv)
        go_wp2_with fail
        refine (text_any HP1.out).mono ?_
        intro e W2 hpo
        rw [HR1.out] at hpo
        obtain ⟨rfl, v2, o2, ks2, hp, hf⟩ := po_ok hpo
        have HP2 := hid hp
        have HF2 := hid (HF1.out.trans hf)
        clear hp hf hpo
        (try unfold L.tv)
        go_wp2_with fail
        refine (mark_any HP2.out ⟨#[41]⟩).mono ?_
        intro e W3 hpo
        rw [ml41] at hpo
        rw [HR2.out] at hpo
        obtain ⟨rfl, v3, o3, ks3, hp, hf⟩ := po_ok hpo
        have HP3 := hid hp
        have HF3 := hid (HF2.out.trans hf)
        clear hp hf hpo
        (try unfold L.tv)
        go_wp2_with fail
        go_ret
        exact ⟨rfl, v3, o3, ks3, HP3.out, HF3.out⟩
end Go.Proofs.YtlhlpamciafocaaGreatDoor.L
namespace Go.Proofs.YtlhlpamciafocaaGreatDoor.L
open Go.RowKit
set_option linter.unusedVariables false
set_option linter.unusedSimpArgs false
/-- The parser has gone on: the nest is d deeper, at least j parts more, at least k tokens more than parts, as many offsets as parts. -/
structure Gn (d j k : Nat) (s s' : PS) : Prop where
  ns : s'.ns = s.ns + d
  pl : s.ps.length + j ≤ s'.ps.length
  ps : s'.ps.length + s.nx + k ≤ s.ps.length + s'.nx
  os : s'.os.length + s.ps.length = s.os.length + s'.ps.length
theorem Gn.refl (s : PS) : Gn 0 0 0 s s := ⟨rfl, Nat.le_refl _, Nat.le_refl _, rfl⟩
theorem Gn.nx {d j k : Nat} {a b : PS} (h : Gn d j k a b) : a.nx + j + k ≤ b.nx := by have := h.pl; have := h.ps; omega
theorem gn_adv (s : PS) : Gn 0 0 1 s (adv s) := ⟨rfl, Nat.le_refl _, by simp only [adv]; omega, rfl⟩
theorem Gn.trans {d j k d' j' k' : Nat} {a b c : PS} (h : Gn d j k a b) (g : Gn d' j' k' b c) : Gn (d + d') (j + j') (k + k') a c :=
  ⟨by have := h.ns; have := g.ns; omega, by have := h.pl; have := g.pl; omega, by have := h.ps; have := g.ps; omega, by have := h.os; have := g.os; omega⟩
theorem Gn.weak {d j k j' k' : Nat} {a b : PS} (h : Gn d j k a b) (hj : j' ≤ j) (hk : k' ≤ k) : Gn d j' k' a b :=
  ⟨h.ns, by have := h.pl; omega, by have := h.ps; omega, h.os⟩
theorem Gn.shut {j k : Nat} {a b : PS} (h : Gn 1 j k a b) : Gn 0 j k a (shutP b) :=
  ⟨by have := h.ns; simp only [shutP]; omega, h.pl, h.ps, h.os⟩
theorem Gn.put {d j k : Nat} {a b c : PS} {p : Pt} {x r : Int} (h : Gn d j (k + 1) a b) (e : putP b p x = .ok (r, c)) : Gn d (j + 1) k a c := by
  unfold putP at e
  injection e with e
  injection e with _ e
  subst e
  exact ⟨h.ns, by have := h.pl; simp only [List.length_append, List.length_singleton]; omega, by have := h.ps; simp only [List.length_append, List.length_singleton]; omega, by have := h.os; simp only [List.length_append, List.length_singleton]; omega⟩
theorem bnd_inv {α β : Type} {r : PRes α} {f : α → PS → PRes β} {b : β} {s' : PS} (h : bnd r f = .ok (b, s')) : ∃ a s, r = .ok (a, s) ∧ f a s = .ok (b, s') := by
  match r, h with
  | .ok (a, s), h => exact ⟨a, s, rfl, h⟩
  | .error e, h => cases h
theorem gn_mark {T : List Tok} {s s' : PS} {m : List UInt8} {u : Unit} (h : markP T s m = .ok (u, s')) : Gn 0 0 1 s s' := by rw [mark_ok h]; exact gn_adv s
theorem gn_text {T : List Tok} {s s' : PS} {t : ByteArray} (h : textP T s = .ok (t, s')) : Gn 0 0 1 s s' := by rw [text_ok h]; exact gn_adv s
theorem open_ok {T : List Tok} {s s' : PS} {m : List UInt8} {u : Unit} (h : openP T s m = .ok (u, s')) : s' = { adv s with ns := s.ns + 1 } := by
  unfold openP at h
  split at h
  · split at h
    · cases h
    · injection h with h; injection h with _ h; exact h.symm
  · cases h
theorem gn_open {T : List Tok} {s s' : PS} {m : List UInt8} {u : Unit} (h : openP T s m = .ok (u, s')) : Gn 1 0 1 s s' := by
  rw [open_ok h]
  exact ⟨rfl, Nat.le_refl _, by simp only [adv]; omega, rfl⟩
theorem gn_named {T : List Tok} {s s' : PS} {t : ByteArray} (h : namedP T s = .ok (t, s')) : Gn 0 0 1 s s' := by
  rw [named_ok h]
  exact (((gn_adv s).trans (gn_adv _)).trans (gn_adv _)).weak (by omega) (by omega)
theorem gn_el {T : List Tok} {s s' : PS} {r : Int} (h : elP T s = .ok (r, s')) : Gn 0 1 0 s s' := by
  unfold elP at h
  split at h
  · exact (gn_adv s).put h
  · exact (gn_adv s).put h
theorem gn_mem {T : List Tok} {s s' : PS} {n : Nat} {r : Int} (h : memP T s n = .ok (r, s')) : Gn 0 1 0 s s' := by
  unfold memP at h
  split at h
  · split at h
    · cases h
    · exact gn_el h
  · cases h
theorem gn_mems {T : List Tok} : ∀ (n : Nat) {ks ks' : List Int} {s s' : PS}, memsP T n ks s = .ok (ks', s') → Gn 0 0 0 s s'
  | 0, ks, ks', s, s', h => by
    unfold memsP at h
    injection h with h; injection h with _ h; subst h
    exact Gn.refl _
  | n + 1, ks, ks', s, s', h => by
    unfold memsP at h
    split at h
    · obtain ⟨k, s1, h1, h2⟩ := bnd_inv h
      exact (((gn_adv s).trans (gn_mem h1)).trans (gn_mems n h2)).weak (by omega) (by omega)
    · injection h with h; injection h with _ h; subst h
      exact Gn.refl _
theorem gn_set0 {T : List Tok} {s s' : PS} {ks : List Int} (h : (if isM T s [125] = true then (.ok ([], s) : PRes (List Int)) else bnd (memP T s 0) fun k s2 => .ok ([k], s2)) = .ok (ks, s')) : Gn 0 0 0 s s' := by
  split at h
  · injection h with h; injection h with _ h; subst h
    exact Gn.refl _
  · obtain ⟨k, s1, h1, h2⟩ := bnd_inv h
    injection h2 with h2; injection h2 with _ h2; subst h2
    exact (gn_mem h1).weak (by omega) (by omega)
theorem gn_set {T : List Tok} {s s' : PS} {r : Int} (h : setP T s = .ok (r, s')) : Gn 0 1 0 s s' := by
  unfold setP at h
  obtain ⟨u1, s1, h1, h⟩ := bnd_inv h
  obtain ⟨ks, s2, h2, h⟩ := bnd_inv h
  obtain ⟨ks', s3, h3, h⟩ := bnd_inv h
  obtain ⟨u4, s4, h4, h⟩ := bnd_inv h
  exact ((((gn_mark h1).trans (gn_set0 h2)).trans (gn_mems _ h3)).trans (gn_mark h4) |>.weak (Nat.le_refl _) (by omega) : Gn 0 0 1 s s4).put h
theorem gn_field {T : List Tok} {s s' : PS} {r : Int} (h : fieldP T s = .ok (r, s')) : Gn 0 0 1 s s' := by
  unfold fieldP at h
  split at h
  · cases h
  · injection h with h; injection h with _ h; subst h
    exact gn_adv s
theorem gn_who {T : List Tok} {s s' : PS} {side r : Int} (h : whoP T s side = .ok (r, s')) : Gn 0 1 0 s s' := by
  unfold whoP at h
  split at h
  · obtain ⟨t, s1, h1, h⟩ := bnd_inv h
    obtain ⟨u, s2, h2, h⟩ := bnd_inv h
    exact (((((gn_adv s).trans (gn_adv _)).trans (gn_text h1)).trans (gn_mark h2)).weak (Nat.le_refl _) (by omega) : Gn 0 0 1 s s2).put h
  · obtain ⟨u, s1, h1, h⟩ := bnd_inv h
    obtain ⟨k, s2, h2, h⟩ := bnd_inv h
    have g := ((gn_adv s).trans (gn_mark h1)).trans (gn_field h2)
    split at h
    · obtain ⟨t, s3, h3, h⟩ := bnd_inv h
      exact ((g.trans (gn_named h3)).weak (Nat.le_refl _) (by omega) : Gn 0 0 1 s s3).put h
    · exact (g.weak (Nat.le_refl _) (by omega) : Gn 0 0 1 s s2).put h
def Gone (f : PS → PRes Int) : Prop := ∀ s k s', f s = .ok (k, s') → Gn 0 1 0 s s'
theorem gn_rows {T : List Tok} {one : PS → PRes Int} {m : List UInt8} (h1 : Gone one) : ∀ (n : Nat) {ks ks' : List Int} {s s' : PS}, rowsP T one m n ks s = .ok (ks', s') → ks.length ≤ ks'.length ∧ Gn 0 0 (ks'.length - ks.length) s s'
  | 0, ks, ks', s, s', h => by
    unfold rowsP at h
    injection h with h; injection h with h0 h; subst h; subst h0
    exact ⟨Nat.le_refl _, (Gn.refl _).weak (by omega) (by omega)⟩
  | n + 1, ks, ks', s, s', h => by
    unfold rowsP at h
    split at h
    · obtain ⟨k, s1, h2, h3⟩ := bnd_inv h
      have ⟨i1, i2⟩ := gn_rows h1 n h3
      simp only [List.length_append, List.length_singleton] at i1 i2
      exact ⟨by omega, (((gn_adv s).trans (h1 _ _ _ h2)).trans i2).weak (by omega) (by omega)⟩
    · injection h with h; injection h with h0 h; subst h; subst h0
      exact ⟨Nat.le_refl _, (Gn.refl _).weak (by omega) (by omega)⟩
theorem gn_row {T : List Tok} {one : PS → PRes Int} {kd : Int} {m : List UInt8} (h1 : Gone one) : Gone (rowP T one kd m) := by
  intro s k s' h
  unfold rowP at h
  obtain ⟨k0, s1, h2, h⟩ := bnd_inv h
  obtain ⟨ks, s2, h3, h⟩ := bnd_inv h
  have ⟨i1, i2⟩ := gn_rows h1 _ h3
  have i0 := h1 _ _ _ h2
  split at h
  · injection h with h; injection h with _ h; subst h
    exact (i0.trans i2).weak (by omega) (by omega)
  · rename_i hne
    simp only [List.length_singleton] at i1 i2
    exact (((i0.trans i2).weak (Nat.le_refl _) (by omega) : Gn 0 1 1 s s2).put h).weak (by omega) (by omega)
theorem gn_with {T : List Tok} {α : Type} {inner : PS → PRes α} {d : Nat} {s s' : PS} {a : α} (hi : ∀ s a s', inner s = .ok (a, s') → Gn 0 d 0 s s') (h : withP T inner s = .ok (a, s')) : Gn 0 d 2 s s' := by
  unfold withP at h
  obtain ⟨u, s1, h1, h⟩ := bnd_inv h
  obtain ⟨k, s2, h2, h⟩ := bnd_inv h
  obtain ⟨u3, s3, h3, h⟩ := bnd_inv h
  injection h with h; injection h with _ h; subst h
  exact ((((gn_open h1).trans (hi _ _ _ h2)).trans (gn_mark h3)).weak (by omega) (by omega) : Gn 1 d 2 s s3).shut
theorem gn_sel {T : List Tok} {ex : PS → PRes Int} {kd : Int} (h1 : Gone ex) : Gone (selP T ex kd) := by
  intro s k s' h
  unfold selP at h
  obtain ⟨q, s5, h2, h⟩ := bnd_inv h
  have hi := gn_with (d := 1) (fun s a s' h => by
    obtain ⟨t, s2, i1, h⟩ := bnd_inv h
    obtain ⟨u, s3, i2, h⟩ := bnd_inv h
    obtain ⟨r, s4, i3, h⟩ := bnd_inv h
    injection h with h; injection h with _ h; subst h
    exact (((gn_text i1).trans (gn_mark i2)).trans (h1 _ _ _ i3)).weak (by omega) (by omega)) h2
  exact ((((gn_adv s).trans hi).weak (by omega) (by omega) : Gn 0 1 1 s s5).put h).weak (by omega) (by omega)
theorem gn_neg {T : List Tok} {un : PS → PRes Int} (h1 : Gone un) : Gone (negP T un) := by
  intro s k s' h
  unfold negP at h
  obtain ⟨u, s1, h2, h⟩ := bnd_inv h
  obtain ⟨r, s2, h3, h⟩ := bnd_inv h
  exact ((((gn_open h2).trans (h1 _ _ _ h3)).weak (by omega) (by omega) : Gn 1 1 1 s s2).shut.put h).weak (by omega) (by omega)
theorem gn_comp {T : List Tok} {te : PS → PRes Int} (h1 : Gone te) : Gone (compP T te) := by
  intro s k s' h
  unfold compP at h
  obtain ⟨l, s1, h2, h⟩ := bnd_inv h
  split at h
  · cases h
  · obtain ⟨r, s2, h3, h⟩ := bnd_inv h
    exact (((((h1 _ _ _ h2).trans (gn_adv _)).trans (h1 _ _ _ h3)).weak (by omega) (by omega) : Gn 0 1 1 s s2).put h).weak (by omega) (by omega)
theorem gn_const {T : List Tok} {s s' : PS} {k r : Int} (h : constP T s k = .ok (r, s')) : Gn 0 1 0 s s' := by
  unfold constP at h
  exact (gn_adv s).put h
theorem gn_tol {T : List Tok} {s s' : PS} {r : Int} (h : tolP T s = .ok (r, s')) : Gn 0 1 0 s s' := by
  unfold tolP at h
  obtain ⟨t, s1, h1, h⟩ := bnd_inv h
  exact (((gn_adv s).trans (gn_named h1)).weak (Nat.le_refl _) (by omega) : Gn 0 0 1 s s1).put h
theorem gn_atom {T : List Tok} {ex te : PS → PRes Int} (h1 : Gone ex) (h2 : Gone te) : Gone (atomP T ex te) := by
  intro s k s' h
  unfold atomP at h
  split at h
  · split at h
    · exact gn_const h
    · split at h
      · exact gn_const h
      · split at h
        · exact gn_sel h1 _ _ _ h
        · split at h
          · exact gn_sel h1 _ _ _ h
          · split at h
            · exact gn_tol h
            · exact gn_comp h2 _ _ _ h
  · exact gn_comp h2 _ _ _ h
theorem gn_word {T : List Tok} {ex te : PS → PRes Int} (h1 : Gone ex) (h2 : Gone te) : Gone (wordP T ex te) := by
  intro s k s' h
  unfold wordP at h
  split at h
  · exact gn_who h
  · split at h
    · exact gn_who h
    · split at h
      · exact gn_who h
      · split at h
        · obtain ⟨r, s1, h3, h⟩ := bnd_inv h
          exact ((((gn_adv s).trans (gn_with h2 h3)).weak (by omega) (by omega) : Gn 0 1 1 s s1).put h).weak (by omega) (by omega)
        · split at h
          · exact gn_sel h1 _ _ _ h
          · cases h
theorem gn_unit {T : List Tok} {ex un te : PS → PRes Int} (h1 : Gone ex) (h2 : Gone un) (h3 : Gone te) : Gone (unitP T ex un te) := by
  intro s k s' h
  unfold unitP at h
  split at h
  · exact gn_neg h2 _ _ _ h
  · split at h
    · exact (gn_with h1 h).weak (by omega) (by omega)
    · exact gn_atom h1 h3 _ _ _ h
theorem gn_term {T : List Tok} {ex te : PS → PRes Int} (h1 : Gone ex) (h2 : Gone te) : Gone (termP T ex te) := by
  intro s k s' h
  unfold termP at h
  split at h
  · exact gn_el h
  · split at h
    · exact gn_set h
    · split at h
      · exact gn_word h1 h2 _ _ _ h
      · cases h
/-- Each production goes on. -/
theorem gn_gr {T : List Tok} : ∀ (n : Nat) (g : Gr), Gone (gr T n g)
  | 0, g => fun s k s' h => by unfold gr at h; cases h
  | n + 1, .expr => fun s k s' h => by unfold gr at h; exact gn_row (gn_gr n _) _ _ _ h
  | n + 1, .conj => fun s k s' h => by unfold gr at h; exact gn_row (gn_gr n _) _ _ _ h
  | n + 1, .unit => fun s k s' h => by unfold gr at h; exact gn_unit (gn_gr n _) (gn_gr n _) (gn_gr n _) _ _ _ h
  | n + 1, .term => fun s k s' h => by unfold gr at h; exact gn_term (gn_gr n _) (gn_gr n _) _ _ _ h
end Go.Proofs.YtlhlpamciafocaaGreatDoor.L
