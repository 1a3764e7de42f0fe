import Derived.Test.YtcldglilhhhdoaaGreatDoorPa6
namespace Go.Proofs.YtcldglilhhhdoaaGreatDoor.L
open Go.RowKit
set_option linter.unusedVariables false
set_option linter.unusedSimpArgs false
theorem mark_ok {T : List Tok} {s s' : PS} {m : List UInt8} {u : Unit} (h : markP T s m = .ok (u, s')) : s' = adv s := by
  unfold markP at h
  split at h
  · injection h with h; injection h with _ h; exact h.symm
  · cases h
theorem text_ok {T : List Tok} {s s' : PS} {t : ByteArray} (h : textP T s = .ok (t, s')) : s' = adv s := by
  unfold textP at h
  split at h
  · injection h with h; injection h with _ h; exact h.symm
  · cases h
theorem own_nil (W : World) (B : Nat) : OwnI W B (.slice none 0 0) [] := World.ownsRow_nil _ _ _ _
/-- A part without kids is put. -/
theorem put0_any {pb B : Nat} {Nb : Nat → Prop} {tv : Value} {T : List Tok} {W : World} {s : PS} {v o : Value} {ks : Nat → Value} (h : PM pb B Nb tv T W s v o ks) (k : Int) (t : ByteArray) (n : Int) (off : Int) (hl : s.ps.length ≤ 100000) (hlo : s.os.length ≤ 100000) :
    Calls Tryz.prog 74 #[.pointer (some ⟨pb, 0, none⟩), .agg #[.int .i64 k, .string t, .int .i64 n, .slice none 0 0], .int .i64 off] W fun e W' => Po pb B Nb tv T (fun k => .int .i64 k) (putP s ⟨k, t, n, []⟩ off) W v o e W' :=
  put_any h ⟨k, t, n, []⟩ (.slice none 0 0) (own_nil W B) (fun k hk => (by cases hk)) (fun k hk => (by cases hk)) (fun j _ k hk => (by cases hk)) off hl hlo
theorem po_ok {pb B : Nat} {Nb : Nat → Prop} {tv : Value} {T : List Tok} {W : World} {v o : Value} {α : Type} {mk : α → Value} {a : α} {s' : PS} {e : Ending} {W' : World} (h : Po pb B Nb tv T mk (.ok (a, s')) W v o e W') : e = .returned (mk a) ∧ ∃ v' o' ks', PM pb B Nb tv T W' s' v' o' ks' ∧ Fp pb W v o W' v' o' := h
theorem po_bad {pb B : Nat} {Nb : Nat → Prop} {tv : Value} {T : List Tok} {W : World} {v o : Value} {α : Type} {mk : α → Value} {c : Nat} {x : Int} {e : Ending} {W' : World} (h : Po pb B Nb tv T mk (.error (c, x) : PRes α) W v o e W') : ∃ N, e = pe N ∧ Fli W' N c x ∧ Below B W W' := h
set_option maxHeartbeats 4000000 in
set_option maxRecDepth 100000 in
theorem constant_any {pb B : Nat} {Nb : Nat → Prop} {tv : Value} {T : List Tok} {W : World} {s : PS} {v o : Value} {ks : Nat → Value} (h : PM pb B Nb tv T W s v o ks) (hk : (tk T s.nx).kind ≠ 0) (hl : s.ps.length ≤ 100000) (hlo : s.os.length ≤ 100000) (k : Int) :
    Calls Tryz.prog 103 #[.pointer (some ⟨pb, 0, none⟩), .int .i64 k] W fun e W' => Po pb B Nb tv T (fun k => .int .i64 k) (constP T s k) W v o e W' := by
  unfold constP
  have HP := hid h
  have HK := hid hk
  have HL := hid (And.intro hl hlo)
  have rf3 := run_f3
  clear h hk hl hlo
  go_enter Tryz.func103, Tryz.ntmps103
  go_wp2_with fail
  refine (take_any HP.out HK.out).mono ?_
  rintro e X ⟨rfl, hp, hf⟩
  have HPX := hid hp
  have HFX := hid hf
  clear hp hf
  unfold L.tv
  go_wp2_with fail
  refine (put0_any HPX.out k ⟨#[]⟩ 0 _ HL.out.1 HL.out.2).mono ?_
  intro e U hpo
  obtain ⟨rfl, v', o', ks', hp, hf⟩ := po_ok hpo
  have HPU := hid hp
  have HFU := hid (HFX.out.trans hf)
  clear hp hf hpo
  go_wp2_with fail
  go_ret
  exact ⟨rfl, v', o', ks', HPU.out, HFU.out⟩
theorem ml40 : (⟨#[40]⟩ : ByteArray).toList = [40] := ByteArray.toList_eq _
theorem ml41 : (⟨#[41]⟩ : ByteArray).toList = [41] := ByteArray.toList_eq _
theorem named_ok {T : List Tok} {s s' : PS} {t : ByteArray} (h : namedP T s = .ok (t, s')) : s' = adv (adv (adv s)) := by
  unfold namedP at h
  cases h1 : markP T s [40] with
  | error q => rw [h1, bnd_bad] at h; cases h
  | ok q =>
    obtain ⟨u, s1⟩ := q
    rw [h1, bnd_ok] at h
    cases h2 : textP T s1 with
    | error q => rw [h2, bnd_bad] at h; cases h
    | ok q =>
      obtain ⟨t1, s2⟩ := q
      rw [h2, bnd_ok] at h
      cases h3 : markP T s2 [41] with
      | error q => rw [h3, bnd_bad] at h; cases h
      | ok q =>
        obtain ⟨u, s3⟩ := q
        rw [h3, bnd_ok] at h
        injection h with h
        injection h with _ h
        rw [← h, mark_ok h3, text_ok h2, mark_ok h1]
set_option maxHeartbeats 4000000 in
set_option maxRecDepth 100000 in
theorem named_any {pb B : Nat} {Nb : Nat → Prop} {tv : Value} {T : List Tok} {W : World} {s : PS} {v o : Value} {ks : Nat → Value} (h : PM pb B Nb tv T W s v o ks) :
    Calls Tryz.prog 115 #[.pointer (some ⟨pb, 0, none⟩)] W fun e W' => Po pb B Nb tv T (fun x => .string x) (namedP T s) W v o e W' := by
  unfold namedP
  have HP := hid h
  have HP0 := hid h
  have HF0 := hid (Fp.refl pb W v o)
  cases h1 : markP T s [40] with
  | error q =>
    obtain ⟨c, x⟩ := q
    have HR0 := hid h1
    rw [bnd_bad]
    clear h
    clear h1
    go_enter Tryz.func115, Tryz.ntmps115
    go_wp2_with fail
    refine (mark_any HP0.out ⟨#[40]⟩).mono ?_
    intro e W1 hpo
    rw [ml40] at hpo
    rw [HR0.out] at hpo
    obtain ⟨N, rfl, hf, hb⟩ := po_bad hpo
    have HF := hid hf
    have HBD := hid ((HP.out.below HF0.out).trans hb)
    clear hf hb hpo
    go_wp2_with fail
    exact ⟨rfl, N, rfl, HF.out, HBD.out⟩
  | ok q =>
    obtain ⟨u1, s1⟩ := q
    have HR0 := hid h1
    rw [bnd_ok]
    cases h2 : textP T s1 with
    | error q =>
      obtain ⟨c, x⟩ := q
      have HR1 := hid h2
      rw [bnd_bad]
      clear h
      clear h1
      clear h2
      go_enter Tryz.func115, Tryz.ntmps115
      go_wp2_with fail
      refine (mark_any HP0.out ⟨#[40]⟩).mono ?_
      intro e W1 hpo
      rw [ml40] at hpo
      rw [HR0.out] at hpo
      obtain ⟨rfl, v1, o1, ks1, hp, hf⟩ := po_ok hpo
      have HP1 := hid hp
      have HF1 := hid (HF0.out.trans hf)
      clear hp hf hpo
      (try unfold L.tv)
      go_wp2_with fail
      refine (text_any HP1.out).mono ?_
      intro e W2 hpo
      rw [HR1.out] at hpo
      obtain ⟨N, rfl, hf, hb⟩ := po_bad hpo
      have HF := hid hf
      have HBD := hid ((HP.out.below HF1.out).trans hb)
      clear hf hb hpo
      go_wp2_with fail
      exact ⟨rfl, N, rfl, HF.out, HBD.out⟩
    | ok q =>
      obtain ⟨t, s2⟩ := q
      have HR1 := hid h2
      rw [bnd_ok]
      cases h3 : markP T s2 [41] with
      | error q =>
        obtain ⟨c, x⟩ := q
        have HR2 := hid h3
        rw [bnd_bad]
        clear h
        clear h1
        clear h2
        clear h3
        go_enter Tryz.func115, Tryz.ntmps115
        go_wp2_with fail
        refine (mark_any HP0.out ⟨#[40]⟩).mono ?_
        intro e W1 hpo
        rw [ml40] at hpo
        rw [HR0.out] at hpo
        obtain ⟨rfl, v1, o1, ks1, hp, hf⟩ := po_ok hpo
        have HP1 := hid hp
        have HF1 := hid (HF0.out.trans hf)
        clear hp hf hpo
        (try unfold L.tv)
        go_wp2_with fail
        refine (text_any HP1.out).mono ?_
        intro e W2 hpo
        rw [HR1.out] at hpo
        obtain ⟨rfl, v2, o2, ks2, hp, hf⟩ := po_ok hpo
        have HP2 := hid hp
        have HF2 := hid (HF1.out.trans hf)
        clear hp hf hpo
        (try unfold L.tv)
        go_wp2_with fail
        refine (mark_any HP2.out ⟨#[41]⟩).mono ?_
        intro e W3 hpo
        rw [ml41] at hpo
        rw [HR2.out] at hpo
        obtain ⟨N, rfl, hf, hb⟩ := po_bad hpo
        have HF := hid hf
        have HBD := hid ((HP.out.below HF2.out).trans hb)
        clear hf hb hpo
        go_wp2_with fail
        exact ⟨rfl, N, rfl, HF.out, HBD.out⟩
      | ok q =>
        obtain ⟨u3, s3⟩ := q
        have HR2 := hid h3
        rw [bnd_ok]
        clear h
        clear h1
        clear h2
        clear h3
        go_enter Tryz.func115, Tryz.ntmps115
        go_wp2_with fail
        refine (mark_any HP0.out ⟨#[40]⟩).mono ?_
        intro e W1 hpo
        rw [ml40] at hpo
        rw [HR0.out] at hpo
        obtain ⟨rfl, v1, o1, ks1, hp, hf⟩ := po_ok hpo
        have HP1 := hid hp
        have HF1 := hid (HF0.out.trans hf)
        clear hp hf hpo
        (try unfold L.tv)
        go_wp2_with fail
        refine (text_any HP1.out).mono ?_
        intro e W2 hpo
        rw [HR1.out] at hpo
        obtain ⟨rfl, v2, o2, ks2, hp, hf⟩ := po_ok hpo
        have HP2 := hid hp
        have HF2 := hid (HF1.out.trans hf)
        clear hp hf hpo
        (try unfold L.tv)
        go_wp2_with fail
        refine (mark_any HP2.out ⟨#[41]⟩).mono ?_
        intro e W3 hpo
        rw [ml41] at hpo
        rw [HR2.out] at hpo
        obtain ⟨rfl, v3, o3, ks3, hp, hf⟩ := po_ok hpo
        have HP3 := hid hp
        have HF3 := hid (HF2.out.trans hf)
        clear hp hf hpo
        (try unfold L.tv)
        go_wp2_with fail
        go_ret
        exact ⟨rfl, v3, o3, ks3, HP3.out, HF3.out⟩
end Go.Proofs.YtcldglilhhhdoaaGreatDoor.L
