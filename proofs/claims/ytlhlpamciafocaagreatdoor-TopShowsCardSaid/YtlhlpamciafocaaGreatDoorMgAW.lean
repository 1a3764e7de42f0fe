import Derived.Test.YtlhlpamciafocaaGreatDoorPiF
import Derived.Test.YtlhlpamciafocaaGreatDoorMgAT
namespace Go.Proofs.YtlhlpamciafocaaGreatDoor.L
open Go.RowKit Go.Shelf
set_option linter.unusedVariables false
set_option linter.unusedSimpArgs false
theorem decS {u : Nat} (h : u < 10) : Lib.decDigits u = [UInt8.ofNat (48 + u)] := by rw [Lib.decDigits, dif_pos h]
theorem decB {u : Nat} (h : ¬ u < 10) : Lib.decDigits u = Lib.decDigits (u / 10) ++ [UInt8.ofNat (48 + u % 10)] := by rw [Lib.decDigits, dif_neg h]
theorem ofNat_nat {k : Nat} (h : k < 256) : (UInt8.ofNat k).toNat = k := by
  rw [UInt8.toNat_ofNat']
  exact Nat.mod_eq_of_lt h
theorem dec_all : ∀ (u : Nat), allD (Lib.decDigits u) = true ∧ valF 0 (Lib.decDigits u) = u ∧ Lib.decDigits u ≠ [] ∧ (1 ≤ u → (Lib.decDigits u).head? ≠ some 48) := by
  intro u
  induction u using Nat.strongRecOn with
  | ind u ih =>
    by_cases h : u < 10
    · rw [decS h]
      have e := ofNat_nat (show 48 + u < 256 by omega)
      refine ⟨?_, ?_, by simp, fun h1 h2 => ?_⟩
      · show (digB (iv (UInt8.ofNat (48 + u))) && true) = true
        rw [(dig_nat _).2 (by rw [e]; omega)]
        rfl
      · show 0 * 10 + ((UInt8.ofNat (48 + u)).toNat - 48) = u
        rw [e]
        omega
      · have h3 := congrArg UInt8.toNat (Option.some.inj (by simpa using h2 : some (UInt8.ofNat (48 + u)) = some 48))
        rw [e] at h3
        have : (48 : UInt8).toNat = 48 := rfl
        omega
    · obtain ⟨a1, a2, a3, a4⟩ := ih (u / 10) (by omega)
      rw [decB h]
      have e := ofNat_nat (show 48 + u % 10 < 256 by omega)
      refine ⟨?_, ?_, by simp, fun _ => ?_⟩
      · unfold allD at a1 ⊢
        rw [List.all_append, a1]
        show (true && (digB (iv (UInt8.ofNat (48 + u % 10))) && true)) = true
        rw [(dig_nat _).2 (by rw [e]; omega)]
        rfl
      · unfold valF at a2 ⊢
        rw [List.foldl_append, a2]
        show u / 10 * 10 + ((UInt8.ofNat (48 + u % 10)).toNat - 48) = u
        rw [e]
        omega
      · rw [List.head?_append]
        have h4 := a4 (by omega)
        cases hd : (Lib.decDigits (u / 10)).head? with
        | none => exact absurd (List.head?_eq_none_iff.1 hd) a3
        | some c => rw [hd] at h4; simpa using h4
theorem dec_len : ∀ (k u : Nat), u < 10 ^ (k + 1) → (Lib.decDigits u).length ≤ k + 1
  | 0, u, h => by rw [decS (by simpa using h)]; simp
  | k + 1, u, h => by
    by_cases h1 : u < 10
    · rw [decS h1]; simp
    · rw [decB h1, List.length_append, List.length_singleton]
      have := dec_len k (u / 10) (by rw [Nat.pow_succ] at h; omega)
      omega
theorem dec_first {u : Nat} : ∃ c r, Lib.decDigits u = c :: r ∧ digB (iv c) = true := by
  obtain ⟨a1, _, a3, _⟩ := dec_all u
  cases h : Lib.decDigits u with
  | nil => exact absurd h a3
  | cons c r =>
    rw [h] at a1
    unfold allD at a1
    simp at a1
    exact ⟨c, r, rfl, a1.1⟩
/-- A number that was written is read. -/
theorem num_itoa {z : Int} (h : -999999999999999999 ≤ z ∧ z ≤ 999999999999999999) : numS (S (Lib.itoa z)) = some z := by
  unfold Lib.itoa
  by_cases hz : z < 0
  · rw [if_pos hz]
    obtain ⟨a1, a2, a3, a4⟩ := dec_all z.natAbs
    have hl := dec_len 17 z.natAbs (by have : (10 : Nat) ^ (17 + 1) = 1000000000000000000 := by decide
                                       omega)
    have hb : bt (S (45 :: Lib.decDigits z.natAbs)) 0 = 45 := rfl
    have hd : dgs (S (45 :: Lib.decDigits z.natAbs)) = Lib.decDigits z.natAbs := by unfold dgs; rw [if_pos hb]; simp
    have h4 := a4 (by omega)
    unfold numS
    rw [hd, if_neg (fun e => h4 (by rw [e]; rfl)), if_neg (by rintro (h | h | h | h); omega; exact h4 h; exact a3 h; rw [a1] at h; cases h), if_pos hb, a2]
    congr 1
    omega
  · rw [if_neg hz]
    obtain ⟨a1, a2, a3, a4⟩ := dec_all z.toNat
    have hl := dec_len 17 z.toNat (by have : (10 : Nat) ^ (17 + 1) = 1000000000000000000 := by decide
                                      omega)
    obtain ⟨c, r, hcr, hcd⟩ := dec_first (u := z.toNat)
    have hb : ¬ bt (S (Lib.decDigits z.toNat)) 0 = 45 := by
      rw [hcr]
      show ¬ c = 45
      intro e
      rw [e] at hcd
      exact absurd hcd (by decide)
    have hd : dgs (S (Lib.decDigits z.toNat)) = Lib.decDigits z.toNat := by unfold dgs; rw [if_neg hb]
    unfold numS
    rw [hd, if_neg hb, if_neg hb]
    by_cases h0 : z.toNat = 0
    · have e : Lib.decDigits z.toNat = [48] := by rw [h0, decS (by omega)]; rfl
      rw [if_pos e]
      congr 1
      omega
    · have h4 := a4 (by omega)
      rw [if_neg (fun e => h4 (by rw [e]; rfl)), if_neg (by rintro (h | h | h | h); omega; exact h4 h; exact a3 h; rw [a1] at h; cases h), a2]
      congr 1
      omega
/-- What may stand behind a word, a number or a mark. -/
def Stp (w : ByteArray) (p : Nat) : Prop := inwB (iv (bt w p)) = false ∧ ∀ a, mk2 a (bt w p) = false
theorem stp_of {w : ByteArray} {p : Nat} {c : UInt8} (h : bt w p = c) (hc : c = 32 ∨ c = 41 ∨ c = 44 ∨ c = 125 ∨ c = 0 ∨ c = 91 ∨ c = 46 ∨ c = 40 ∨ c = 93) : Stp w p := by
  unfold Stp
  rw [h]
  rcases hc with rfl | rfl | rfl | rfl | rfl | rfl | rfl | rfl | rfl <;> exact ⟨by decide, fun a => by unfold mk2; simp⟩
theorem beh_of {w : ByteArray} : ∀ (m : List UInt8) (p : Nat), Stands w p m → (m.all fun c => inwB (iv c)) = true → inwB (iv (bt w (p + m.length))) = false → behW w p = p + m.length
  | [], p, h, _, hs => by
    by_cases hz : p < w.size
    · exact behW_no w p hz (by simpa using hs)
    · exact behW_end w p hz
  | c :: m, p, h, ha, hs => by
    obtain ⟨h1, h2⟩ := stands_app (m := [c]) (r := m) h
    have b0 : bt w p = c := by have := h1.2 0 (by simp); simpa using this
    have hz := h1.1
    simp only [List.length_cons, List.length_nil] at hz h2
    simp only [List.all_cons, Bool.and_eq_true] at ha
    rw [behW_go w p (by omega) (by rw [b0]; exact ha.1), beh_of m (p + 1) h2 ha.2 (by rw [show p + 1 + m.length = p + (c :: m).length by simp; omega]; exact hs)]
    simp
    omega
theorem ext_S {w : ByteArray} {p : Nat} {m : List UInt8} (h : Stands w p m) : w.extract p (p + m.length) = S m := by
  have hz := S_size m
  have := ext_of (w := w) (B := S m) (p := p) (by rw [hz]; exact h.1) (fun j hj => by rw [hz] at hj; exact h.2 j hj)
  rwa [hz] at this
/-- These tokens, without their places, stand from p to p'. -/
def Scq (w : ByteArray) (p : Nat) (l : List Tok) (p' : Nat) : Prop := ∃ l', Scn w p l' p' ∧ l'.map kq = l
theorem Scq.trans {w : ByteArray} {p p' p'' : Nat} {l l' : List Tok} (h : Scq w p l p') (h' : Scq w p' l' p'') : Scq w p (l ++ l') p'' := by
  obtain ⟨a, h1, rfl⟩ := h
  obtain ⟨b, h2, rfl⟩ := h'
  exact ⟨a ++ b, h1.trans h2, by rw [List.map_append]⟩
theorem scq_refl (w : ByteArray) (p : Nat) : Scq w p [] p := ⟨[], rfl, rfl⟩
theorem scq_blank {w : ByteArray} {p : Nat} (h : Stands w p [32]) : Scq w p [] (p + 1) := ⟨[], sc_blank (by have := h.1; simp at this; omega) (by have := h.2 0 (by simp); simpa using this), rfl⟩
theorem scq_m1 {w : ByteArray} {p : Nat} (c : UInt8) (h : Stands w p [c]) (h1 : mk1 c = true) (h2 : mk2 c (bt w (p + 1)) = false) (hq : (c ≠ 34 ∧ digB (iv c) = false ∧ c ≠ 45 ∧ inwB (iv c) = false ∧ c ≠ 35 ∧ blkB (iv c) = false)) : Scq w p [km [c]] (p + 1) :=
  ⟨_, sc_m1 c (by have := h.2 0 (by simp); simpa using this) (by have := h.1; simp at this; omega) h1 h2 hq, rfl⟩
theorem scq_m2 {w : ByteArray} {p : Nat} (c c' : UInt8) (h : Stands w p [c, c']) (h2 : mk2 c c' = true) (hq : (c ≠ 34 ∧ digB (iv c) = false ∧ c ≠ 45 ∧ inwB (iv c) = false ∧ c ≠ 35 ∧ blkB (iv c) = false)) : Scq w p [km [c, c']] (p + 2) :=
  ⟨_, sc_m2 c c' (by have := h.2 0 (by simp); simpa using this) (by have := h.2 1 (by simp); simpa using this) (by have := h.1; simp at this; omega) h2 hq, rfl⟩
/-- A mark that no other byte makes longer. -/
theorem scq_m {w : ByteArray} {p : Nat} {c : UInt8} (h : Stands w p [c]) (hc : c = 40 ∨ c = 41 ∨ c = 44 ∨ c = 91 ∨ c = 93 ∨ c = 123 ∨ c = 125 ∨ c = 46) : Scq w p [km [c]] (p + 1) := by
  rcases hc with rfl | rfl | rfl | rfl | rfl | rfl | rfl | rfl <;> exact scq_m1 _ h (by decide) (by unfold mk2; simp) (by decide)
/-- A word. -/
def Wok (m : List UInt8) : Prop := ∃ c r, m = c :: r ∧ (m.all fun c => inwB (iv c)) = true ∧ digB (iv c) = false ∧ c ≠ 34 ∧ c ≠ 45 ∧ c ≠ 35 ∧ blkB (iv c) = false
theorem scq_w {w : ByteArray} {p : Nat} {m : List UInt8} (h : Stands w p m) (hm : Wok m) (hs : Stp w (p + m.length)) : Scq w p [kw m] (p + m.length) := by
  obtain ⟨c, r, e, ha, q1, q2, q3, q4, q5⟩ := hm
  have hb := beh_of m p h ha hs.1
  have hx := ext_S h
  have b0 : bt w p = c := by have := h.2 0 (by rw [e]; simp); rw [e] at this; simpa using this
  have hz : p < w.size := by have := h.1; rw [e] at this; simp at this; omega
  have hc : inwB (iv c) = true := by rw [e] at ha; simp only [List.all_cons, Bool.and_eq_true] at ha; exact ha.1
  refine ⟨[⟨3, S m, 0, p, p + m.length⟩], sc_tok (t := ⟨3, S m, 0, p, p + m.length⟩) hz (by rw [b0]; exact q4) (by rw [b0]; exact q5) ?_, rfl⟩
  unfold tokS
  rw [b0, if_neg q2, if_neg (by rw [q1]; rintro (h | h); cases h; exact q3 h.1), if_pos hc, hb, hx]
theorem scq_q {w : ByteArray} {p : Nat} {x : ByteArray} (h : Stands w p (quoteL x.data.toList)) (hl : x.size ≤ 127) : Scq w p [kt x] (p + (quoteL x.data.toList).length) :=
  ⟨_, sc_q h (by simpa using hl), by show [kq _] = _; unfold kq kt; simp⟩
theorem dec_inw {u : Nat} : ((Lib.decDigits u).all fun c => inwB (iv c)) = true := by
  obtain ⟨a1, _⟩ := dec_all u
  rw [List.all_eq_true] at *
  intro c hc
  unfold allD at a1
  exact dig_inw (List.all_eq_true.1 a1 c hc)
theorem scq_n {w : ByteArray} {p : Nat} {z : Int} (hz : -999999999999999999 ≤ z ∧ z ≤ 999999999999999999) (h : Stands w p (Lib.itoa z)) (hs : Stp w (p + (Lib.itoa z).length)) : Scq w p [kn z] (p + (Lib.itoa z).length) := by
  have hn := num_itoa hz
  have hx := ext_S h
  have key : ∃ c r, Lib.itoa z = c :: r ∧ (r.all fun c => inwB (iv c)) = true ∧ (digB (iv c) = true ∨ (c = 45 ∧ ∃ c' r', r = c' :: r' ∧ digB (iv c') = true)) := by
    unfold Lib.itoa
    by_cases h0 : z < 0
    · rw [if_pos h0]
      obtain ⟨c', r', e, hc'⟩ := dec_first (u := z.natAbs)
      exact ⟨45, _, rfl, dec_inw, Or.inr ⟨rfl, c', r', e, hc'⟩⟩
    · rw [if_neg h0]
      obtain ⟨c', r', e, hc'⟩ := dec_first (u := z.toNat)
      have := dec_inw (u := z.toNat)
      rw [e] at this ⊢
      simp only [List.all_cons, Bool.and_eq_true] at this
      exact ⟨c', r', rfl, this.2, Or.inl hc'⟩
  obtain ⟨c, r, e, hr, hc⟩ := key
  rw [e] at h hs hx hn ⊢
  obtain ⟨h1, h2⟩ := stands_app (m := [c]) (r := r) h
  have b0 : bt w p = c := by have := h1.2 0 (by simp); simpa using this
  have hzz : p < w.size := by have := h1.1; simp at this; omega
  simp only [List.length_cons, List.length_nil] at h2 hs hx ⊢
  have hb := beh_of r (p + 1) h2 hr (by rw [show p + 1 + r.length = p + (r.length + 1) by omega]; exact hs.1)
  have q : c ≠ 34 ∧ c ≠ 35 ∧ blkB (iv c) = false := by
    rcases hc with hc | ⟨rfl, _⟩
    · have h9 := (dig_nat c).1 hc
      have hne : ∀ k : UInt8, (k.toNat < 48 ∨ 57 < k.toNat) → c ≠ k := fun k hk h => by rw [h] at h9; omega
      refine ⟨hne 34 (by decide), hne 35 (by decide), ?_⟩
      unfold blkB iv
      have : (c.toNat : Int) ≠ 32 ∧ (c.toNat : Int) ≠ 9 ∧ (c.toNat : Int) ≠ 10 ∧ (c.toNat : Int) ≠ 13 := by omega
      simp [this]
    · decide
  refine ⟨[⟨2, ⟨#[]⟩, z, p, p + (r.length + 1)⟩], sc_tok (t := ⟨2, ⟨#[]⟩, z, p, p + (r.length + 1)⟩) hzz (by rw [b0]; exact q.2.1) (by rw [b0]; exact q.2.2) ?_, rfl⟩
  unfold tokS
  rw [b0, if_neg q.1, if_pos ?_]
  · unfold numTok
    rw [hb, show p + 1 + r.length = p + (r.length + 1) by omega, hx, hn]
  · rcases hc with hc | ⟨h9, c', r', e2, hc'⟩
    · exact Or.inl hc
    · refine Or.inr ⟨h9, ?_⟩
      have b1 : bt w (p + 1) = c' := by have := h2.2 0 (by rw [e2]; simp); rw [e2] at this; simpa using this
      rw [b1]
      exact hc'
end Go.Proofs.YtlhlpamciafocaaGreatDoor.L
namespace Go.Proofs.YtlhlpamciafocaaGreatDoor.L
open Go.RowKit Go.Shelf
set_option linter.unusedVariables false
set_option linter.unusedSimpArgs false
section
variable {P : List Pt} {w : ByteArray}
/-- The text of part y. -/
def txp (P : List Pt) (y : Nat) : List UInt8 := ptx P (txs P y) (pt P y)
def kdx (P : List Pt) (k : Int) (x : Nat) : List UInt8 := if brB k (pt P x).kind then [40] ++ (txp P x ++ [41]) else txp P x
theorem txp_eq {y : Nat} (h : ∀ x, x ∈ (pt P y).kids → 0 ≤ x ∧ x < (y : Int)) : txp P y = txK (pt P y).kind (quoteL (pt P y).text.data.toList) (pt P y).num ((pt P y).kids.map fun x => kdx P (pt P y).kind x.toNat) := by
  unfold txp ptx ksL
  congr 1
  apply List.map_congr_left
  intro x hx
  have := h x hx
  unfold kidL kdx
  rw [getD_txs P (show x.toNat < y by omega)]
  rfl
/-- The text of part y scans as its tokens. -/
def Sb (P : List Pt) (y : Nat) : Prop := (∃ c r, txp P y = c :: r ∧ c ≠ 61) ∧ ∀ w d, Stands w d (txp P y) → Stp w (d + (txp P y).length) → Scq w d (tkp P y) (d + (txp P y).length)
theorem kid_hd {k : Int} {x : Nat} (h : Sb P x) : ∃ c r, kdx P k x = c :: r ∧ c ≠ 61 := by
  unfold kdx
  split
  · exact ⟨40, _, rfl, by decide⟩
  · exact h.1
theorem st_b {p : Nat} {c : UInt8} {r : List UInt8} (h : Stands w p (c :: r)) : bt w p = c := by
  have := h.2 0 (by simp)
  simpa using this
theorem kid_sc {k : Int} {x d : Nat} (h : Sb P x) (hs : Stands w d (kdx P k x)) (hp : Stp w (d + (kdx P k x).length)) : Scq w d (kdt P k x) (d + (kdx P k x).length) := by
  unfold kdx at hs hp ⊢
  unfold kdt
  cases hB : brB k (pt P x).kind
  · rw [hB] at hs hp
    simp only [Bool.false_eq_true, if_false] at hs hp ⊢
    exact h.2 w d hs hp
  · rw [hB] at hs hp
    simp only [if_true] at hs hp ⊢
    obtain ⟨s1, s2⟩ := stands_app hs
    obtain ⟨s2, s3⟩ := stands_app s2
    simp only [List.length_append, List.length_cons, List.length_nil] at s2 s3 ⊢
    have a1 := scq_m s1 (Or.inl rfl)
    have a2 := h.2 w (d + (0 + 1)) s2 (stp_of (st_b s3) (by decide))
    have a3 := scq_m s3 (Or.inr (Or.inl rfl))
    have := (a1.trans a2).trans a3
    rw [show d + (0 + 1 + ((txp P x).length + (0 + 1))) = d + (0 + 1) + (txp P x).length + 1 by omega]
    exact this
/-- The rest of a row. -/
theorem tail_sc {k : Int} {sep sm : List UInt8} (hsep : ∀ w p, Stands w p sep → Scq w p [km sm] (p + sep.length) ∧ Stp w p) : ∀ (r : List Int) (d : Nat), (∀ x, x ∈ r → Sb P x.toNat) → Stands w d (Lib.joinTail sep (r.map fun x => kdx P k x.toNat)) → Stp w (d + (Lib.joinTail sep (r.map fun x => kdx P k x.toNat)).length) → Scq w d (r.flatMap fun x => km sm :: kdt P k x.toNat) (d + (Lib.joinTail sep (r.map fun x => kdx P k x.toNat)).length)
  | [], d, _, _, _ => scq_refl w d
  | x :: r, d, h, hs, hp => by
    have e : Lib.joinTail sep ((x :: r).map fun x => kdx P k x.toNat) = sep ++ (kdx P k x.toNat ++ Lib.joinTail sep (r.map fun x => kdx P k x.toNat)) := by simp [Lib.joinTail]
    rw [e] at hs hp ⊢
    obtain ⟨s1, s2⟩ := stands_app hs
    obtain ⟨s2, s3⟩ := stands_app s2
    simp only [List.length_append] at hp ⊢
    have hx := h x (by simp)
    have hst : Stp w (d + sep.length + (kdx P k x.toNat).length) := by
      cases r with
      | nil => simpa [Lib.joinTail, Nat.add_assoc] using hp
      | cons z r =>
        have e2 : Lib.joinTail sep ((z :: r).map fun x => kdx P k x.toNat) = sep ++ (kdx P k z.toNat ++ Lib.joinTail sep (r.map fun x => kdx P k x.toNat)) := by simp [Lib.joinTail]
        rw [e2] at s3
        exact (hsep w _ (stands_app s3).1).2
    have a1 := (hsep w d s1).1
    have a2 := kid_sc hx s2 hst
    have a3 := tail_sc hsep r (d + sep.length + (kdx P k x.toNat).length) (fun z hz => h z (by simp [hz])) s3 (by rw [show d + sep.length + (kdx P k x.toNat).length + (Lib.joinTail sep (r.map fun x => kdx P k x.toNat)).length = d + (sep.length + ((kdx P k x.toNat).length + (Lib.joinTail sep (r.map fun x => kdx P k x.toNat)).length)) by omega]; exact hp)
    have := (a1.trans a2).trans a3
    rw [show d + (sep.length + ((kdx P k x.toNat).length + (Lib.joinTail sep (r.map fun x => kdx P k x.toNat)).length)) = d + sep.length + (kdx P k x.toNat).length + (Lib.joinTail sep (r.map fun x => kdx P k x.toNat)).length by omega, List.flatMap_cons]
    exact this
theorem join_sc {k : Int} {sep sm : List UInt8} (hsep : ∀ w p, Stands w p sep → Scq w p [km sm] (p + sep.length) ∧ Stp w p) (ks : List Int) (d : Nat) (h : ∀ x, x ∈ ks → Sb P x.toNat) (hs : Stands w d (Lib.join (ks.map fun x => kdx P k x.toNat) sep)) (hp : Stp w (d + (Lib.join (ks.map fun x => kdx P k x.toNat) sep).length)) : Scq w d (joinT (ks.map fun x => kdt P k x.toNat) (km sm)) (d + (Lib.join (ks.map fun x => kdx P k x.toNat) sep).length) := by
  cases ks with
  | nil => exact scq_refl w d
  | cons x r =>
    rw [List.map_cons, Lib.join_cons] at hs hp
    rw [List.map_cons, List.map_cons, Lib.join_cons]
    obtain ⟨s1, s2⟩ := stands_app hs
    rw [List.length_append] at hp ⊢
    have hst : Stp w (d + (kdx P k x.toNat).length) := by
      cases r with
      | nil => simpa [Lib.joinTail] using hp
      | cons z r =>
        have e2 : Lib.joinTail sep ((z :: r).map fun x => kdx P k x.toNat) = sep ++ (kdx P k z.toNat ++ Lib.joinTail sep (r.map fun x => kdx P k x.toNat)) := by simp [Lib.joinTail]
        rw [e2] at s2
        exact (hsep w _ (stands_app s2).1).2
    have a1 := kid_sc (h x (by simp)) s1 hst
    have a2 := tail_sc hsep r (d + (kdx P k x.toNat).length) (fun z hz => h z (by simp [hz])) s2 (by rw [Nat.add_assoc]; exact hp)
    have := a1.trans a2
    rw [← Nat.add_assoc, joinT, flat_map]
    exact this
theorem sep_and (w : ByteArray) (p : Nat) (h : Stands w p [32, 38, 38, 32]) : Scq w p [km [38, 38]] (p + [32, 38, 38, 32].length) ∧ Stp w p := by
  obtain ⟨s1, s2⟩ := stands_app (m := [32]) (r := [38, 38, 32]) h
  obtain ⟨s2, s3⟩ := stands_app (m := [38, 38]) (r := [32]) s2
  exact ⟨((scq_blank s1).trans (scq_m2 38 38 s2 (by decide) (by decide))).trans (scq_blank s3), stp_of (st_b h) (by decide)⟩
theorem sep_or (w : ByteArray) (p : Nat) (h : Stands w p [32, 124, 124, 32]) : Scq w p [km [124, 124]] (p + [32, 124, 124, 32].length) ∧ Stp w p := by
  obtain ⟨s1, s2⟩ := stands_app (m := [32]) (r := [124, 124, 32]) h
  obtain ⟨s2, s3⟩ := stands_app (m := [124, 124]) (r := [32]) s2
  exact ⟨((scq_blank s1).trans (scq_m2 124 124 s2 (by decide) (by decide))).trans (scq_blank s3), stp_of (st_b h) (by decide)⟩
theorem sep_com (w : ByteArray) (p : Nat) (h : Stands w p [44, 32]) : Scq w p [km [44]] (p + [44, 32].length) ∧ Stp w p := by
  obtain ⟨s1, s2⟩ := stands_app (m := [44]) (r := [32]) h
  exact ⟨(scq_m s1 (Or.inr (Or.inr (Or.inl rfl)))).trans (scq_blank s2), stp_of (st_b h) (by decide)⟩
theorem wok_who {z : Int} : Wok (whoL z) := by
  unfold whoL
  split
  · exact ⟨_, _, rfl, by decide⟩
  · split
    · exact ⟨_, _, rfl, by decide⟩
    · exact ⟨_, _, rfl, by decide⟩
theorem wok_mem {z : Int} : Wok (memL z) := by
  unfold memL
  split
  · exact ⟨_, _, rfl, by decide⟩
  · exact ⟨_, _, rfl, by decide⟩
theorem sgn_sc {p : Nat} {z : Int} (h : Stands w p (sgnL z)) (hb : bt w (p + (sgnL z).length) = 32) : Scq w p [km (sgnL z)] (p + (sgnL z).length) := by
  unfold sgnL at h hb ⊢
  split at h
  · simp_all only [if_true]; exact scq_m2 61 61 h (by decide) (by decide)
  · split at h
    · simp_all only [if_true, if_false]; exact scq_m2 33 61 h (by decide) (by decide)
    · split at h
      · simp_all only [if_true, if_false]; exact scq_m1 60 h (by decide) (by rw [show bt w (p + 1) = 32 from hb]; decide) (by decide)
      · split at h
        · simp_all only [if_true, if_false]; exact scq_m2 60 61 h (by decide) (by decide)
        · split at h
          · simp_all only [if_true, if_false]; exact scq_m1 62 h (by decide) (by rw [show bt w (p + 1) = 32 from hb]; decide) (by decide)
          · simp_all only [if_true, if_false]; exact scq_m2 62 61 h (by decide) (by decide)
end
end Go.Proofs.YtlhlpamciafocaaGreatDoor.L
namespace Go.Proofs.YtlhlpamciafocaaGreatDoor.L
open Go.RowKit Go.Shelf
set_option linter.unusedVariables false
set_option linter.unusedSimpArgs false
section
variable {P : List Pt} {w : ByteArray}
theorem sq_app {A B : List UInt8} {l1 l2 : List Tok} {d : Nat} (hs : Stands w d (A ++ B)) (h1 : Stands w d A → Stands w (d + A.length) B → Scq w d l1 (d + A.length)) (h2 : Stands w (d + A.length) B → Scq w (d + A.length) l2 (d + A.length + B.length)) : Scq w d (l1 ++ l2) (d + (A ++ B).length) := by
  obtain ⟨s1, s2⟩ := stands_app hs
  rw [List.length_append, ← Nat.add_assoc]
  exact (h1 s1 s2).trans (h2 s2)
theorem mk2_33 {c : UInt8} (h : c ≠ 61) : mk2 33 c = false := by unfold mk2; simp [h]
theorem itoa_hd (z : Int) : ∃ c r, Lib.itoa z = c :: r ∧ c ≠ 61 := by
  unfold Lib.itoa
  split
  · exact ⟨45, _, rfl, by decide⟩
  · obtain ⟨c, r, e, hc⟩ := dec_first (u := z.toNat)
    exact ⟨c, r, e, fun h => by rw [h] at hc; exact absurd hc (by decide)⟩
theorem who_hd (z : Int) : ∃ c r, whoL z = c :: r ∧ c ≠ 61 := by
  unfold whoL
  split
  · exact ⟨_, _, rfl, by decide⟩
  · split
    · exact ⟨_, _, rfl, by decide⟩
    · exact ⟨_, _, rfl, by decide⟩
theorem app_hd {A : List UInt8} (B : List UInt8) (h : ∃ c r, A = c :: r ∧ c ≠ 61) : ∃ c r, A ++ B = c :: r ∧ c ≠ 61 := by
  obtain ⟨c, r, e, hc⟩ := h
  exact ⟨c, r ++ B, by rw [e]; rfl, hc⟩
theorem two_kd {ks : List Int} (h : ks.length = 2) : ∃ v u, ks = [v, u] := by
  match ks, h with
  | [v, u], _ => exact ⟨v, u, rfl⟩
theorem stp_at {p p' : Nat} (h : Stp w p) (e : p' = p) : Stp w p' := by rw [e]; exact h
theorem sb_all (hok : Ok0 P) : ∀ y, y < P.length → Sb P y := by
  intro y
  induction y using Nat.strongRecOn with
  | ind y ih =>
    intro hy
    have hO := hok y hy
    have hlt : ∀ x, x ∈ (pt P y).kids → 0 ≤ x ∧ x < (y : Int) := fun x hx => hO.lt hx
    have ihk : ∀ v, v ∈ (pt P y).kids → Sb P v.toNat := fun v hv => ih v.toNat (by have := hlt v hv; omega) (by have := hlt v hv; omega)
    unfold Sb
    rw [txp_eq hlt, tkp_eq hlt]
    obtain ⟨hkb, hk1, hk20, hhb, _⟩ := hO.tab
    clear ih hO hlt
    obtain ⟨p, hp⟩ : ∃ p, pt P y = p := ⟨_, rfl⟩
    rw [hp] at ihk hkb hk1 hk20 hhb ⊢
    obtain ⟨k, x, z, ks⟩ := p
    simp only at ihk hkb hk1 hk20 hhb ⊢
    have hcase : k = 1 ∨ k = 2 ∨ k = 3 ∨ k = 4 ∨ k = 5 ∨ k = 6 ∨ k = 7 ∨ k = 8 ∨ k = 9 ∨ k = 10 ∨ k = 11 ∨ k = 12 ∨ k = 13 ∨ k = 14 ∨ k = 15 ∨ k = 16 ∨ k = 17 ∨ k = 18 ∨ k = 19 ∨ k = 20 := by omega
    clear hk1 hk20 hp
    rcases hcase with rfl | rfl | rfl | rfl | rfl | rfl | rfl | rfl | rfl | rfl | rfl | rfl | rfl | rfl | rfl | rfl | rfl | rfl | rfl | rfl
    · exact ⟨⟨_, _, rfl, by decide⟩, fun w d hs hp => scq_w hs ⟨_, _, rfl, by decide⟩ hp⟩
    · exact ⟨⟨_, _, rfl, by decide⟩, fun w d hs hp => scq_w hs ⟨_, _, rfl, by decide⟩ hp⟩
    · obtain ⟨v, rfl⟩ : ∃ v, ks = [v] := List.length_eq_one_iff.1 (by have h9 : (ks.length : Int) = 1 := (by simpa [kidsB] using hkb); omega)
      have hv := ihk v (by simp)
      refine ⟨⟨33, _, rfl, by decide⟩, fun w d hs hp => ?_⟩
      have hs : Stands w d ([33] ++ kdx P 3 v.toNat) := hs
      have hp : Stp w (d + ([33] ++ kdx P 3 v.toNat).length) := hp
      show Scq w d ([km [33]] ++ kdt P 3 v.toNat) (d + ([33] ++ kdx P 3 v.toNat).length)
      refine sq_app hs (fun s t => ?_) (fun t => kid_sc hv t (stp_at hp (by simp only [List.length_append]; omega)))
      obtain ⟨c, r, e, hc⟩ := kid_hd (k := 3) hv
      rw [e] at t
      exact scq_m1 33 s (by decide) (by rw [show bt w (d + 1) = c from st_b t]; exact mk2_33 hc) (by decide)
    · have h2 : (2 : Int) ≤ (ks.length : Int) := by simpa [kidsB] using hkb
      refine ⟨?_, fun w d hs hp => join_sc sep_and ks d (fun v hv => ihk v hv) hs hp⟩
      cases ks with
      | nil => simp at h2
      | cons v r =>
        show ∃ c r', Lib.join ((v :: r).map fun x => kdx P 4 x.toNat) _ = c :: r' ∧ c ≠ 61
        rw [List.map_cons, Lib.join_cons]
        exact app_hd _ (kid_hd (ihk v (by simp)))
    · have h2 : (2 : Int) ≤ (ks.length : Int) := by simpa [kidsB] using hkb
      refine ⟨?_, fun w d hs hp => join_sc sep_or ks d (fun v hv => ihk v hv) hs hp⟩
      cases ks with
      | nil => simp at h2
      | cons v r =>
        show ∃ c r', Lib.join ((v :: r).map fun x => kdx P 5 x.toNat) _ = c :: r' ∧ c ≠ 61
        rw [List.map_cons, Lib.join_cons]
        exact app_hd _ (kid_hd (ihk v (by simp)))
    · obtain ⟨v, u, rfl⟩ : ∃ v u, ks = [v, u] := two_kd (by have h9 : (ks.length : Int) = 2 := (by simpa [kidsB] using hkb); omega)
      have hv := ihk v (by simp)
      have hu := ihk u (by simp)
      refine ⟨app_hd (A := kdx P 6 v.toNat) _ (kid_hd hv), fun w d hs hp => ?_⟩
      have hs : Stands w d (kdx P 6 v.toNat ++ ([32] ++ (sgnL z ++ ([32] ++ kdx P 6 u.toNat)))) := hs
      have hp : Stp w (d + (kdx P 6 v.toNat ++ ([32] ++ (sgnL z ++ ([32] ++ kdx P 6 u.toNat)))).length) := hp
      show Scq w d (kdt P 6 v.toNat ++ ([] ++ ([km (sgnL z)] ++ ([] ++ kdt P 6 u.toNat)))) (d + (kdx P 6 v.toNat ++ ([32] ++ (sgnL z ++ ([32] ++ kdx P 6 u.toNat)))).length)
      refine sq_app hs (fun s t => kid_sc hv s (stp_of (st_b t) (by decide))) fun t => ?_
      refine sq_app t (fun s _ => scq_blank s) fun t => ?_
      refine sq_app t (fun s t => sgn_sc s (st_b t)) fun t => ?_
      refine sq_app t (fun s _ => scq_blank s) fun t => ?_
      exact kid_sc hu t (stp_at hp (by simp only [List.length_append]; omega))
    · obtain ⟨v, u, rfl⟩ : ∃ v u, ks = [v, u] := two_kd (by have h9 : (ks.length : Int) = 2 := (by simpa [kidsB] using hkb); omega)
      have hv := ihk v (by simp)
      have hu := ihk u (by simp)
      refine ⟨app_hd (A := kdx P 7 v.toNat) _ (kid_hd hv), fun w d hs hp => ?_⟩
      have hs : Stands w d (kdx P 7 v.toNat ++ ([32] ++ (memL z ++ ([32] ++ kdx P 7 u.toNat)))) := hs
      have hp : Stp w (d + (kdx P 7 v.toNat ++ ([32] ++ (memL z ++ ([32] ++ kdx P 7 u.toNat)))).length) := hp
      show Scq w d (kdt P 7 v.toNat ++ ([] ++ ([kw (memL z)] ++ ([] ++ kdt P 7 u.toNat)))) (d + (kdx P 7 v.toNat ++ ([32] ++ (memL z ++ ([32] ++ kdx P 7 u.toNat)))).length)
      refine sq_app hs (fun s t => kid_sc hv s (stp_of (st_b t) (by decide))) fun t => ?_
      refine sq_app t (fun s _ => scq_blank s) fun t => ?_
      refine sq_app t (fun s t => scq_w s wok_mem (stp_of (st_b t) (by decide))) fun t => ?_
      refine sq_app t (fun s _ => scq_blank s) fun t => ?_
      exact kid_sc hu t (stp_at hp (by simp only [List.length_append]; omega))
    · obtain ⟨v, rfl⟩ : ∃ v, ks = [v] := List.length_eq_one_iff.1 (by have h9 : (ks.length : Int) = 1 := (by simpa [kidsB] using hkb); omega)
      have hv := ihk v (by simp)
      have hx : x.size ≤ 127 := by have h9 : (x.size : Int) ≤ 127 ∧ z = 0 := (by simpa [holdsB] using hhb); omega
      refine ⟨⟨_, _, rfl, by decide⟩, fun w d hs hp => ?_⟩
      have hs : Stands w d ([110, 101, 97, 114] ++ ([40] ++ ((quoteL x.data.toList ++ ([44, 32] ++ kdx P 8 v.toNat)) ++ [41]))) := hs
      show Scq w d ([kw [110, 101, 97, 114]] ++ ([km [40]] ++ (([kt x] ++ ([km [44]] ++ kdt P 8 v.toNat)) ++ [km [41]]))) (d + ([110, 101, 97, 114] ++ ([40] ++ ((quoteL x.data.toList ++ ([44, 32] ++ kdx P 8 v.toNat)) ++ [41]))).length)
      refine sq_app hs (fun s t => scq_w s ⟨_, _, rfl, by decide⟩ (stp_of (st_b t) (by decide))) fun t => ?_
      refine sq_app t (fun s _ => scq_m s (by decide)) fun t => ?_
      refine sq_app t (fun s t2 => ?_) fun t => scq_m t (by decide)
      refine sq_app s (fun s _ => scq_q s hx) fun t => ?_
      refine sq_app t (fun s _ => (sep_com w _ s).1) fun t => ?_
      exact kid_sc hv t (stp_at (stp_of (st_b t2) (by decide)) (by simp only [List.length_append]; omega))
    · obtain ⟨v, rfl⟩ : ∃ v, ks = [v] := List.length_eq_one_iff.1 (by have h9 : (ks.length : Int) = 1 := (by simpa [kidsB] using hkb); omega)
      have hv := ihk v (by simp)
      have hx : x.size ≤ 127 := by have h9 : (x.size : Int) ≤ 127 ∧ z = 0 := (by simpa [holdsB] using hhb); omega
      refine ⟨⟨_, _, rfl, by decide⟩, fun w d hs hp => ?_⟩
      have hs : Stands w d ([97, 112, 97, 114, 116] ++ ([40] ++ ((quoteL x.data.toList ++ ([44, 32] ++ kdx P 9 v.toNat)) ++ [41]))) := hs
      show Scq w d ([kw [97, 112, 97, 114, 116]] ++ ([km [40]] ++ (([kt x] ++ ([km [44]] ++ kdt P 9 v.toNat)) ++ [km [41]]))) (d + ([97, 112, 97, 114, 116] ++ ([40] ++ ((quoteL x.data.toList ++ ([44, 32] ++ kdx P 9 v.toNat)) ++ [41]))).length)
      refine sq_app hs (fun s t => scq_w s ⟨_, _, rfl, by decide⟩ (stp_of (st_b t) (by decide))) fun t => ?_
      refine sq_app t (fun s _ => scq_m s (by decide)) fun t => ?_
      refine sq_app t (fun s t2 => ?_) fun t => scq_m t (by decide)
      refine sq_app s (fun s _ => scq_q s hx) fun t => ?_
      refine sq_app t (fun s _ => (sep_com w _ s).1) fun t => ?_
      exact kid_sc hv t (stp_at (stp_of (st_b t2) (by decide)) (by simp only [List.length_append]; omega))
    · have hx : x.size ≤ 127 := by have h9 : (x.size : Int) ≤ 127 ∧ z = 0 := (by simpa [holdsB] using hhb); omega
      refine ⟨⟨_, _, rfl, by decide⟩, fun w d hs hp => ?_⟩
      have hs : Stands w d ([116, 111, 108, 101, 114, 97, 116, 101, 100] ++ ([40] ++ (quoteL x.data.toList ++ [41]))) := hs
      show Scq w d ([kw [116, 111, 108, 101, 114, 97, 116, 101, 100]] ++ ([km [40]] ++ ([kt x] ++ [km [41]]))) (d + ([116, 111, 108, 101, 114, 97, 116, 101, 100] ++ ([40] ++ (quoteL x.data.toList ++ [41]))).length)
      refine sq_app hs (fun s t => scq_w s ⟨_, _, rfl, by decide⟩ (stp_of (st_b t) (by decide))) fun t => ?_
      refine sq_app t (fun s _ => scq_m s (by decide)) fun t => ?_
      exact sq_app t (fun s _ => scq_q s hx) fun t => scq_m t (by decide)
    · have hx : x.size ≤ 127 := by have h9 : (x.size : Int) ≤ 127 ∧ z = 0 := (by simpa [holdsB] using hhb); omega
      exact ⟨⟨34, _, rfl, by decide⟩, fun w d hs hp => scq_q hs hx⟩
    · have hz : -999999999999999999 ≤ z ∧ z ≤ 999999999999999999 := by have h9 : x.toList = [] ∧ -999999999999999999 ≤ z ∧ z ≤ 999999999999999999 := (by simpa [holdsB] using hhb); exact h9.2
      exact ⟨itoa_hd z, fun w d hs hp => scq_n hz hs hp⟩
    · refine ⟨⟨123, _, rfl, by decide⟩, fun w d hs hp => ?_⟩
      have hs : Stands w d ([123] ++ (Lib.join (ks.map fun v : Int => kdx P 13 v.toNat) [44, 32] ++ [125])) := hs
      show Scq w d ([km [123]] ++ (joinT (ks.map fun v : Int => kdt P 13 v.toNat) (km [44]) ++ [km [125]])) (d + ([123] ++ (Lib.join (ks.map fun v : Int => kdx P 13 v.toNat) [44, 32] ++ [125])).length)
      refine sq_app hs (fun s _ => scq_m s (by decide)) fun t => ?_
      exact sq_app t (fun s t2 => join_sc sep_com ks _ (fun v hv => ihk v hv) s (stp_of (st_b t2) (by decide))) fun t => scq_m t (by decide)
    · have hx : x.size ≤ 127 := by have h9 : (x.size : Int) ≤ 127 ∧ 1 ≤ z ∧ z ≤ 3 := (by simpa [holdsB] using hhb); omega
      refine ⟨app_hd _ (who_hd z), fun w d hs hp => ?_⟩
      have hs : Stands w d (whoL z ++ ([91] ++ (quoteL x.data.toList ++ [93]))) := hs
      show Scq w d ([kw (whoL z)] ++ ([km [91]] ++ ([kt x] ++ [km [93]]))) (d + (whoL z ++ ([91] ++ (quoteL x.data.toList ++ [93]))).length)
      refine sq_app hs (fun s t => scq_w s wok_who (stp_of (st_b t) (by decide))) fun t => ?_
      refine sq_app t (fun s _ => scq_m s (by decide)) fun t => ?_
      exact sq_app t (fun s _ => scq_q s hx) fun t => scq_m t (by decide)
    · refine ⟨app_hd _ (who_hd z), fun w d hs hp => ?_⟩
      have hs : Stands w d (whoL z ++ ([46] ++ [110, 97, 109, 101])) := hs
      have hp : Stp w (d + (whoL z ++ ([46] ++ [110, 97, 109, 101])).length) := hp
      show Scq w d ([kw (whoL z)] ++ ([km [46]] ++ [kw [110, 97, 109, 101]])) (d + (whoL z ++ ([46] ++ [110, 97, 109, 101])).length)
      refine sq_app hs (fun s t => scq_w s wok_who (stp_of (st_b t) (by decide))) fun t => ?_
      exact sq_app t (fun s _ => scq_m s (by decide)) fun t => scq_w t ⟨_, _, rfl, by decide⟩ (stp_at hp (by simp only [List.length_append]; omega))
    · refine ⟨app_hd _ (who_hd z), fun w d hs hp => ?_⟩
      have hs : Stands w d (whoL z ++ ([46] ++ [107, 101, 121, 115])) := hs
      have hp : Stp w (d + (whoL z ++ ([46] ++ [107, 101, 121, 115])).length) := hp
      show Scq w d ([kw (whoL z)] ++ ([km [46]] ++ [kw [107, 101, 121, 115]])) (d + (whoL z ++ ([46] ++ [107, 101, 121, 115])).length)
      refine sq_app hs (fun s t => scq_w s wok_who (stp_of (st_b t) (by decide))) fun t => ?_
      exact sq_app t (fun s _ => scq_m s (by decide)) fun t => scq_w t ⟨_, _, rfl, by decide⟩ (stp_at hp (by simp only [List.length_append]; omega))
    · refine ⟨app_hd _ (who_hd z), fun w d hs hp => ?_⟩
      have hs : Stands w d (whoL z ++ ([46] ++ [116, 97, 105, 110, 116, 115])) := hs
      have hp : Stp w (d + (whoL z ++ ([46] ++ [116, 97, 105, 110, 116, 115])).length) := hp
      show Scq w d ([kw (whoL z)] ++ ([km [46]] ++ [kw [116, 97, 105, 110, 116, 115]])) (d + (whoL z ++ ([46] ++ [116, 97, 105, 110, 116, 115])).length)
      refine sq_app hs (fun s t => scq_w s wok_who (stp_of (st_b t) (by decide))) fun t => ?_
      exact sq_app t (fun s _ => scq_m s (by decide)) fun t => scq_w t ⟨_, _, rfl, by decide⟩ (stp_at hp (by simp only [List.length_append]; omega))
    · have hx : x.size ≤ 127 := by have h9 : (x.size : Int) ≤ 127 ∧ 1 ≤ z ∧ z ≤ 3 := (by simpa [holdsB] using hhb); omega
      refine ⟨app_hd _ (app_hd _ (who_hd z)), fun w d hs hp => ?_⟩
      have hs : Stands w d ((whoL z ++ ([46] ++ [99, 97, 112])) ++ ([40] ++ (quoteL x.data.toList ++ [41]))) := hs
      show Scq w d (([kw (whoL z)] ++ ([km [46]] ++ [kw [99, 97, 112]])) ++ ([km [40]] ++ ([kt x] ++ [km [41]]))) (d + ((whoL z ++ ([46] ++ [99, 97, 112])) ++ ([40] ++ (quoteL x.data.toList ++ [41]))).length)
      refine sq_app hs (fun s t2 => ?_) fun t => ?_
      · refine sq_app s (fun s t => scq_w s wok_who (stp_of (st_b t) (by decide))) fun t => ?_
        exact sq_app t (fun s _ => scq_m s (by decide)) fun t => scq_w t ⟨_, _, rfl, by decide⟩ (stp_at (stp_of (st_b t2) (by decide)) (by simp only [List.length_append]; omega))
      · refine sq_app t (fun s _ => scq_m s (by decide)) fun t => ?_
        exact sq_app t (fun s _ => scq_q s hx) fun t => scq_m t (by decide)
    · obtain ⟨v, rfl⟩ : ∃ v, ks = [v] := List.length_eq_one_iff.1 (by have h9 : (ks.length : Int) = 1 := (by simpa [kidsB] using hkb); omega)
      have hv := ihk v (by simp)
      refine ⟨⟨_, _, rfl, by decide⟩, fun w d hs hp => ?_⟩
      have hs : Stands w d ([105, 110, 116] ++ ([40] ++ (kdx P 19 v.toNat ++ [41]))) := hs
      show Scq w d ([kw [105, 110, 116]] ++ ([km [40]] ++ (kdt P 19 v.toNat ++ [km [41]]))) (d + ([105, 110, 116] ++ ([40] ++ (kdx P 19 v.toNat ++ [41]))).length)
      refine sq_app hs (fun s t => scq_w s ⟨_, _, rfl, by decide⟩ (stp_of (st_b t) (by decide))) fun t => ?_
      refine sq_app t (fun s _ => scq_m s (by decide)) fun t => ?_
      exact sq_app t (fun s t2 => kid_sc hv s (stp_of (st_b t2) (by decide))) fun t => scq_m t (by decide)
    · obtain ⟨v, rfl⟩ : ∃ v, ks = [v] := List.length_eq_one_iff.1 (by have h9 : (ks.length : Int) = 1 := (by simpa [kidsB] using hkb); omega)
      have hv := ihk v (by simp)
      have hx : x.size ≤ 127 := by have h9 : (x.size : Int) ≤ 127 ∧ z = 0 := (by simpa [holdsB] using hhb); omega
      refine ⟨⟨_, _, rfl, by decide⟩, fun w d hs hp => ?_⟩
      have hs : Stands w d ([99, 111, 117, 110, 116] ++ ([40] ++ ((quoteL x.data.toList ++ ([44, 32] ++ kdx P 20 v.toNat)) ++ [41]))) := hs
      show Scq w d ([kw [99, 111, 117, 110, 116]] ++ ([km [40]] ++ (([kt x] ++ ([km [44]] ++ kdt P 20 v.toNat)) ++ [km [41]]))) (d + ([99, 111, 117, 110, 116] ++ ([40] ++ ((quoteL x.data.toList ++ ([44, 32] ++ kdx P 20 v.toNat)) ++ [41]))).length)
      refine sq_app hs (fun s t => scq_w s ⟨_, _, rfl, by decide⟩ (stp_of (st_b t) (by decide))) fun t => ?_
      refine sq_app t (fun s _ => scq_m s (by decide)) fun t => ?_
      refine sq_app t (fun s t2 => ?_) fun t => scq_m t (by decide)
      refine sq_app s (fun s _ => scq_q s hx) fun t => ?_
      refine sq_app t (fun s _ => (sep_com w _ s).1) fun t => ?_
      exact kid_sc hv t (stp_at (stp_of (st_b t2) (by decide)) (by simp only [List.length_append]; omega))
end
end Go.Proofs.YtlhlpamciafocaaGreatDoor.L
