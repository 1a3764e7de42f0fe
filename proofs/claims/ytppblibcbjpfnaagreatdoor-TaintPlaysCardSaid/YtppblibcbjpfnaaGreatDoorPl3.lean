import Derived.Test.YtppblibcbjpfnaaGreatDoorPl1
namespace Go.Proofs.YtppblibcbjpfnaaGreatDoor.L
open Go.RowKit
set_option linter.unusedVariables false
set_option linter.unusedSimpArgs false
theorem two_make {l l1 l2 : List Tn} {a1 e1 a2 e2 : Int} {w1 w2 : World} {v1 v2 : Value} (hb : Below w1.heap.size w1 w2) (m1 : MkR l a1 e1) (m2 : MkR l a2 e2)
    (h1 : (e1 ≠ 0 ∧ (0 < e1 ∧ e1 ≤ 1000) ∧ v1 = .slice none 0 0 ∧ (0 ≤ a1 ∧ a1 ≤ l.length) ∧ ¬ OkT l) ∨ (e1 = 0 ∧ a1 = 0 ∧ CameT w1 v1 l1 ∧ SortedT l l1 ∧ OkT l)) (h2 : (e2 ≠ 0 ∧ v2 = .slice none 0 0) ∨ (e2 = 0 ∧ ItemsG 3 tf w2 v2 l2 ∧ l2.Perm l ∧ Up l2)) :
    ∃ ll, ll.length ≤ maxLen ∧ ItemsG 3 tf w2 v1 ll ∧ ItemsG 3 tf w2 v2 ll := by
  obtain ⟨rfl, rfl⟩ := mk_one m1 m2
  rcases h1 with ⟨h, _, rfl, _⟩ | ⟨h, _, c1, s1, ok⟩
  · rcases h2 with ⟨_, rfl⟩ | ⟨h', _⟩
    · exact ⟨[], Nat.zero_le _, items_nil _, items_nil _⟩
    · exact absurd h' h
  · rcases h2 with ⟨h', _⟩ | ⟨_, c2, s2, u2⟩
    · exact absurd h h'
    · have e : l1 = l2 := perm_up (sorted_up s1 ok.dist) u2 (s1.1.trans s2.symm)
      subst e
      exact ⟨l1, by rw [s2.length_eq]; exact Nat.le_trans ok.len (by decide), (c1.low hb).items, c2⟩
def PuA (l : List Tn) (t : Tn) (w' : World) (v' : Value) (l' : List Tn) (er : Int) : Prop := (er ≠ 0 ∧ ChR l er ∧ v' = .slice none 0 0) ∨ (OkUp l ∧ PutR (tE t) t (dels l t.1 t.2.2) w' v' l' er)
theorem put_all (v : Value) (l : List Tn) (t : Tn) (w : World) (hc : CameT w v l) (hg : GoodT l) (ht : t.1.size ≤ maxLen ∧ t.2.1.size ≤ maxLen ∧ t.2.2.size ≤ maxLen) : Calls Tryz.prog 31 #[v, tv t] w fun e w' => ∃ v' l' er, e = .returned (.tuple #[v', .int .i64 er]) ∧ Below w.heap.size w w' ∧ (0 ≤ er ∧ er ≤ 1000) ∧ PuA l t w' v' l' er := by
  by_cases ho : OkUp l
  · refine (put_any v l t w hc hg ho ht).mono ?_
    rintro e w' ⟨v', l', er, rfl, hb, hp⟩
    refine ⟨v', l', er, rfl, hb, ?_, Or.inr ⟨ho, hp⟩⟩
    rcases hp with ⟨_, rfl, _⟩ | ⟨_, _, rfl, _⟩ | ⟨_, _, rfl, _⟩
    · exact tE_range _
    · decide
    · decide
  · refine (put_no v l t w hc hg ho).mono ?_
    rintro e w' ⟨er, rfl, hb, hn, hr, hch⟩
    exact ⟨_, [], er, rfl, hb, hr, Or.inl ⟨hn, hch, rfl⟩⟩
theorem dels_not {l : List Tn} {t x : Tn} (hx : x ∈ dels l t.1 t.2.2) : ¬ sameK x t := fun h => by
  have := (List.mem_filter.1 hx).2
  rw [isK_iff.2 ⟨h.1, h.2⟩] at this
  cases this
def PuB (l : List Tn) (t : Tn) (w' : World) (v' : Value) (er : Int) : Prop := (er ≠ 0 ∧ ChR l er ∧ v' = .slice none 0 0) ∨ (OkUp l ∧ PQ (tE t) (dels l t.1 t.2.2) (insT (dels l t.1 t.2.2) t) w' v' er)
theorem two_put {l l1 : List Tn} {t : Tn} {e1 e2 : Int} {w1 w2 : World} {v1 v2 : Value} (hb : Below w1.heap.size w1 w2) (h1 : PuA l t w1 v1 l1 e1) (h2 : PuB l t w2 v2 e2) :
    e1 = e2 ∧ ∃ ll, ll.length ≤ maxLen ∧ ItemsG 3 tf w2 v1 ll ∧ ItemsG 3 tf w2 v2 ll := by
  have nn : ∃ ll : List Tn, ll.length ≤ maxLen ∧ ItemsG 3 tf w2 (.slice none 0 0) ll ∧ ItemsG 3 tf w2 (.slice none 0 0) ll := ⟨[], Nat.zero_le _, items_nil _, items_nil _⟩
  rcases h1 with ⟨n1, c1, rfl⟩ | ⟨ok, p1⟩ <;> rcases h2 with ⟨n2, c2, rfl⟩ | ⟨ok', p2⟩
  · exact ⟨ch_one c1 c2, nn⟩
  · exact absurd (chr_no c1 ok') n1
  · exact absurd (chr_no c2 ok) n2
  · rcases p1 with ⟨g1, rfl, rfl⟩ | ⟨g1, d1, rfl, rfl⟩ | ⟨g1, d1, rfl, cc, ss⟩ <;> rcases p2 with ⟨g2, rfl, rfl⟩ | ⟨g2, d2, rfl, rfl⟩ | ⟨g2, d2, rfl, ii⟩
    · exact ⟨rfl, nn⟩
    · exact absurd g2 g1
    · exact absurd g2 g1
    · exact absurd g1 g2
    · exact ⟨rfl, nn⟩
    · exact absurd d1 d2
    · exact absurd g1 g2
    · exact absurd d2 d1
    · have hu := ins_up (dels_up ok.up t.1 t.2.2) (fun x hx => dels_not hx)
      have hp := ins_perm (dels l t.1 t.2.2) t
      have hd : Di (dels l t.1 t.2.2 ++ [t]) := di_perm hp.symm (up_di hu)
      have e : l1 = insT (dels l t.1 t.2.2) t := perm_up (sorted_up ss hd) hu (ss.1.trans hp.symm)
      subst e
      refine ⟨rfl, _, ?_, (cc.low hb).items, ii⟩
      rw [hp.length_eq, List.length_append]
      have h3 := dels_len l t.1 t.2.2
      have h4 := ok.len
      unfold maxLen
      simp
      omega
set_option maxHeartbeats 4000000 in
set_option maxRecDepth 100000 in
theorem list_make (t0 t1 t2 o0 o1 o2 o3 s ky : ByteArray) (vL vO : Value) (l : List Tn) (w : World) (hL : CameT w vL l) (hg : GoodT l) :
    Calls Tryz.prog 6 #[.agg #[.int .i64 8, .string t0, .string t1, .string t2, .string o0, .string o1, .string o2, .string o3, .string s, .string ky, vL, vO]] w fun e w' => e = .returned (.bool true) ∧ Below w.heap.size w w' := by
  have CP := hid (fun W (hb : Below w.heap.size w W) => taints_any vL l W (hL.low hb) hg)
  have F1 := hid (fun W v (hc : CameT W v l) => make_any v l W hc hg)
  have F2 := hid (fun W (hb : Below w.heap.size w W) => qmake_any vL l W (hL.low hb).items hg)
  obtain ⟨aL, cL, rfl, -⟩ := hL.items
  clear hL hg
  go_enter Tryz.func6, Tryz.ntmps6
  go_wp2_with fail
  have B0 := hid (show Below w.heap.size w (w.alloc (.cells #[.int .i64 8, .string t0, .string t1, .string t2, .string o0, .string o1, .string o2, .string o3, .string s, .string ky, .slice aL l.length cL, vO] 31)) from belowA _ _)
  have Z0 := hid (show w.heap.size < (w.alloc (.cells #[.int .i64 8, .string t0, .string t1, .string t2, .string o0, .string o1, .string o2, .string o3, .string s, .string ky, .slice aL l.length cL, vO] 31)).heap.size by simp)
  have E0 := hid (cells_at w #[.int .i64 8, .string t0, .string t1, .string t2, .string o0, .string o1, .string o2, .string o3, .string s, .string ky, .slice aL l.length cL, vO] 31)
  generalize w.alloc (.cells #[.int .i64 8, .string t0, .string t1, .string t2, .string o0, .string o1, .string o2, .string o3, .string s, .string ky, .slice aL l.length cL, vO] 31) = w0 at *
  refine (CP.out _ B0.out).mono ?_
  rintro e w1 ⟨v1, rfl, hc1, hb1⟩
  have B1 := hid (w_bel B0.out hb1)
  have E1 := hid (box_low E0.out hb1 Z0.out)
  have Z1 := hid (Nat.lt_of_lt_of_le Z0.out hb1.size)
  have HC1 := hid (ownG_came hc1)
  clear hc1
  clear hb1
  go_wp2_with fail
  refine (F1.out _ _ HC1.out).mono ?_
  rintro e w2 ⟨va, la, ia, ea, rfl, hb2, hda, hma⟩
  have B2 := hid (w_bel B1.out hb2)
  have E2 := hid (box_low E1.out hb2 Z1.out)
  have Z2 := hid (Nat.lt_of_lt_of_le Z1.out hb2.size)
  have HA := hid hda
  have HM := hid hma
  clear hda hma
  clear hb2
  have c2_10 := E2.out 10 _ rfl
  have z2 := Z2.out
  go_wp2_with fail
  clear c2_10 z2
  refine (F2.out _ B2.out).mono ?_
  rintro e w3 ⟨vb, lb, ib, eb, rfl, hb3, hmb, hdb⟩
  have B3 := hid (w_bel B2.out hb3)
  have E3 := hid (box_low E2.out hb3 Z2.out)
  have Z3 := hid (Nat.lt_of_lt_of_le Z2.out hb3.size)
  obtain ⟨ll, hll, i1, i2⟩ := two_make hb3 HM.out hmb HA.out hdb
  have F4 := hid (same_any va vb ll w3 i1 i2 hll)
  have F5 := hid (fun W => num_any ea W (mk_range HM.out))
  have HU := hid (mk_one HM.out hmb)
  clear hdb hmb i1 i2
  clear hb3
  obtain ⟨u1, u2⟩ := HU.out
  subst u1 u2
  clear HU
  go_wp2_with fail
  refine (F4.out).mono ?_
  rintro e w4 ⟨rfl, hb4⟩
  have B4 := hid (w_bel B3.out hb4)
  have E4 := hid (box_low E3.out hb4 Z3.out)
  have Z4 := hid (Nat.lt_of_lt_of_le Z3.out hb4.size)
  clear hb4
  go_wp2_with fail
  refine (F5.out _).mono ?_
  rintro e wq ⟨rfl, hwq⟩
  subst hwq
  go_wp2_with fail
  go_ret
  exact ⟨ret_bool (by simp), B4.out⟩
set_option maxHeartbeats 4000000 in
set_option maxRecDepth 100000 in
theorem list_check (t0 t1 t2 o0 o1 o2 o3 s ky : ByteArray) (vL vO : Value) (l : List Tn) (w : World) (hL : CameT w vL l) (hg : GoodT l) :
    Calls Tryz.prog 6 #[.agg #[.int .i64 9, .string t0, .string t1, .string t2, .string o0, .string o1, .string o2, .string o3, .string s, .string ky, vL, vO]] w fun e w' => e = .returned (.bool true) ∧ Below w.heap.size w w' := by
  have CP := hid (fun W (hb : Below w.heap.size w W) => taints_any vL l W (hL.low hb) hg)
  have F1 := hid (fun W v (hc : CameT W v l) => check_any v l W hc.items hg)
  have F2 := hid (fun W (hb : Below w.heap.size w W) => qcheck_any vL l W (hL.low hb).items hg)
  obtain ⟨aL, cL, rfl, -⟩ := hL.items
  clear hL hg
  go_enter Tryz.func6, Tryz.ntmps6
  go_wp2_with fail
  have B0 := hid (show Below w.heap.size w (w.alloc (.cells #[.int .i64 9, .string t0, .string t1, .string t2, .string o0, .string o1, .string o2, .string o3, .string s, .string ky, .slice aL l.length cL, vO] 31)) from belowA _ _)
  have Z0 := hid (show w.heap.size < (w.alloc (.cells #[.int .i64 9, .string t0, .string t1, .string t2, .string o0, .string o1, .string o2, .string o3, .string s, .string ky, .slice aL l.length cL, vO] 31)).heap.size by simp)
  have E0 := hid (cells_at w #[.int .i64 9, .string t0, .string t1, .string t2, .string o0, .string o1, .string o2, .string o3, .string s, .string ky, .slice aL l.length cL, vO] 31)
  generalize w.alloc (.cells #[.int .i64 9, .string t0, .string t1, .string t2, .string o0, .string o1, .string o2, .string o3, .string s, .string ky, .slice aL l.length cL, vO] 31) = w0 at *
  have T0 : w0.drew.cell? ⟨w.heap.size, 10, none⟩ = some (.slice aL l.length cL) := E0.out 10 _ rfl
  go_region_held3 (fun W => W.cell? ⟨w.heap.size, 10, none⟩ = some (.slice aL l.length cL))
    (first | exact T0 | exact T1 | exact T2 | exact T3 | exact T4 | exact T5 | exact T6)
    (first
      | (go_at_call 23; refine (CP.out _ B0.out.drew).mono ?_; rintro e w1 ⟨v1, rfl, hc1, hb1⟩; have D1 := hid hb1; have HC1 := hid (ownG_came hc1); clear hc1; clear hb1; have T1 : w1.cell? ⟨w.heap.size, 10, none⟩ = some (.slice aL l.length cL) := (D1.out.cell (p := ⟨w.heap.size, 10, none⟩) Z0.out).trans T0; have Z1 := hid (Nat.lt_of_lt_of_le Z0.out D1.out.size); have B1 := hid (w_bel B0.out.drew D1.out))
      | (go_at_call 26; refine (F1.out _ _ HC1.out).mono ?_; rintro e w2 ⟨ea, rfl, hb2, hda, -⟩; have D2 := hid hb2; have HA := hid hda; have F5 := hid (fun W => num_any ea W hda.1); clear hda; clear hb2; have T2 : w2.cell? ⟨w.heap.size, 10, none⟩ = some (.slice aL l.length cL) := (D2.out.cell (p := ⟨w.heap.size, 10, none⟩) Z1.out).trans T1; have Z2 := hid (Nat.lt_of_lt_of_le Z1.out D2.out.size); have B2 := hid (w_bel B1.out D2.out))
      | (go_at_call 9; refine (F5.out _).mono ?_; rintro e wq ⟨rfl, hwq⟩; subst hwq)
      | (go_at_call 27; refine (F2.out _ B2.out).mono ?_; rintro e w3 ⟨eb, rfl, hb3, hdb⟩; have D3 := hid hb3; have HU := hid (ch_one HA.out.2 hdb); clear hdb; clear hb3; have T3 : w3.cell? ⟨w.heap.size, 10, none⟩ = some (.slice aL l.length cL) := (D3.out.cell (p := ⟨w.heap.size, 10, none⟩) Z2.out).trans T2; have Z3 := hid (Nat.lt_of_lt_of_le Z2.out D3.out.size); have B3 := hid (w_bel B2.out D3.out)))
  obtain rfl := HU.out
  go_wp2_with fail
  go_ret
  exact ⟨ret_bool (by simp), B3.out⟩
set_option maxHeartbeats 4000000 in
set_option maxRecDepth 100000 in
theorem list_all (t0 t1 t2 o0 o1 o2 o3 s ky : ByteArray) (vL vO : Value) (os : List To) (w : World) (hO : CameO w vO os) (hgO : GoodO os) :
    Calls Tryz.prog 6 #[.agg #[.int .i64 10, .string t0, .string t1, .string t2, .string o0, .string o1, .string o2, .string o3, .string s, .string ky, vL, vO]] w fun e w' => e = .returned (.bool true) ∧ Below w.heap.size w w' := by
  have CP := hid (fun W (hb : Below w.heap.size w W) => tols_any vO os W (hO.low hb) hgO)
  have F1 := hid (fun W v (hc : CameO W v os) => ctols_any v os W hc.items hgO)
  have F2 := hid (fun W (hb : Below w.heap.size w W) => qctols_any vO os W (hO.low hb).items hgO)
  obtain ⟨aO, cO, rfl, -⟩ := hO.items
  clear hO hgO
  go_enter Tryz.func6, Tryz.ntmps6
  go_wp2_with fail
  have B0 := hid (show Below w.heap.size w (w.alloc (.cells #[.int .i64 10, .string t0, .string t1, .string t2, .string o0, .string o1, .string o2, .string o3, .string s, .string ky, vL, .slice aO os.length cO] 31)) from belowA _ _)
  have Z0 := hid (show w.heap.size < (w.alloc (.cells #[.int .i64 10, .string t0, .string t1, .string t2, .string o0, .string o1, .string o2, .string o3, .string s, .string ky, vL, .slice aO os.length cO] 31)).heap.size by simp)
  have E0 := hid (cells_at w #[.int .i64 10, .string t0, .string t1, .string t2, .string o0, .string o1, .string o2, .string o3, .string s, .string ky, vL, .slice aO os.length cO] 31)
  generalize w.alloc (.cells #[.int .i64 10, .string t0, .string t1, .string t2, .string o0, .string o1, .string o2, .string o3, .string s, .string ky, vL, .slice aO os.length cO] 31) = w0 at *
  refine (CP.out _ B0.out).mono ?_
  rintro e w1 ⟨v1, rfl, hc1, hb1⟩
  have B1 := hid (w_bel B0.out hb1)
  have E1 := hid (box_low E0.out hb1 Z0.out)
  have Z1 := hid (Nat.lt_of_lt_of_le Z0.out hb1.size)
  have HC1 := hid (ownG_came hc1)
  clear hc1
  clear hb1
  go_wp2_with fail
  refine (F1.out _ _ HC1.out).mono ?_
  rintro e w2 ⟨ia, ea, rfl, hda, hb2⟩
  have B2 := hid (w_bel B1.out hb2)
  have E2 := hid (box_low E1.out hb2 Z1.out)
  have Z2 := hid (Nat.lt_of_lt_of_le Z1.out hb2.size)
  have HA := hid hda
  have F5 := hid (fun W => num_any ea W (co_range hda))
  clear hda
  clear hb2
  have c2_11 := E2.out 11 _ rfl
  have z2 := Z2.out
  go_wp2_with fail
  clear c2_11 z2
  refine (F2.out _ B2.out).mono ?_
  rintro e w3 ⟨ib, eb, rfl, hdb, hb3⟩
  have B3 := hid (w_bel B2.out hb3)
  have E3 := hid (box_low E2.out hb3 Z2.out)
  have Z3 := hid (Nat.lt_of_lt_of_le Z2.out hb3.size)
  have HU := hid (co_one HA.out hdb)
  clear hdb
  clear hb3
  obtain ⟨u1, u2⟩ := HU.out
  subst u1 u2
  clear HU
  go_wp2_with fail
  refine (F5.out _).mono ?_
  rintro e wq ⟨rfl, hwq⟩
  subst hwq
  go_wp2_with fail
  go_ret
  exact ⟨ret_bool (by simp), B3.out⟩
end Go.Proofs.YtppblibcbjpfnaaGreatDoor.L
