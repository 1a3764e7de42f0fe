import Derived.Test.YtkbjjbgmnfngjaaGreatDoorMs2
import Derived.Test.YtkbjjbgmnfngjaaGreatDoorRpt
namespace Go.Proofs.YtkbjjbgmnfngjaaGreatDoor.L
open Go.RowKit
set_option linter.unusedVariables false
theorem wpList_append_difs {w : World} {ops : Array Oper} {rest : List Oper} {o : Oper} {a : Act} {Q : Exit → Act → World → Prop} (hgd : o.guard = none) (s x : Operand)
    (ho : o.op = .call { callee := .builtin .append, args := #[s, x], argTypes := #[23, 23] })
    (base : Nat) (v : Value) (L : List Df) (hs : a.eval s = v) (hown : w.ownsRow base 52 5 v 0 []) (sv : Value) (hx : a.eval x = sv) (hsrc : CameD w sv L)
    (h63 : L.length ≤ maxLen) (hbytes : L.length * 56 ≤ 140737488355328) (hbase : base ≤ w.heap.size)
    (h : ∀ v' w', w'.ownsRow base 52 5 v' L.length (cellsD L) → w.grownBy w' v.ownBlock → wpList Tryz.prog ops Q rest (a.put o.dst v') w') : wpList Tryz.prog ops Q (o :: rest) a w := by
  obtain ⟨i0, hi, hz0, hz1, hz2⟩ := info_prts infoD
  rcases hsrc with ⟨rfl, rfl⟩ | ⟨ad, cap, rfl, hr⟩
  · refine wpList_append_own_none hgd s x _ ho base 52 i0 5 Tryz.underlying23 hi v 0 _ hs hown hx ?_
    exact h v w hown ⟨rfl, rfl, rfl, Nat.le_refl _, fun _ _ _ => rfl⟩
  · refine wpList_append_own w hgd s x _ ho base 52 i0 (.agg #[.string ByteArray.empty, .string ByteArray.empty, .string ByteArray.empty, .bool false, .bool false]) 5 56 Tryz.underlying23 hi hz0 hz1 hz2 rfl (by decide) v 0 [] hs hown ad L.length cap (cellsD L) hx (cellsD_len L) ?_ (cellsD_uno L) (by omega) (by omega) hbase ?_
    · rcases hr with h | ⟨b, off, rfl, _, h⟩
      · intro j u hu
        obtain ⟨i, hi, _⟩ := cellsD_get L j u hu
        omega
      · exact cellsD_src L w b off h
    · intro v'' w' h1 h2 _
      exact h v'' w' (by simpa using h1) h2
set_option maxHeartbeats 4000000 in
set_option maxRecDepth 100000 in
theorem asked_7 (K n : Int) (vL vO vD v : Value) (s ks vs : ByteArray) (l : List Lb) (L : List Df) (w W : World) (hc : Came W v l) (hg : Good l)  :
    Calls Tryz.prog 9 #[.int .i64 7, v, .agg #[.int .i64 K, vL, vO, vD, .string s, .string ks, .string vs, .int .i64 n]] W fun e w' => ∃ v' l', e = .returned v' ∧ Own w' W.heap.size v' l' ∧ An (fun l => (makeN l).2) (fun l => l) l l' ∧ Below W.heap.size W w' := by
  have F := hid (fun W' (hb : Below W.heap.size W W') => make_any v l W' (hc.low hb) hg)
  have HX := hid (show (fun l => (makeN l).2) l = 0 → Dist ((fun l => l) l) from fun e => (make_ok e).2.2.1)
  obtain ⟨a, c, rfl⟩ := came_slice hc
  clear hc hg
  go_enter Tryz.func9, Tryz.ntmps9
  go_wp2_with fail
  refine (F.out _ (belowA _ _)).mono ?_
  rintro e w1 ⟨v', l1, rfl, hb, hh⟩
  obtain ⟨l', ho, ha⟩ := an_own (E := fun l => (makeN l).2) (S := fun l => l) HX.out hh
  have R := hid (show Own w1 W.heap.size v' l' ∧ An (fun l => (makeN l).2) (fun l => l) l l' ∧ Below W.heap.size W w1 from ⟨own_mono ho (belowA _ _).size, ha, w_bel (belowA _ _) hb⟩)
  clear ho ha hb hh HX
  go_wp2_with fail
  go_ret
  exact ⟨v', l', rfl, R.out.1, R.out.2.1, R.out.2.2⟩
set_option maxHeartbeats 4000000 in
set_option maxRecDepth 100000 in
theorem wanted_7 (K n : Int) (vL vO vD v : Value) (s ks vs : ByteArray) (l : List Lb) (L : List Df) (w W : World) (hc : Came W v l) (hg : Good l)  :
    Calls Tryz.prog 10 #[.int .i64 7, v, .agg #[.int .i64 K, vL, vO, vD, .string s, .string ks, .string vs, .int .i64 n]] W fun e w' => ∃ v' l', e = .returned v' ∧ Own w' W.heap.size v' l' ∧ An (fun l => (makeN l).2) (fun l => l) l l' ∧ Below W.heap.size W w' := by
  have F := hid (fun W' (hb : Below W.heap.size W W') => rmake_any v l W' (hc.low hb).items hg)
  have HX := hid (show (fun l => (makeN l).2) l = 0 → Dist ((fun l => l) l) from fun e => (make_ok e).2.2.1)
  obtain ⟨a, c, rfl⟩ := came_slice hc
  clear hc hg
  go_enter Tryz.func10, Tryz.ntmps10
  go_wp2_with fail
  refine (F.out _ (belowA _ _)).mono ?_
  rintro e w1 ⟨v', l1, rfl, hb, hh⟩
  obtain ⟨l', ho, ha⟩ := an_want (E := fun l => (makeN l).2) (S := fun l => l) hh
  have R := hid (show Own w1 W.heap.size v' l' ∧ An (fun l => (makeN l).2) (fun l => l) l l' ∧ Below W.heap.size W w1 from ⟨own_mono ho (belowA _ _).size, ha, w_bel (belowA _ _) hb⟩)
  clear ho ha hb hh HX
  go_wp2_with fail
  go_ret
  exact ⟨v', l', rfl, R.out.1, R.out.2.1, R.out.2.2⟩
set_option maxHeartbeats 4000000 in
set_option maxRecDepth 100000 in
theorem asked_8 (K n : Int) (vL vO vD v : Value) (s ks vs : ByteArray) (l : List Lb) (L : List Df) (w W : World) (hc : Came W v l) (hg : Good l) (hs : s.size ≤ maxLen) :
    Calls Tryz.prog 9 #[.int .i64 8, v, .agg #[.int .i64 K, vL, vO, vD, .string s, .string ks, .string vs, .int .i64 n]] W fun e w' => ∃ v' l', e = .returned v' ∧ Own w' W.heap.size v' l' ∧ An (fun _ => (parseN s).2.2) (fun _ => (parseN s).1) l l' ∧ Below W.heap.size W w' := by
  have F := hid (fun W' (hb : Below W.heap.size W W') => parse_any s W' hs)
  have HX := hid (show (fun _ => (parseN s).2.2) l = 0 → Dist ((fun _ => (parseN s).1) l) from fun e => (parse_dist e).1)
  obtain ⟨a, c, rfl⟩ := came_slice hc
  clear hc hg
  go_enter Tryz.func9, Tryz.ntmps9
  go_wp2_with fail
  refine (F.out _ (belowA _ _)).mono ?_
  rintro e w1 ⟨v', l1, rfl, hb, hh⟩
  obtain ⟨l', ho, ha⟩ := an_own (E := fun _ => (parseN s).2.2) (S := fun _ => (parseN s).1) HX.out hh
  have R := hid (show Own w1 W.heap.size v' l' ∧ An (fun _ => (parseN s).2.2) (fun _ => (parseN s).1) l l' ∧ Below W.heap.size W w1 from ⟨own_mono ho (belowA _ _).size, ha, w_bel (belowA _ _) hb⟩)
  clear ho ha hb hh HX
  go_wp2_with fail
  go_ret
  exact ⟨v', l', rfl, R.out.1, R.out.2.1, R.out.2.2⟩
set_option maxHeartbeats 4000000 in
set_option maxRecDepth 100000 in
theorem wanted_8 (K n : Int) (vL vO vD v : Value) (s ks vs : ByteArray) (l : List Lb) (L : List Df) (w W : World) (hc : Came W v l) (hg : Good l) (hs : s.size ≤ maxLen) :
    Calls Tryz.prog 10 #[.int .i64 8, v, .agg #[.int .i64 K, vL, vO, vD, .string s, .string ks, .string vs, .int .i64 n]] W fun e w' => ∃ v' l', e = .returned v' ∧ Own w' W.heap.size v' l' ∧ An (fun _ => (parseN s).2.2) (fun _ => (parseN s).1) l l' ∧ Below W.heap.size W w' := by
  have F := hid (fun W' (hb : Below W.heap.size W W') => rparse_any s W' hs)
  have HX := hid (show (fun _ => (parseN s).2.2) l = 0 → Dist ((fun _ => (parseN s).1) l) from fun e => (parse_dist e).1)
  obtain ⟨a, c, rfl⟩ := came_slice hc
  clear hc hg
  go_enter Tryz.func10, Tryz.ntmps10
  go_wp2_with fail
  refine (F.out _ (belowA _ _)).mono ?_
  rintro e w1 ⟨v', l1, rfl, hb, hh⟩
  obtain ⟨l', ho, ha⟩ := an_want (E := fun _ => (parseN s).2.2) (S := fun _ => (parseN s).1) hh
  have R := hid (show Own w1 W.heap.size v' l' ∧ An (fun _ => (parseN s).2.2) (fun _ => (parseN s).1) l l' ∧ Below W.heap.size W w1 from ⟨own_mono ho (belowA _ _).size, ha, w_bel (belowA _ _) hb⟩)
  clear ho ha hb hh HX
  go_wp2_with fail
  go_ret
  exact ⟨v', l', rfl, R.out.1, R.out.2.1, R.out.2.2⟩
set_option maxHeartbeats 4000000 in
set_option maxRecDepth 100000 in
theorem asked_11 (K n : Int) (vL vO vD v : Value) (s ks vs : ByteArray) (l : List Lb) (L : List Df) (w W : World) (hc : Came W v l) (hg : Good l) (hk : ks.size ≤ maxLen) (hv : vs.size ≤ maxLen) :
    Calls Tryz.prog 9 #[.int .i64 11, v, .agg #[.int .i64 K, vL, vO, vD, .string s, .string ks, .string vs, .int .i64 n]] W fun e w' => ∃ v' l', e = .returned v' ∧ Own w' W.heap.size v' l' ∧ An (fun l => putA l ks vs) (fun l => delL l ks ++ [(ks, vs)]) l l' ∧ Below W.heap.size W w' := by
  have F := hid (fun W' (hb : Below W.heap.size W W') => put_all v l ks vs W' (hc.low hb) hg hk hv)
  have HX := hid (show (fun l => putA l ks vs) l = 0 → Dist ((fun l => delL l ks ++ [(ks, vs)]) l) from fun e => (put_pure e).1)
  obtain ⟨a, c, rfl⟩ := came_slice hc
  clear hc hg
  go_enter Tryz.func9, Tryz.ntmps9
  go_wp2_with fail
  refine (F.out _ (belowA _ _)).mono ?_
  rintro e w1 ⟨v', l1, rfl, hb, hh⟩
  obtain ⟨l', ho, ha⟩ := an_own (E := fun l => putA l ks vs) (S := fun l => delL l ks ++ [(ks, vs)]) HX.out hh
  have R := hid (show Own w1 W.heap.size v' l' ∧ An (fun l => putA l ks vs) (fun l => delL l ks ++ [(ks, vs)]) l l' ∧ Below W.heap.size W w1 from ⟨own_mono ho (belowA _ _).size, ha, w_bel (belowA _ _) hb⟩)
  clear ho ha hb hh HX
  go_wp2_with fail
  go_ret
  exact ⟨v', l', rfl, R.out.1, R.out.2.1, R.out.2.2⟩
set_option maxHeartbeats 4000000 in
set_option maxRecDepth 100000 in
theorem wanted_11 (K n : Int) (vL vO vD v : Value) (s ks vs : ByteArray) (l : List Lb) (L : List Df) (w W : World) (hc : Came W v l) (hg : Good l) (hk : ks.size ≤ maxLen) (hv : vs.size ≤ maxLen) :
    Calls Tryz.prog 10 #[.int .i64 11, v, .agg #[.int .i64 K, vL, vO, vD, .string s, .string ks, .string vs, .int .i64 n]] W fun e w' => ∃ v' l', e = .returned v' ∧ Own w' W.heap.size v' l' ∧ An (fun l => putA l ks vs) (fun l => delL l ks ++ [(ks, vs)]) l l' ∧ Below W.heap.size W w' := by
  have F := hid (fun W' (hb : Below W.heap.size W W') => rput_any v l ks vs W' (hc.low hb).items hg hk hv)
  have HX := hid (show (fun l => putA l ks vs) l = 0 → Dist ((fun l => delL l ks ++ [(ks, vs)]) l) from fun e => (put_pure e).1)
  obtain ⟨a, c, rfl⟩ := came_slice hc
  clear hc hg
  go_enter Tryz.func10, Tryz.ntmps10
  go_wp2_with fail
  refine (F.out _ (belowA _ _)).mono ?_
  rintro e w1 ⟨v', l1, rfl, hb, hh⟩
  obtain ⟨l', ho, ha⟩ := an_want (E := fun l => putA l ks vs) (S := fun l => delL l ks ++ [(ks, vs)]) hh
  have R := hid (show Own w1 W.heap.size v' l' ∧ An (fun l => putA l ks vs) (fun l => delL l ks ++ [(ks, vs)]) l l' ∧ Below W.heap.size W w1 from ⟨own_mono ho (belowA _ _).size, ha, w_bel (belowA _ _) hb⟩)
  clear ho ha hb hh HX
  go_wp2_with fail
  go_ret
  exact ⟨v', l', rfl, R.out.1, R.out.2.1, R.out.2.2⟩
set_option maxHeartbeats 4000000 in
set_option maxRecDepth 100000 in
theorem asked_14 (K n : Int) (vL vO vD v : Value) (s ks vs : ByteArray) (l : List Lb) (L : List Df) (w W : World) (hc : Came W v l) (hg : Good l) (hD : CameD w vD L) (hbw : Below w.heap.size w W) (gd : GoodD L) (hLb : L.length * 56 ≤ 140737488351232) :
    Calls Tryz.prog 9 #[.int .i64 14, v, .agg #[.int .i64 K, vL, vO, vD, .string s, .string ks, .string vs, .int .i64 n]] W fun e w' => ∃ v' l', e = .returned v' ∧ Own w' W.heap.size v' l' ∧ An (fun l => patA l L) (fun l => kept L l ++ newly L) l l' ∧ Below W.heap.size W w' := by
  have F := hid (fun W' v2 (hb : Below W.heap.size W W') (h2 : ItemsD W' v2 L) => patch_all v v2 l L W' (hc.low hb) h2 hg gd)
  have HDC := hid (fun W' (hb : Below W.heap.size W W') => (hD.low hbw).low hb)
  have h63 : L.length ≤ maxLen := by unfold maxLen; omega
  have h56 : L.length * 56 ≤ 140737488355328 := by omega
  have HX := hid (show (fun l => patA l L) l = 0 → Dist ((fun l => kept L l ++ newly L) l) from fun e => (patch_pure e).1)
  obtain ⟨a, c, rfl⟩ := came_slice hc
  obtain ⟨aD, cD, rfl⟩ := cameD_slice hD
  clear hc hg hD hbw gd
  go_enter Tryz.func9, Tryz.ntmps9
  have B0 := hid (w_bel (belowA W (.cells #[.int .i64 K, vL, vO, .slice aD L.length cD, .string s, .string ks, .string vs, .int .i64 n] 25)) (belowA _ (.cells #[] 52)))
  have K1 := hid (World.ownsRow_made (base := W.heap.size) (e := 52) (size := 5) (W.alloc (.cells #[.int .i64 K, vL, vO, .slice aD L.length cD, .string s, .string ks, .string vs, .int .i64 n] 25)) #[] 0 (belowA W _).size (Nat.zero_le _) rfl)
  have K2 := K1.out
  simp at K2
  have K3 := hid K2
  clear K2
  go_wp2_with (at_builtin; refine wpList_append_difs rfl _ _ rfl W.heap.size _ L rfl K3.out _ rfl (HDC.out _ B0.out) h63 h56 B0.out.size ?_; intro v3 w3 o3 g3)
  have BG := hid (show Below W.heap.size W w3 from B0.out.grown g3 B0.out.size (fun k hk => own_base K3.out k hk))
  have OD := hid (own_itemsD o3)
  clear o3 g3
  go_wp2_with fail
  refine (F.out _ _ BG.out OD.out).mono ?_
  rintro e w1 ⟨v', l1, rfl, hb, hh⟩
  obtain ⟨l', ho, ha⟩ := an_own (E := fun l => patA l L) (S := fun l => kept L l ++ newly L) HX.out hh
  have R := hid (show Own w1 W.heap.size v' l' ∧ An (fun l => patA l L) (fun l => kept L l ++ newly L) l l' ∧ Below W.heap.size W w1 from ⟨own_mono ho BG.out.size, ha, w_bel BG.out hb⟩)
  clear ho ha hb hh HX
  go_wp2_with fail
  go_ret
  exact ⟨v', l', rfl, R.out.1, R.out.2.1, R.out.2.2⟩
set_option maxHeartbeats 4000000 in
set_option maxRecDepth 100000 in
theorem wanted_14 (K n : Int) (vL vO vD v : Value) (s ks vs : ByteArray) (l : List Lb) (L : List Df) (w W : World) (hc : Came W v l) (hg : Good l) (hD : CameD w vD L) (hbw : Below w.heap.size w W) (gd : GoodD L) (hLb : L.length * 56 ≤ 140737488351232) :
    Calls Tryz.prog 10 #[.int .i64 14, v, .agg #[.int .i64 K, vL, vO, vD, .string s, .string ks, .string vs, .int .i64 n]] W fun e w' => ∃ v' l', e = .returned v' ∧ Own w' W.heap.size v' l' ∧ An (fun l => patA l L) (fun l => kept L l ++ newly L) l l' ∧ Below W.heap.size W w' := by
  have F := hid (fun W' (hb : Below W.heap.size W W') => rpatch_all v vD l L W' (hc.low hb) ((hD.low hbw).low hb).items hg gd)
  have HX := hid (show (fun l => patA l L) l = 0 → Dist ((fun l => kept L l ++ newly L) l) from fun e => (patch_pure e).1)
  obtain ⟨a, c, rfl⟩ := came_slice hc
  obtain ⟨aD, cD, rfl⟩ := cameD_slice hD
  clear hc hg hD hbw gd
  go_enter Tryz.func10, Tryz.ntmps10
  go_wp2_with fail
  refine (F.out _ (belowA _ _)).mono ?_
  rintro e w1 ⟨v', l1, rfl, hb, hh⟩
  obtain ⟨l', ho, ha⟩ := an_want (E := fun l => patA l L) (S := fun l => kept L l ++ newly L) hh
  have R := hid (show Own w1 W.heap.size v' l' ∧ An (fun l => patA l L) (fun l => kept L l ++ newly L) l l' ∧ Below W.heap.size W w1 from ⟨own_mono ho (belowA _ _).size, ha, w_bel (belowA _ _) hb⟩)
  clear ho ha hb hh HX
  go_wp2_with fail
  go_ret
  exact ⟨v', l', rfl, R.out.1, R.out.2.1, R.out.2.2⟩
set_option maxHeartbeats 4000000 in
set_option maxRecDepth 100000 in
theorem asked_12 (K n : Int) (vL vO vD v : Value) (s ks vs : ByteArray) (l : List Lb) (W : World) (hc : Came W v l) (hg : Good l) (hk : ks.size ≤ maxLen) :
    Calls Tryz.prog 9 #[.int .i64 12, v, .agg #[.int .i64 K, vL, vO, vD, .string s, .string ks, .string vs, .int .i64 n]] W fun e w' => ∃ v' l', e = .returned v' ∧ Own w' W.heap.size v' l' ∧ l' = delL l ks ∧ Below W.heap.size W w' := by
  have F := hid (fun W' (hb : Below W.heap.size W W') => delf_any v l ks W' (hc.low hb).items hg hk)
  obtain ⟨a, c, rfl⟩ := came_slice hc
  clear hc hg
  go_enter Tryz.func9, Tryz.ntmps9
  go_wp2_with fail
  refine (F.out _ (belowA _ _)).mono ?_
  rintro e w1 ⟨v', rfl, ho, hb⟩
  have R := hid (show Own w1 W.heap.size v' (delL l ks) ∧ Below W.heap.size W w1 from ⟨own_mono ho (belowA _ _).size, w_bel (belowA _ _) hb⟩)
  clear ho hb
  go_wp2_with fail
  go_ret
  exact ⟨v', _, rfl, R.out.1, rfl, R.out.2⟩
set_option maxHeartbeats 4000000 in
set_option maxRecDepth 100000 in
theorem wanted_12 (K n : Int) (vL vO vD v : Value) (s ks vs : ByteArray) (l : List Lb) (W : World) (hc : Came W v l) (hg : Good l) (hk : ks.size ≤ maxLen) :
    Calls Tryz.prog 10 #[.int .i64 12, v, .agg #[.int .i64 K, vL, vO, vD, .string s, .string ks, .string vs, .int .i64 n]] W fun e w' => ∃ v' l', e = .returned v' ∧ Own w' W.heap.size v' l' ∧ l' = delL l ks ∧ Below W.heap.size W w' := by
  have F := hid (fun W' (hb : Below W.heap.size W W') => rdel_any v l ks W' (hc.low hb).items hg)
  obtain ⟨a, c, rfl⟩ := came_slice hc
  clear hc hg
  go_enter Tryz.func10, Tryz.ntmps10
  go_wp2_with fail
  refine (F.out _ (belowA _ _)).mono ?_
  rintro e w1 ⟨v', rfl, ho, hb⟩
  have R := hid (show Own w1 W.heap.size v' (delL l ks) ∧ Below W.heap.size W w1 from ⟨own_mono ho (belowA _ _).size, w_bel (belowA _ _) hb⟩)
  clear ho hb
  go_wp2_with fail
  go_ret
  exact ⟨v', _, rfl, R.out.1, rfl, R.out.2⟩
end Go.Proofs.YtkbjjbgmnfngjaaGreatDoor.L
