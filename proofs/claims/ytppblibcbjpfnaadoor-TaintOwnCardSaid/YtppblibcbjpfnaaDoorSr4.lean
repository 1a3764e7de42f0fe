import Derived.Test.YtppblibcbjpfnaaDoorLes
import Derived.Test.YtppblibcbjpfnaaDoorLayF
import Derived.Shelf.SlSortCmp.NoneTotal
import Derived.Deep.RegionHeld3
namespace Go.Proofs.YtppblibcbjpfnaaDoor.L
open Go.RowKit Go.Sort Go.Shelf
set_option linter.unusedVariables false
set_option maxHeartbeats 4000000 in
theorem nan_any (x : ByteArray) (w : World) : Calls Tryd.prog 72 #[.string x] w fun e w' => e = .returned (.bool false) ∧ w' = w := by
  go_enter Tryd.func72, Tryd.ntmps72
  go_wp2
  go_ret
  exact ⟨ret_bool (by simp), rfl⟩
set_option maxHeartbeats 4000000 in
theorem cmpc_any (x y : ByteArray) (w : World) : Calls Tryd.prog 60 #[.string x, .string y] w fun e w' => e = .returned (.int .i64 (cmpS x y)) ∧ w' = w := by
  have HN := hid (fun z W => nan_any z W)
  rcases less_total x.toList y.toList with h | h | h
  · have HV := hid (show cmpS x y = -1 by unfold cmpS; rw [if_pos h])
    go_enter Tryd.func60, Tryd.ntmps60
    go_wp2_with fail
    refine (HN.out _ _).mono ?_
    rintro e w1 ⟨rfl, hww⟩; subst hww
    go_wp2_with fail
    refine (HN.out _ _).mono ?_
    rintro e w1 ⟨rfl, hww⟩; subst hww
    go_wp2_with fail
    go_ret
    exact ⟨by rw [HV.out]; rfl, rfl⟩
  · have HV := hid (show cmpS x y = 0 from cmpS_zero.2 (bytes_ext h))
    have hl : Op.bytesLess x.toList y.toList = false := by rw [h]; exact less_irrefl _
    have he : (x.toList == y.toList) = true := by simpa using h
    clear h
    go_enter Tryd.func60, Tryd.ntmps60
    go_wp2_with fail
    refine (HN.out _ _).mono ?_
    rintro e w1 ⟨rfl, hww⟩; subst hww
    go_wp2_with fail
    refine (HN.out _ _).mono ?_
    rintro e w1 ⟨rfl, hww⟩; subst hww
    go_wp2_with fail
    go_ret
    exact ⟨by rw [HV.out]; rfl, rfl⟩
  · have HV := hid (show cmpS x y = 1 by unfold cmpS; rw [if_neg (by rw [(less_asymm _ _ h).1]; decide), if_pos h])
    have hl := (less_asymm _ _ h).1
    have he := (less_asymm _ _ h).2.2
    go_enter Tryd.func60, Tryd.ntmps60
    go_wp2_with fail
    refine (HN.out _ _).mono ?_
    rintro e w1 ⟨rfl, hww⟩; subst hww
    go_wp2_with fail
    refine (HN.out _ _).mono ?_
    rintro e w1 ⟨rfl, hww⟩; subst hww
    go_wp2_with fail
    go_ret
    exact ⟨by rw [HV.out]; rfl, rfl⟩
theorem cmpS_range (x y : ByteArray) : cmpS x y = -1 ∨ cmpS x y = 0 ∨ cmpS x y = 1 := by
  unfold cmpS
  split
  · exact Or.inl rfl
  · split
    · exact Or.inr (Or.inr rfl)
    · exact Or.inr (Or.inl rfl)
set_option maxHeartbeats 4000000 in
theorem or_any (p q r : Int) (hr : r = if p = 0 then q else p) (b : Nat) (w : World) (h0 : w.cell? ⟨b, 0, none⟩ = some (.int .i64 p)) (h1 : w.cell? ⟨b, 1, none⟩ = some (.int .i64 q)) : Calls Tryd.prog 59 #[.slice (some ⟨b, 0, none⟩) 2 2] w fun e w' => e = .returned (.int .i64 r) ∧ w' = w := by
  have HR := hid hr
  clear hr
  go_enter Tryd.func59, Tryd.ntmps59
  go_wp2
  go_loop [8] (fun i => ∃ k : Nat, k ≤ 2 ∧ i = .int .i64 k ∧ Hid ((1 ≤ k → p = 0) ∧ (2 ≤ k → q = 0))) (fun i => 2 - (intOf i).toNat)
  case atStart => exact ⟨0, Nat.zero_le _, rfl, hid ⟨fun h => by omega, fun h => by omega⟩⟩
  case round =>
    obtain ⟨k, hk, rfl, HK⟩ := hrel
    obtain rfl | rfl | rfl : k = 0 ∨ k = 1 ∨ k = 2 := by omega
    · by_cases hp : p = 0
      · have hp' : (p != 0) = false := by simp [hp]
        have HP := hid hp
        clear hp
        go_wp2
        exact ⟨⟨1, by omega, by go_num, hid ⟨fun _ => HP.out, fun h => by omega⟩⟩, by simp [intOf]⟩
      · have hp' : (p != 0) = true := by simpa using hp
        have HV := hid (show r = p by rw [HR.out, if_neg hp])
        clear hp
        go_wp2
        go_ret
        exact ⟨by rw [HV.out]; rfl, rfl⟩
    · have HP := hid (HK.out.1 (Nat.le_refl _))
      by_cases hq : q = 0
      · have hq' : (q != 0) = false := by simp [hq]
        have HQ := hid hq
        clear hq
        go_wp2
        exact ⟨⟨2, by omega, by go_num, hid ⟨fun _ => HP.out, fun _ => HQ.out⟩⟩, by simp [intOf]⟩
      · have hq' : (q != 0) = true := by simpa using hq
        have HV := hid (show r = q by rw [HR.out, if_pos HP.out])
        clear hq
        go_wp2
        go_ret
        exact ⟨by rw [HV.out]; rfl, rfl⟩
    · have HV := hid (show r = 0 by rw [HR.out, if_pos (HK.out.1 (by omega))]; exact HK.out.2 (by omega))
      go_wp2
      go_ret
      exact ⟨by rw [HV.out]; rfl, rfl⟩
theorem two_ints (W : World) (p q : Value) (t : TypeId) : (W.alloc (.cells #[p, q] t)).drew.cell? ⟨W.heap.size, 0, none⟩ = some p ∧ (W.alloc (.cells #[p, q] t)).drew.cell? ⟨W.heap.size, 1, none⟩ = some q := by
  have h : (W.alloc (.cells #[p, q] t)).drew.heap[W.heap.size]? = some (.cells #[p, q] t) := by
    show (W.heap.push _)[W.heap.size]? = _
    simp
  refine ⟨?_, ?_⟩ <;> (unfold World.cell?; rw [h]; rfl)
set_option maxHeartbeats 4000000 in
theorem order_any (x y : Tn) (w : World) : Calls Tryd.prog 44 #[tv x, tv y] w fun e w' => e = .returned (.int .i64 (ordI x y)) ∧ ∃ q os', w' = grow (w.drewN q) os' := by
  have H1 := hid (fun W => cmpc_any x.1 y.1 W)
  have H2 := hid (fun W => cmpc_any x.2.2 y.2.2 W)
  have HO := hid (fun b W h0 h1 => or_any (cmpS x.1 y.1) (cmpS x.2.2 y.2.2) (ordI x y) rfl b W h0 h1)
  generalize ordI x y = r at *
  generalize cmpS x.1 y.1 = c1 at *
  generalize cmpS x.2.2 y.2.2 = c2 at *
  obtain ⟨x0, x1, x2⟩ := x
  obtain ⟨y0, y1, y2⟩ := y
  simp only [tv] at *
  have HX := hid (three w (.string x0) (.string x1) (.string x2) 23)
  have HY := hid (three (w.alloc (.cells #[.string x0, .string x1, .string x2] 23)) (.string y0) (.string y1) (.string y2) 23)
  have hz : w.heap.size < (w.alloc (.cells #[.string x0, .string x1, .string x2] 23)).heap.size := by simp
  have BX := hid (belowA (w.alloc (.cells #[.string x0, .string x1, .string x2] 23)) (.cells #[.string y0, .string y1, .string y2] 23))
  rw [World.size_alloc] at HY
  have TI := hid (two_ints ((w.alloc (.cells #[.string x0, .string x1, .string x2] 23)).alloc (.cells #[.string y0, .string y1, .string y2] 23)) (.int .i64 c1) (.int .i64 c2) 3)
  rw [World.size_alloc, World.size_alloc] at TI
  go_enter Tryd.func44, Tryd.ntmps44
  go_wp2_with fail
  have T0 : ((w.alloc (.cells #[.string x0, .string x1, .string x2] 23)).alloc (.cells #[.string y0, .string y1, .string y2] 23)).drew.cell? ⟨w.heap.size, 0, none⟩ = some (.string x0) ∧ ((w.alloc (.cells #[.string x0, .string x1, .string x2] 23)).alloc (.cells #[.string y0, .string y1, .string y2] 23)).drew.cell? ⟨w.heap.size, 2, none⟩ = some (.string x2) ∧ ((w.alloc (.cells #[.string x0, .string x1, .string x2] 23)).alloc (.cells #[.string y0, .string y1, .string y2] 23)).drew.cell? ⟨w.heap.size + 1, 0, none⟩ = some (.string y0) ∧ ((w.alloc (.cells #[.string x0, .string x1, .string x2] 23)).alloc (.cells #[.string y0, .string y1, .string y2] 23)).drew.cell? ⟨w.heap.size + 1, 2, none⟩ = some (.string y2) := ⟨(BX.out.cell (p := ⟨w.heap.size, 0, none⟩) hz).trans HX.out.1, (BX.out.cell (p := ⟨w.heap.size, 2, none⟩) hz).trans HX.out.2.2, HY.out.1, HY.out.2.2⟩
  go_region_held3 (fun W => W.cell? ⟨w.heap.size, 0, none⟩ = some (.string x0) ∧ W.cell? ⟨w.heap.size, 2, none⟩ = some (.string x2) ∧ W.cell? ⟨w.heap.size + 1, 0, none⟩ = some (.string y0) ∧ W.cell? ⟨w.heap.size + 1, 2, none⟩ = some (.string y2))
    (first | exact T0 | go_keep)
    (first
      | (go_at_call_of 60 x0; refine (H1.out _).mono ?_; rintro e w1 ⟨rfl, hww⟩; have hw2 := hww.symm; clear hww; subst hw2)
      | (go_at_call_of 60 x2; refine (H2.out _).mono ?_; rintro e w1 ⟨rfl, hww⟩; have hw2 := hww.symm; clear hww; subst hw2)
      | (go_at_call 59; refine (HO.out _ _ TI.out.1 TI.out.2).mono ?_; rintro e w1 ⟨rfl, hww⟩; have hw2 := hww.symm; clear hww; subst hw2))
  go_wp2_with fail
  go_ret
  exact ⟨rfl, 1, _, by rw [alloc_eq_grow, alloc_eq_grow, alloc_eq_grow, grow_grow, grow_grow]; rfl⟩
def encT (x : Tn) : List Value := [.string x.1, .string x.2.1, .string x.2.2]
theorem ltT (x y : Tn) : ltOf ordI x y = tltB x y := ord_neg x y
theorem swoT : SWO (ltOf ordI) where
  irrefl x := by rw [ltT]; exact tlt_irrefl _
  trans x y z h1 h2 := by rw [ltT] at *; exact tlt_trans _ _ _ h1 h2
  ntrans x y z h1 h2 := by
    rw [ltT] at *
    cases e : tltB x z
    · rfl
    · rcases tlt_total x y with g | g | g
      · rw [h1] at g; cases g
      · rw [(tlt_same (c := z) g).1, h2] at e; cases e
      · rw [tlt_trans _ _ _ g e] at h2; cases h2
theorem cmp_laysT (blk off size : Nat) (w : World) : CmpLays Tryd.prog 44 #[] encT 3 ordI blk off size w := fun _ _ _ _ x y => order_any x y _
theorem below_sort (w : World) (base g n : Nat) (d : Array Tn) (os : Array Obj) (hb : base ≤ g) (hw : base ≤ w.heap.size) : RowKit.Below base w (sortWorldK encT 3 w g 0 n d os) := by
  refine ⟨rfl, rfl, rfl, ?_, fun k hk => ?_⟩
  · show w.heap.size ≤ ((w.heap.modify g _) ++ os).size
    simp
  · show ((w.heap.modify g _) ++ os)[k]? = _
    rw [Array.getElem?_append_left (by simp; omega), Array.getElem?_modify, if_neg (by omega)]
theorem enc_tf (x : Tn) (i : Nat) (h : i < 3) : (encT x)[i]? = some (.string (tf x i)) := by
  match i, h with
  | 0, _ => rfl
  | 1, _ => rfl
  | 2, _ => rfl
theorem holds_own {w : World} {g : Nat} {cur : Array Value} {t : TypeId} {l : List Tn} (hh : w.heap[g]? = some (.cells cur t)) (ht : cur.toList.take (l.length * 3) = cellsG 3 tf l) : HoldsK encT 3 w g 0 l.toArray := by
  intro j hj
  rw [size_flatK] at hj
  have hj' : j < l.length * 3 := by simpa using hj
  rw [get_flatK _ _ _ _ hj]
  have hd : j / 3 < l.length := by omega
  refine ⟨?_, ?_⟩
  · have a := cellsG_at 3 tf l (j / 3) hd (j % 3) (Nat.mod_lt _ (by decide))
    rw [Nat.div_add_mod' j 3, ← ht, List.getElem?_take, if_pos (by omega)] at a
    have e : l.toArray[j / 3]! = l[j / 3] := by
      rw [getElem!_pos _ _ (by simp; omega)]
      simp
    rw [e]
    have e2 : (encT l[j / 3])[j % 3]! = .string (tf l[j / 3] (j % 3)) := by
      have := enc_tf l[j / 3] (j % 3) (Nat.mod_lt _ (by decide))
      rw [List.getElem!_eq_getElem?_getD, this]
      rfl
    rw [e2]
    simp [World.cell?, hh]
    simpa using a
  · unfold World.frozen?
    rw [hh]
    simp
theorem came_holds {w : World} {g cap : Nat} {d : Array Tn} (hg : g < w.heap.size) (hcap : d.toList.length ≤ cap ∧ cap ≤ maxLen) (h : HoldsK encT 3 w g 0 d) : CameT w (.slice (some ⟨g, 0, none⟩) d.toList.length cap) d.toList := by
  refine Or.inr ⟨_, cap, rfl, hcap, Or.inr ⟨g, 0, rfl, hg, fun j hj i hi => ?_⟩⟩
  have hj' : j < d.size := by simpa using hj
  have c := (HoldsK.cell h hj' hi).1
  have e : d[j]! = d.toList[j] := by
    rw [getElem!_pos d j hj']
    simp
  rw [e] at c
  have e2 : (encT d.toList[j])[i]! = .string (tf d.toList[j] i) := by
    have := enc_tf d.toList[j] i hi
    rw [List.getElem!_eq_getElem?_getD, this]
    rfl
  rw [e2] at c
  exact c
/-- A list in its order. -/
def SortedT (l l' : List Tn) : Prop := l'.Perm l ∧ l'.Pairwise fun x y => tltB y x = false
theorem sorted_of {l : List Tn} {d : Array Tn} (hp : PermIn 0 l.toArray.size l.toArray d) (hs : SortedIn (ltOf ordI) 0 l.toArray.size d) : SortedT l d.toList := by
  obtain ⟨h1, _, h3⟩ := hp
  have e1 : d.extract 0 l.toArray.size = d := by rw [← h1]; simp
  have e2 : l.toArray.extract 0 l.toArray.size = l.toArray := by simp
  rw [e1, e2] at h3
  refine ⟨by simpa using h3, ?_⟩
  rw [List.pairwise_iff_getElem]
  intro i j hi hj hij
  have := hs i j (Nat.zero_le _) hij (by rw [← h1]; simpa using hj)
  rw [ltT, getElem!_pos d j (by simpa using hj), getElem!_pos d i (by simpa using hi)] at this
  simpa using this
set_option maxHeartbeats 4000000 in
theorem sortfunc_any (g cap : Nat) (l : List Tn) (w : World) (hg : g < w.heap.size) (hH : HoldsK encT 3 w g 0 l.toArray) (hsz : l.length < 3074457345618258602) (hcap : l.length ≤ cap ∧ cap ≤ maxLen) :
    Calls Tryd.prog 58 #[.slice (some ⟨g, 0, none⟩) l.length cap, .func (.func 44) #[] #[]] w fun e w' => e = .returned (.tuple #[]) ∧ ∃ l', SortedT l l' ∧ CameT w' (.slice (some ⟨g, 0, none⟩) l.length cap) l' ∧ ∀ base, base ≤ g → RowKit.Below base w w' := by
  have eg : ∀ args w, (callFunc 44 args).run Tryd.prog w = .ok (.enter 44 args) w := enters_of Tryd.func44 (by kernel_rfl) rfl
  have hcon := AnyQ.slices_SortFunc sortL 3 Tryd.isAgg23 Tryd.sizeOf23 encT (fun _ => rfl) (fun x v hv => by simp [encT] at hv; rcases hv with rfl | rfl | rfl <;> rfl) ordI swoT 44 #[] g 0 cap l.toArray w eg (cmp_laysT g 0 l.toArray.size w) hH hg (by simp; omega)
  have hcon' : Calls Tryd.prog 58 #[.slice (some ⟨g, 0, none⟩) l.length cap, .func (.func 44) #[] #[]] w _ := hcon
  refine hcon'.mono ?_
  rintro e w' ⟨rfl, d', n, os, hp, hs, rfl⟩
  have hd : d'.size = l.length := by rw [hp.1]; simp
  have hh := holdsK_sortWorldK_c encT 3 w g 0 l.toArray d' n os hH hg (by rw [hd]; simp)
  refine ⟨rfl, d'.toList, sorted_of hp hs, ?_, fun base hb => below_sort w base g n d' os hb (by omega)⟩
  have := came_holds (cap := cap) (w := sortWorldK encT 3 w g 0 n d' os) (by show g < ((w.heap.modify g _) ++ os).size; simp; omega) (by rw [show d'.toList.length = l.length by simpa using hd]; exact hcap) hh
  rw [show d'.toList.length = l.length by simpa using hd] at this
  exact this
theorem sortnone_any (a : Option Addr) (cap : Nat) (w : World) : Calls Tryd.prog 58 #[.slice a 0 cap, .func (.func 44) #[] #[]] w fun e w' => e = .returned (.tuple #[]) ∧ w' = w := AnyF.slices_SortFunc_none sortL a cap _ w
set_option maxHeartbeats 4000000 in
theorem sorted_any (v : Value) (l : List Tn) (w : World) (hc : CameT w v l) (hg : GoodT l) :
    Calls Tryd.prog 43 #[v] w fun e w' => ∃ v' l', e = .returned v' ∧ CameT w' v' l' ∧ SortedT l l' ∧ RowKit.Below w.heap.size w w' := by
  obtain ⟨i0, hi, hz0, hz1, hz2⟩ := info_parts infoT
  have hl1 := hg.1.1
  have hl2 := hg.1.2
  have HN := hid (fun a cap W => sortnone_any a cap W)
  have HS := hid (fun g cap W h1 h2 h3 => sortfunc_any g cap l W h1 h2 (by omega) h3)
  rcases hc with ⟨rfl, rfl⟩ | ⟨a, cap, rfl, _, h⟩
  · go_enter Tryd.func43, Tryd.ntmps43
    go_wp2_with (first
      | (at_builtin; refine wpList_append_own_none rfl _ _ 26 rfl w.heap.size 23 i0 3 Tryd.underlying26 hi _ 0 [] rfl (World.ownsRow_nil w _ _ _) rfl ?_)
      | (go_at_call 58; refine (HN.out _ _ _).mono ?_; rintro e w1 ⟨rfl, hww⟩; subst hww)
      | go_in)
    go_ret
    exact ⟨_, [], rfl, Or.inl ⟨rfl, rfl⟩, ⟨List.Perm.refl _, List.Pairwise.nil⟩, RowKit.Below.refl _ _⟩
  · have hcell : ∀ j u, (cellsG 3 tf l)[j]? = some u → w.cell? (a.add j) = some u := by
      rcases h with h | ⟨b, off, rfl, h⟩
      · intro j u hu
        obtain ⟨h1, _⟩ := cellsG_get _ _ l j u hu
        omega
      · exact h.src
    have HC := hid hcell
    clear h hcell
    go_enter Tryd.func43, Tryd.ntmps43
    go_wp2_with (first
      | (at_builtin; refine wpList_append_own _ rfl _ _ 26 rfl w.heap.size 23 i0 (.agg #[.string ByteArray.empty, .string ByteArray.empty, .string ByteArray.empty]) 3 48 Tryd.underlying26 hi hz0 hz1 hz2 rfl (by decide) _ 0 [] rfl (World.ownsRow_nil w _ _ _) a l.length cap (cellsG 3 tf l) rfl (cellsG_len _ _ l) ?_ (cellsG_one _ _ l) (by omega) (by omega) (by simp) ?_)
      | go_in)
    · exact HC.out
    · intro v' w1 hown hgrow _
      have HB2 := hid (show RowKit.Below w.heap.size w w1 from (RowKit.Below.refl _ _).grown hgrow (by simp) (fun k hk => by simp [Value.ownBlock] at hk))
      obtain ⟨_, h2⟩ := hown
      clear hgrow
      rcases h2 with ⟨rfl, hz⟩ | ⟨g, cap', cur, rfl, hb, hh, hle, hm, hs, ht⟩
      · obtain rfl : l = [] := List.length_eq_zero_iff.1 hz
        go_wp2_with fail
        refine (HN.out _ _ _).mono ?_
        rintro e w2 ⟨rfl, hww⟩; subst hww
        go_wp2_with fail
        go_ret
        exact ⟨_, [], rfl, Or.inl ⟨rfl, rfl⟩, ⟨List.Perm.refl _, List.Pairwise.nil⟩, HB2.out⟩
      · have hlt : g < w1.heap.size := by
          apply Classical.byContradiction
          intro n
          rw [Array.getElem?_eq_none (by omega)] at hh
          cases hh
        have HX := hid (HS.out g cap' w1 hlt (holds_own hh ht) ⟨hle, hm⟩)
        have HG := hid hb
        clear hh hs ht hlt hb
        go_wp2_with fail
        refine HX.out.mono ?_
        rintro e w2 ⟨rfl, l', hsrt, hcame, hbel⟩
        have R := hid (show SortedT l l' ∧ CameT w2 (.slice (some ⟨g, 0, none⟩) l.length cap') l' ∧ RowKit.Below w.heap.size w1 w2 from ⟨hsrt, hcame, hbel _ HG.out⟩)
        clear hsrt hcame hbel
        go_wp2_with fail
        go_ret
        exact ⟨_, l', rfl, R.out.2.1, R.out.1, HB2.out.trans R.out.2.2⟩
end Go.Proofs.YtppblibcbjpfnaaDoor.L
