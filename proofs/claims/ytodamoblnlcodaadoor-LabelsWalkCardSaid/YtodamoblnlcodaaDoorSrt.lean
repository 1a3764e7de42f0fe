import Derived.Test.YtodamoblnlcodaaDoorLst
import Derived.Test.YtodamoblnlcodaaDoorLayF
import Derived.Shelf.SlSortCmp.NoneTotal
namespace Go.Proofs.YtodamoblnlcodaaDoor.L
open Go.RowKit Go.Sort Go.Shelf
set_option linter.unusedVariables false
def enc (x : Lb) : List Value := [.string x.1, .string x.2]
def cf (x y : Lb) : Int := Lib.compareBytes x.1.data.toList y.1.data.toList
theorem cmp_less (a b : List UInt8) : decide (Lib.compareBytes a b < 0) = Op.bytesLess a b := by
  induction a generalizing b with
  | nil => cases b <;> rfl
  | cons x a ih => cases b with
    | nil => rfl
    | cons y b =>
      unfold Lib.compareBytes Op.bytesLess
      by_cases h1 : x < y
      · simp [h1]
      · by_cases h2 : y < x
        · have ne : (x == y) = false := by
            simp
            rintro rfl
            rw [UInt8.lt_iff_toNat_lt] at h2
            omega
          simp [h1, h2, ne]
        · have e : x = y := by
            rw [UInt8.lt_iff_toNat_lt] at h1 h2
            exact UInt8.toNat_inj.1 (by omega)
          subst e
          simp [h1, ih]
theorem lt_less (x y : Lb) : ltOf cf x y = Op.bytesLess x.1.toList y.1.toList := by
  unfold ltOf cf
  rw [cmp_less, ByteArray.toList_eq, ByteArray.toList_eq]
theorem swo : SWO (ltOf cf) where
  irrefl x := by rw [lt_less]; exact less_irrefl _
  trans x y z h1 h2 := by rw [lt_less] at *; exact less_trans _ _ _ h1 h2
  ntrans x y z h1 h2 := by
    rw [lt_less] at *
    cases e : Op.bytesLess x.1.toList z.1.toList
    · rfl
    · rcases less_total x.1.toList y.1.toList with g | g | g
      · rw [h1] at g; cases g
      · rw [← g, e] at h2; cases h2
      · rw [less_trans _ _ _ g e] at h2; cases h2
set_option maxHeartbeats 1000000 in
theorem closure_any (x y : Lb) (W : World) : Calls Tryd.prog 34 #[.agg #[.string x.1, .string x.2], .agg #[.string y.1, .string y.2]] W fun e w' => e = .returned (.int .i64 (cf x y)) ∧ ∃ q os', w' = grow (W.drewN q) os' := by
  have HC := hid (fun W' => cmp_any x.1 y.1 W')
  unfold cf
  generalize Lib.compareBytes x.1.data.toList y.1.data.toList = r at *
  go_enter Tryd.func34, Tryd.ntmps34
  go_wp2_with fail
  refine (HC.out _).mono ?_
  rintro e w1 ⟨rfl, hww⟩; subst hww
  go_wp2_with fail
  go_ret
  exact ⟨rfl, 0, _, by rw [alloc_eq_grow, alloc_eq_grow, grow_grow]; rfl⟩
theorem cmp_lays (blk off size : Nat) (w : World) : CmpLays Tryd.prog 34 #[] enc 2 cf blk off size w := fun _ _ _ _ x y => closure_any x y _
theorem below_sort (w : World) (base g n : Nat) (d : Array Lb) (os : Array Obj) (hb : base ≤ g) (hw : base ≤ w.heap.size) : RowKit.Below base w (sortWorldK enc 2 w g 0 n d os) := by
  refine ⟨rfl, rfl, rfl, ?_, fun k hk => ?_⟩
  · show w.heap.size ≤ ((w.heap.modify g _) ++ os).size
    simp
  · show ((w.heap.modify g _) ++ os)[k]? = _
    rw [Array.getElem?_append_left (by simp; omega), Array.getElem?_modify, if_neg (by omega)]
theorem holds_own {w : World} {g : Nat} {cur : Array Value} {t : TypeId} {l : List Lb} (hh : w.heap[g]? = some (.cells cur t)) (ht : cur.toList.take (l.length * 2) = cellsF l) : HoldsK enc 2 w g 0 l.toArray := by
  intro j hj
  rw [size_flatK] at hj
  have hj' : j < l.length * 2 := by simpa using hj
  rw [get_flatK _ _ _ _ hj]
  refine ⟨?_, ?_⟩
  · obtain ⟨a1, a2⟩ := cellsF_at l (j / 2) (by omega)
    have key : ∀ k u, (cellsF l)[k]? = some u → w.cell? ⟨g, 0 + k, none⟩ = some u := by
      intro k u hu
      have hk := (cellsF_get l k u hu).1
      rw [← ht, List.getElem?_take, if_pos (by omega)] at hu
      simp [World.cell?, hh]
      simpa using hu
    have e : l.toArray[j / 2]! = (ky l (j / 2), vl l (j / 2)) := by
      rw [getElem!_pos _ _ (by simp; omega)]
      simp
      exact kv_get l (j / 2) (by omega)
    rw [e]
    by_cases h2 : j % 2 = 0
    · rw [h2]
      rw [show j / 2 * 2 = j by omega] at a1
      exact key j _ a1
    · rw [show j % 2 = 1 by omega]
      rw [show j / 2 * 2 + 1 = j by omega] at a2
      exact key j _ a2
  · unfold World.frozen?
    rw [hh]
    simp
theorem came_holds {w : World} {g cap : Nat} {d : Array Lb} (hg : g < w.heap.size) (hcap : d.toList.length ≤ cap ∧ cap ≤ maxLen) (h : HoldsK enc 2 w g 0 d) : Came w (.slice (some ⟨g, 0, none⟩) d.toList.length cap) d.toList := by
  refine Or.inr ⟨_, cap, rfl, hcap, Or.inr ⟨g, 0, rfl, hg, fun j hj => ?_⟩⟩
  have hj' : j < d.size := by simpa using hj
  have c0 := (HoldsK.cell h hj' (show 0 < 2 by decide)).1
  have c1 := (HoldsK.cell h hj' (show 1 < 2 by decide)).1
  have e : d[j]! = (ky d.toList j, vl d.toList j) := by
    rw [getElem!_pos d j hj']
    have := kv_get d.toList j hj
    simpa using this
  rw [e] at c0 c1
  exact ⟨c0, c1⟩
/-- A list in its order. -/
def Sorted (l l' : List Lb) : Prop := l'.Perm l ∧ l'.Pairwise fun x y => Op.bytesLess y.1.toList x.1.toList = false
theorem sorted_of {l : List Lb} {d : Array Lb} (hp : PermIn 0 l.toArray.size l.toArray d) (hs : SortedIn (ltOf cf) 0 l.toArray.size d) : Sorted l d.toList := by
  obtain ⟨h1, _, h3⟩ := hp
  have e1 : d.extract 0 l.toArray.size = d := by rw [← h1]; simp
  have e2 : l.toArray.extract 0 l.toArray.size = l.toArray := by simp
  rw [e1, e2] at h3
  refine ⟨by simpa using h3, ?_⟩
  rw [List.pairwise_iff_getElem]
  intro i j hi hj hij
  have := hs i j (Nat.zero_le _) hij (by rw [← h1]; simpa using hj)
  rw [lt_less, getElem!_pos d j (by simpa using hj), getElem!_pos d i (by simpa using hi)] at this
  simpa using this
set_option maxHeartbeats 4000000 in
theorem sortfunc_any (g cap : Nat) (l : List Lb) (w : World) (hg : g < w.heap.size) (hH : HoldsK enc 2 w g 0 l.toArray) (hsz : l.length < 4611686018427387904) (hcap : l.length ≤ cap ∧ cap ≤ maxLen) :
    Calls Tryd.prog 33 #[.slice (some ⟨g, 0, none⟩) l.length cap, .func (.func 34) #[] #[]] w fun e w' => e = .returned (.tuple #[]) ∧ ∃ l', Sorted l l' ∧ Came w' (.slice (some ⟨g, 0, none⟩) l.length cap) l' ∧ ∀ base, base ≤ g → RowKit.Below base w w' := by
  have eg : ∀ args w, (callFunc 34 args).run Tryd.prog w = .ok (.enter 34 args) w := enters_of Tryd.func34 (by kernel_rfl) rfl
  have hcon := AnyQ.slices_SortFunc sortL 2 Tryd.isAgg27 Tryd.sizeOf27 enc (fun _ => rfl) (fun x v hv => by simp [enc] at hv; rcases hv with rfl | rfl <;> rfl) cf swo 34 #[] g 0 cap l.toArray w eg (cmp_lays g 0 l.toArray.size w) hH hg (by simpa using hsz)
  have hcon' : Calls Tryd.prog 33 #[.slice (some ⟨g, 0, none⟩) l.length cap, .func (.func 34) #[] #[]] w _ := hcon
  refine hcon'.mono ?_
  rintro e w' ⟨rfl, d', n, os, hp, hs, rfl⟩
  have hd : d'.size = l.length := by rw [hp.1]; simp
  have hh := holdsK_sortWorldK_c enc 2 w g 0 l.toArray d' n os hH hg (by rw [hd]; simp)
  refine ⟨rfl, d'.toList, sorted_of hp hs, ?_, fun base hb => below_sort w base g n d' os hb (by omega)⟩
  have := came_holds (cap := cap) (w := sortWorldK enc 2 w g 0 n d' os) (by show g < ((w.heap.modify g _) ++ os).size; simp; omega) (by rw [show d'.toList.length = l.length by simpa using hd]; exact hcap) hh
  rw [show d'.toList.length = l.length by simpa using hd] at this
  exact this
theorem sortnone_any (a : Option Addr) (cap : Nat) (w : World) : Calls Tryd.prog 33 #[.slice a 0 cap, .func (.func 34) #[] #[]] w fun e w' => e = .returned (.tuple #[]) ∧ w' = w := AnyF.slices_SortFunc_none sortL a cap _ w
set_option maxHeartbeats 4000000 in
theorem sorted_any (v : Value) (l : List Lb) (w : World) (hc : Came w v l) (hg : Good l) :
    Calls Tryd.prog 24 #[v] w fun e w' => ∃ v' l', e = .returned v' ∧ Came w' v' l' ∧ Sorted l l' ∧ RowKit.Below w.heap.size w w' := by
  obtain ⟨i0, hi, hz0, hz1, hz2⟩ := info_parts infoL
  have hl1 := hg.1.1
  have hl2 := hg.1.2
  have HN := hid (fun a cap W => sortnone_any a cap W)
  have HS := hid (fun g cap W h1 h2 h3 => sortfunc_any g cap l W h1 h2 (by omega) h3)
  rcases hc with ⟨rfl, rfl⟩ | ⟨a, cap, rfl, _, h⟩
  · go_enter Tryd.func24, Tryd.ntmps24
    go_wp2_with (first
      | (at_builtin; refine wpList_append_own_none rfl _ _ 22 rfl w.heap.size 27 i0 2 Tryd.underlying22 hi _ 0 [] rfl (World.ownsRow_nil w _ _ _) rfl ?_)
      | (go_at_call 33; refine (HN.out _ _ _).mono ?_; rintro e w1 ⟨rfl, hww⟩; subst hww)
      | go_in)
    go_ret
    exact ⟨_, [], rfl, Or.inl ⟨rfl, rfl⟩, ⟨List.Perm.refl _, List.Pairwise.nil⟩, RowKit.Below.refl _ _⟩
  · have hcell : ∀ j u, (cellsF l)[j]? = some u → w.cell? (a.add j) = some u := by
      rcases h with h | ⟨b, off, rfl, h1, h2⟩
      · intro j u hu
        have := (cellsF_get l j u hu).1
        omega
      · exact cellsF_src l w b off h2
    have HC := hid hcell
    clear h hcell
    go_enter Tryd.func24, Tryd.ntmps24
    go_wp2_with (first
      | (at_builtin; refine wpList_append_own _ rfl _ _ 22 rfl w.heap.size 27 i0 (.agg #[.string ByteArray.empty, .string ByteArray.empty]) 2 32 Tryd.underlying22 hi hz0 hz1 hz2 rfl (by decide) _ 0 [] rfl (World.ownsRow_nil w _ _ _) a l.length cap (cellsF l) rfl (cellsF_len l) ?_ (cellsF_one l) (by omega) (by omega) (by simp) ?_)
      | go_in)
    · exact HC.out
    · intro v' w1 hown hgrow _
      have HB2 := hid (show RowKit.Below w.heap.size w w1 from (RowKit.Below.refl _ _).grown hgrow (by simp) (fun k hk => by simp [Value.ownBlock] at hk))
      have HO := hid hown
      obtain ⟨_, h2⟩ := hown
      clear hgrow
      rcases h2 with ⟨rfl, hz⟩ | ⟨g, cap', cur, rfl, hb, hh, hle, hm, hs, ht⟩
      · obtain rfl : l = [] := List.length_eq_zero_iff.1 hz
        go_wp2_with fail
        refine (HN.out _ _ _).mono ?_
        rintro e w2 ⟨rfl, hww⟩; subst hww
        go_wp2_with fail
        go_ret
        exact ⟨_, [], rfl, Or.inl ⟨rfl, rfl⟩, ⟨List.Perm.refl _, List.Pairwise.nil⟩, HB2.out⟩
      · have hlt : g < w1.heap.size := by
          apply Classical.byContradiction
          intro n
          rw [Array.getElem?_eq_none (by omega)] at hh
          cases hh
        have HX := hid (HS.out g cap' w1 hlt (holds_own hh ht) ⟨hle, hm⟩)
        have HG := hid hb
        clear hh hs ht hlt hb
        go_wp2_with fail
        refine HX.out.mono ?_
        rintro e w2 ⟨rfl, l', hsrt, hcame, hbel⟩
        have R := hid (show Sorted l l' ∧ Came w2 (.slice (some ⟨g, 0, none⟩) l.length cap') l' ∧ RowKit.Below w.heap.size w1 w2 from ⟨hsrt, hcame, hbel _ HG.out⟩)
        clear hsrt hcame hbel
        go_wp2_with fail
        go_ret
        exact ⟨_, l', rfl, R.out.2.1, R.out.1, HB2.out.trans R.out.2.2⟩
end Go.Proofs.YtodamoblnlcodaaDoor.L
