import Derived.Test.YtnldagpbmphdhaaGreatDoorLst
import Derived.Test.YtnldagpbmphdhaaGreatDoorLayF
import Derived.Shelf.SlSortCmp.NoneTotal
import Derived.Deep.RegionHeld3
import Derived.Laws.ResultCell
namespace Go.Proofs.YtnldagpbmphdhaaGreatDoor.L
open Go.RowKit Go.Sort Go.Shelf
set_option linter.unusedVariables false
def enc (x : Lb) : List Value := [.string x.1, .string x.2]
def cf (x y : Lb) : Int := Lib.compareBytes x.1.data.toList y.1.data.toList
theorem cmp_less (a b : List UInt8) : decide (Lib.compareBytes a b < 0) = Op.bytesLess a b := by
  induction a generalizing b with
  | nil => cases b <;> rfl
  | cons x a ih => cases b with
    | nil => rfl
    | cons y b =>
      unfold Lib.compareBytes Op.bytesLess
      by_cases h1 : x < y
      · simp [h1]
      · by_cases h2 : y < x
        · have ne : (x == y) = false := by
            simp
            rintro rfl
            rw [UInt8.lt_iff_toNat_lt] at h2
            omega
          simp [h1, h2, ne]
        · have e : x = y := by
            rw [UInt8.lt_iff_toNat_lt] at h1 h2
            exact UInt8.toNat_inj.1 (by omega)
          subst e
          simp [h1, ih]
theorem lt_less (x y : Lb) : ltOf cf x y = Op.bytesLess x.1.toList y.1.toList := by
  unfold ltOf cf
  rw [cmp_less, ByteArray.toList_eq, ByteArray.toList_eq]
theorem swo : SWO (ltOf cf) where
  irrefl x := by rw [lt_less]; exact less_irrefl _
  trans x y z h1 h2 := by rw [lt_less] at *; exact less_trans _ _ _ h1 h2
  ntrans x y z h1 h2 := by
    rw [lt_less] at *
    cases e : Op.bytesLess x.1.toList z.1.toList
    · rfl
    · rcases less_total x.1.toList y.1.toList with g | g | g
      · rw [h1] at g; cases g
      · rw [← g, e] at h2; cases h2
      · rw [less_trans _ _ _ g e] at h2; cases h2
set_option maxHeartbeats 1000000 in
theorem closure_any (x y : Lb) (W : World) : Calls Tryz.prog 34 #[.agg #[.string x.1, .string x.2], .agg #[.string y.1, .string y.2]] W fun e w' => e = .returned (.int .i64 (cf x y)) ∧ ∃ q os', w' = grow (W.drewN q) os' := by
  have HC := hid (fun W' => cmp_any x.1 y.1 W')
  unfold cf
  generalize Lib.compareBytes x.1.data.toList y.1.data.toList = r at *
  go_enter Tryz.func34, Tryz.ntmps34
  go_wp2_with fail
  refine (HC.out _).mono ?_
  rintro e w1 ⟨rfl, hww⟩; subst hww
  go_wp2_with fail
  go_ret
  exact ⟨rfl, 0, _, by rw [alloc_eq_grow, alloc_eq_grow, grow_grow]; rfl⟩
theorem cmp_lays (blk off size : Nat) (w : World) : CmpLays Tryz.prog 34 #[] enc 2 cf blk off size w := fun _ _ _ _ x y => closure_any x y _
theorem below_sort (w : World) (base g n : Nat) (d : Array Lb) (os : Array Obj) (hb : base ≤ g) (hw : base ≤ w.heap.size) : RowKit.Below base w (sortWorldK enc 2 w g 0 n d os) := by
  refine ⟨rfl, rfl, rfl, ?_, fun k hk => ?_⟩
  · show w.heap.size ≤ ((w.heap.modify g _) ++ os).size
    simp
  · show ((w.heap.modify g _) ++ os)[k]? = _
    rw [Array.getElem?_append_left (by simp; omega), Array.getElem?_modify, if_neg (by omega)]
theorem holds_own {w : World} {g : Nat} {cur : Array Value} {t : TypeId} {l : List Lb} (hh : w.heap[g]? = some (.cells cur t)) (ht : cur.toList.take (l.length * 2) = cellsF l) : HoldsK enc 2 w g 0 l.toArray := by
  intro j hj
  rw [size_flatK] at hj
  have hj' : j < l.length * 2 := by simpa using hj
  rw [get_flatK _ _ _ _ hj]
  refine ⟨?_, ?_⟩
  · obtain ⟨a1, a2⟩ := cellsF_at l (j / 2) (by omega)
    have key : ∀ k u, (cellsF l)[k]? = some u → w.cell? ⟨g, 0 + k, none⟩ = some u := by
      intro k u hu
      have hk := (cellsF_get l k u hu).1
      rw [← ht, List.getElem?_take, if_pos (by omega)] at hu
      simp [World.cell?, hh]
      simpa using hu
    have e : l.toArray[j / 2]! = (ky l (j / 2), vl l (j / 2)) := by
      rw [getElem!_pos _ _ (by simp; omega)]
      simp
      exact kv_get l (j / 2) (by omega)
    rw [e]
    by_cases h2 : j % 2 = 0
    · rw [h2]
      rw [show j / 2 * 2 = j by omega] at a1
      exact key j _ a1
    · rw [show j % 2 = 1 by omega]
      rw [show j / 2 * 2 + 1 = j by omega] at a2
      exact key j _ a2
  · unfold World.frozen?
    rw [hh]
    simp
theorem came_holds {w : World} {g cap : Nat} {d : Array Lb} (hg : g < w.heap.size) (hcap : d.toList.length ≤ cap ∧ cap ≤ maxLen) (h : HoldsK enc 2 w g 0 d) : Came w (.slice (some ⟨g, 0, none⟩) d.toList.length cap) d.toList := by
  refine Or.inr ⟨_, cap, rfl, hcap, Or.inr ⟨g, 0, rfl, hg, fun j hj => ?_⟩⟩
  have hj' : j < d.size := by simpa using hj
  have c0 := (HoldsK.cell h hj' (show 0 < 2 by decide)).1
  have c1 := (HoldsK.cell h hj' (show 1 < 2 by decide)).1
  have e : d[j]! = (ky d.toList j, vl d.toList j) := by
    rw [getElem!_pos d j hj']
    have := kv_get d.toList j hj
    simpa using this
  rw [e] at c0 c1
  exact ⟨c0, c1⟩
/-- A list in its order. -/
def Sorted (l l' : List Lb) : Prop := l'.Perm l ∧ l'.Pairwise fun x y => Op.bytesLess y.1.toList x.1.toList = false
theorem sorted_of {l : List Lb} {d : Array Lb} (hp : PermIn 0 l.toArray.size l.toArray d) (hs : SortedIn (ltOf cf) 0 l.toArray.size d) : Sorted l d.toList := by
  obtain ⟨h1, _, h3⟩ := hp
  have e1 : d.extract 0 l.toArray.size = d := by rw [← h1]; simp
  have e2 : l.toArray.extract 0 l.toArray.size = l.toArray := by simp
  rw [e1, e2] at h3
  refine ⟨by simpa using h3, ?_⟩
  rw [List.pairwise_iff_getElem]
  intro i j hi hj hij
  have := hs i j (Nat.zero_le _) hij (by rw [← h1]; simpa using hj)
  rw [lt_less, getElem!_pos d j (by simpa using hj), getElem!_pos d i (by simpa using hi)] at this
  simpa using this
set_option maxHeartbeats 4000000 in
theorem sortfunc_any (g cap : Nat) (l : List Lb) (w : World) (hg : g < w.heap.size) (hH : HoldsK enc 2 w g 0 l.toArray) (hsz : l.length < 4611686018427387904) (hcap : l.length ≤ cap ∧ cap ≤ maxLen) :
    Calls Tryz.prog 33 #[.slice (some ⟨g, 0, none⟩) l.length cap, .func (.func 34) #[] #[]] w fun e w' => e = .returned (.tuple #[]) ∧ ∃ l', Sorted l l' ∧ Came w' (.slice (some ⟨g, 0, none⟩) l.length cap) l' ∧ ∀ base, base ≤ g → RowKit.Below base w w' := by
  have eg : ∀ args w, (callFunc 34 args).run Tryz.prog w = .ok (.enter 34 args) w := enters_of Tryz.func34 (by kernel_rfl) rfl
  have hcon := AnyQ.slices_SortFunc sortL 2 Tryz.isAgg35 Tryz.sizeOf35 enc (fun _ => rfl) (fun x v hv => by simp [enc] at hv; rcases hv with rfl | rfl <;> rfl) cf swo 34 #[] g 0 cap l.toArray w eg (cmp_lays g 0 l.toArray.size w) hH hg (by simpa using hsz)
  have hcon' : Calls Tryz.prog 33 #[.slice (some ⟨g, 0, none⟩) l.length cap, .func (.func 34) #[] #[]] w _ := hcon
  refine hcon'.mono ?_
  rintro e w' ⟨rfl, d', n, os, hp, hs, rfl⟩
  have hd : d'.size = l.length := by rw [hp.1]; simp
  have hh := holdsK_sortWorldK_c enc 2 w g 0 l.toArray d' n os hH hg (by rw [hd]; simp)
  refine ⟨rfl, d'.toList, sorted_of hp hs, ?_, fun base hb => below_sort w base g n d' os hb (by omega)⟩
  have := came_holds (cap := cap) (w := sortWorldK enc 2 w g 0 n d' os) (by show g < ((w.heap.modify g _) ++ os).size; simp; omega) (by rw [show d'.toList.length = l.length by simpa using hd]; exact hcap) hh
  rw [show d'.toList.length = l.length by simpa using hd] at this
  exact this
theorem sortnone_any (a : Option Addr) (cap : Nat) (w : World) : Calls Tryz.prog 33 #[.slice a 0 cap, .func (.func 34) #[] #[]] w fun e w' => e = .returned (.tuple #[]) ∧ w' = w := AnyF.slices_SortFunc_none sortL a cap _ w
set_option maxHeartbeats 4000000 in
theorem sorted_any (v : Value) (l : List Lb) (w : World) (hc : Came w v l) (hg : Good l) :
    Calls Tryz.prog 19 #[v] w fun e w' => ∃ v' l', e = .returned v' ∧ Came w' v' l' ∧ Sorted l l' ∧ RowKit.Below w.heap.size w w' := by
  obtain ⟨i0, hi, hz0, hz1, hz2⟩ := info_parts infoL
  have hl1 := hg.1.1
  have hl2 := hg.1.2
  have HN := hid (fun a cap W => sortnone_any a cap W)
  have HS := hid (fun g cap W h1 h2 h3 => sortfunc_any g cap l W h1 h2 (by omega) h3)
  rcases hc with ⟨rfl, rfl⟩ | ⟨a, cap, rfl, _, h⟩
  · go_enter Tryz.func19, Tryz.ntmps19
    go_wp2_with (first
      | (at_builtin; refine wpList_append_own_none rfl _ _ 27 rfl w.heap.size 35 i0 2 Tryz.underlying27 hi _ 0 [] rfl (World.ownsRow_nil w _ _ _) rfl ?_)
      | (go_at_call 33; refine (HN.out _ _ _).mono ?_; rintro e w1 ⟨rfl, hww⟩; subst hww)
      | go_in)
    go_ret
    exact ⟨_, [], rfl, Or.inl ⟨rfl, rfl⟩, ⟨List.Perm.refl _, List.Pairwise.nil⟩, RowKit.Below.refl _ _⟩
  · have hcell : ∀ j u, (cellsF l)[j]? = some u → w.cell? (a.add j) = some u := by
      rcases h with h | ⟨b, off, rfl, h1, h2⟩
      · intro j u hu
        have := (cellsF_get l j u hu).1
        omega
      · exact cellsF_src l w b off h2
    have HC := hid hcell
    clear h hcell
    go_enter Tryz.func19, Tryz.ntmps19
    go_wp2_with (first
      | (at_builtin; refine wpList_append_own _ rfl _ _ 27 rfl w.heap.size 35 i0 (.agg #[.string ByteArray.empty, .string ByteArray.empty]) 2 32 Tryz.underlying27 hi hz0 hz1 hz2 rfl (by decide) _ 0 [] rfl (World.ownsRow_nil w _ _ _) a l.length cap (cellsF l) rfl (cellsF_len l) ?_ (cellsF_one l) (by omega) (by omega) (by simp) ?_)
      | go_in)
    · exact HC.out
    · intro v' w1 hown hgrow _
      have HB2 := hid (show RowKit.Below w.heap.size w w1 from (RowKit.Below.refl _ _).grown hgrow (by simp) (fun k hk => by simp [Value.ownBlock] at hk))
      have HO := hid hown
      obtain ⟨_, h2⟩ := hown
      clear hgrow
      rcases h2 with ⟨rfl, hz⟩ | ⟨g, cap', cur, rfl, hb, hh, hle, hm, hs, ht⟩
      · obtain rfl : l = [] := List.length_eq_zero_iff.1 hz
        go_wp2_with fail
        refine (HN.out _ _ _).mono ?_
        rintro e w2 ⟨rfl, hww⟩; subst hww
        go_wp2_with fail
        go_ret
        exact ⟨_, [], rfl, Or.inl ⟨rfl, rfl⟩, ⟨List.Perm.refl _, List.Pairwise.nil⟩, HB2.out⟩
      · have hlt : g < w1.heap.size := by
          apply Classical.byContradiction
          intro n
          rw [Array.getElem?_eq_none (by omega)] at hh
          cases hh
        have HX := hid (HS.out g cap' w1 hlt (holds_own hh ht) ⟨hle, hm⟩)
        have HG := hid hb
        clear hh hs ht hlt hb
        go_wp2_with fail
        refine HX.out.mono ?_
        rintro e w2 ⟨rfl, l', hsrt, hcame, hbel⟩
        have R := hid (show Sorted l l' ∧ Came w2 (.slice (some ⟨g, 0, none⟩) l.length cap') l' ∧ RowKit.Below w.heap.size w1 w2 from ⟨hsrt, hcame, hbel _ HG.out⟩)
        clear hsrt hcame hbel
        go_wp2_with fail
        go_ret
        exact ⟨_, l', rfl, R.out.2.1, R.out.1, HB2.out.trans R.out.2.2⟩
end Go.Proofs.YtnldagpbmphdhaaGreatDoor.L
namespace Go.Proofs.YtnldagpbmphdhaaGreatDoor.L
open Go.RowKit
set_option linter.unusedVariables false
def mkF (l : List Lb) (k : Nat) : Int := if labE (ky l k) (vl l k) = 0 then (if (getN (l.take k) (ky l k)).2 = true then 33 else 0) else labE (ky l k) (vl l k)
def mkS (l : List Lb) : Nat → Nat → ByteArray × Int
  | 0, _ => (ByteArray.empty, 0)
  | n + 1, k => if mkF l k = 0 then mkS l n (k + 1) else (ky l k, mkF l k)
def makeN (l : List Lb) : ByteArray × Int := if 32 < l.length then (ByteArray.empty, 34) else mkS l l.length 0
theorem mkS_step (l : List Lb) (len k : Nat) (h : k < len) : mkS l (len - k) k = if mkF l k = 0 then mkS l (len - (k + 1)) (k + 1) else (ky l k, mkF l k) := by
  obtain ⟨n, hn⟩ : ∃ n, len - k = n + 1 := ⟨len - k - 1, by omega⟩
  rw [hn, show len - (k + 1) = n by omega]
  rfl
set_option maxHeartbeats 4000000 in
theorem make_many (v : Value) (l : List Lb) (w : World) (hi : Items w v l) (hl : l.length ≤ maxLen) (h : 32 < l.length) : Calls Tryz.prog 49 #[v] w fun e w' => e = .returned (.tuple #[.slice none 0 0, .string ByteArray.empty, .int .i64 34]) ∧ w' = w := by
  obtain ⟨a, cap, rfl, hi⟩ := hi
  unfold maxLen at hl
  generalize l.length = len at *
  clear hi
  go_enter Tryz.func49, Tryz.ntmps49
  go_wp2
  go_ret3
  exact ⟨rfl, rfl⟩
theorem items_take {W : World} {a : Option Addr} {cap k : Nat} {l : List Lb} (h : Items W (.slice a l.length cap) l) (hk : k < l.length) (cap' : Nat) : Items W (.slice a k cap') (l.take k) := by
  obtain ⟨a', c', e, h⟩ := h
  cases e
  have hl : (l.take k).length = k := by rw [List.length_take]; omega
  refine ⟨a, cap', by rw [hl], ?_⟩
  rcases h with h | ⟨b, off, rfl, h1, h2⟩
  · omega
  · refine Or.inr ⟨b, off, rfl, h1, fun j hj => ?_⟩
    rw [hl] at hj
    have e1 : ky (l.take k) j = ky l j := by
      unfold ky
      simp [hj]
    have e2 : vl (l.take k) j = vl l j := by
      unfold vl
      simp [hj]
    rw [e1, e2]
    exact h2 j (by omega)
set_option maxHeartbeats 4000000 in
theorem make_few (v : Value) (l : List Lb) (w : World) (hc : Came w v l) (hg : Good l) (h : l.length ≤ 32) : Calls Tryz.prog 49 #[v] w fun e w' => ∃ v' l', e = .returned (.tuple #[v', .string (makeN l).1, .int .i64 (makeN l).2]) ∧ RowKit.Below w.heap.size w w' ∧ (((makeN l).2 ≠ 0 ∧ v' = .slice none 0 0) ∨ ((makeN l).2 = 0 ∧ Came w' v' l' ∧ Sorted l l')) := by
  have HCAME := hid hc
  have HI := hid hc.items
  have HSR := hid (fun W (hb : RowKit.Below w.heap.size w W) => sorted_any v l W (hc.low hb) hg)
  obtain ⟨a, cap, rfl, hi, hcap⟩ : ∃ a cap, v = .slice a l.length cap ∧ (l.length = 0 ∨ ∃ b off, a = some ⟨b, off, none⟩ ∧ b < w.heap.size ∧ ∀ j, j < l.length → w.cell? ⟨b, off + j * 2, none⟩ = some (.string (ky l j)) ∧ w.cell? ⟨b, off + j * 2 + 1, none⟩ = some (.string (vl l j))) ∧ l.length ≤ cap := by
    rcases hc with ⟨rfl, rfl⟩ | ⟨a, cap, rfl, hcap, h⟩
    · exact ⟨none, 0, rfl, Or.inl rfl, Nat.zero_le _⟩
    · refine ⟨some a, cap, rfl, ?_, hcap.1⟩
      rcases h with h | ⟨b, off, rfl, h1, h2⟩
      · exact Or.inl h
      · exact Or.inr ⟨b, off, rfl, h1, h2⟩
  have HR := hid (show makeN l = mkS l (l.length - 0) 0 by unfold makeN; rw [if_neg (by omega)]; rfl)
  have HG := hid hg.2
  obtain ⟨len, hlen⟩ : ∃ n, n = l.length := ⟨_, rfl⟩
  have HLEN := hid hlen
  rw [← hlen] at h hi HR HI HSR hcap ⊢
  clear hg hlen hc HCAME
  go_enter Tryz.func49, Tryz.ntmps49
  go_wp2
  go_loopw [13] (fun i wr => ∃ k : Nat, k ≤ len ∧ i = .int .i64 k ∧ Hid (Below w.heap.size w wr) ∧ Hid (makeN l = mkS l (len - k) k)) (fun i _ => len - (intOf i).toNat)
  case atStart => exact ⟨0, Nat.zero_le _, rfl, hid (Below.refl _ _), HR⟩
  case round =>
    obtain ⟨k, hk, rfl, HB, HK⟩ := hrel
    by_cases hlt : k < len
    · rcases hi with h0 | ⟨b, off, rfl, hbl, hc⟩
      · omega
      obtain ⟨c0, c1⟩ := hc k hlt
      rw [← HB.out.cell (p := ⟨b, off + k * 2, none⟩) hbl] at c0
      rw [← HB.out.cell (p := ⟨b, off + k * 2 + 1, none⟩) hbl] at c1
      have g1 : (0 : Int) ≤ (k : Int) := by omega
      have g2 : (k : Int) ≤ (cap : Int) := by omega
      have hsz : b < wr.heap.size := Nat.lt_of_lt_of_le hbl HB.out.size
      have hkl : k < l.length := by rw [← HLEN.out]; exact hlt
      have hn := HG.out _ (kv_mem l k hkl)
      have HL := hid (fun W => label_any (ky l k) (vl l k) W hn.1 hn.2)
      have HIT : ∀ c', Items w (.slice (some ⟨b, off, none⟩) k c') (l.take k) := fun c' => items_take (cap := cap) (by rw [← HLEN.out]; exact HI.out) hkl c'
      have HH := hid (fun c' W (hb : Below w.heap.size w W) => has_any (.slice (some ⟨b, off, none⟩) k c') (l.take k) (ky l k) W ((HIT c').low hb) (by unfold maxLen; rw [List.length_take]; omega) hn.1)
      clear HIT
      have st := HK.out.trans (mkS_step l len k hlt)
      unfold mkF at st
      rcases labE_cases (ky l k) (vl l k) with e1 | e1 | e1
      · rw [if_pos e1] at st
        rw [e1] at HL
        cases e2 : (getN (l.take k) (ky l k)).2
        · rw [if_neg (show ¬ (getN (l.take k) (ky l k)).2 = true by rw [e2]; decide), if_pos rfl] at st
          rw [e2] at HH
          have HF := hid st
          generalize ky l k = s' at *
          generalize vl l k = n at *
          clear hc st e1 e2 hn
          go_wp2_with fail
          refine (HL.out _).mono ?_
          rintro e w1 ⟨rfl, hb⟩
          have hx : w1.cell? ⟨wr.heap.size, 0, none⟩ = some (.string s') := by
            rw [hb.cell (p := ⟨wr.heap.size, 0, none⟩) (by simp)]
            simp
          have hz : wr.heap.size < w1.heap.size := Nat.lt_of_lt_of_le (by simp) hb.size
          have HB1 := hid ((HB.out.alloc HB.out.size _).trans (hb.mono (HB.out.alloc HB.out.size _).size))
          clear hb
          go_wp2_with fail
          have T0 : w1.drew.cell? ⟨wr.heap.size, 0, none⟩ = some (.string s') := hx
          go_region_held3 (fun W => W.cell? ⟨wr.heap.size, 0, none⟩ = some (.string s'))
            (first | exact T0 | exact T1)
            (first | (go_at_call 18; refine (HH.out _ _ HB1.out.drew).mono ?_; rintro e w2 ⟨rfl, hb2⟩; have T1 : w2.cell? ⟨wr.heap.size, 0, none⟩ = some (.string s') := (hb2.cell (p := ⟨wr.heap.size, 0, none⟩) hz).trans hx; have D2 := hid hb2; clear hb2))
          have HB2 := hid (HB1.out.drew.trans (D2.out.mono HB1.out.size))
          clear T0
          go_wp2_with fail
          exact ⟨⟨k + 1, by omega, by go_num, hid HB2.out, HF⟩, by simp [intOf]; omega⟩
        · rw [if_pos e2, if_neg (show ¬ (33 : Int) = 0 by decide)] at st
          rw [e2] at HH
          have HF := hid st
          generalize ky l k = s' at *
          generalize vl l k = n at *
          clear hc st e1 e2 hn
          go_wp2_with fail
          refine (HL.out _).mono ?_
          rintro e w1 ⟨rfl, hb⟩
          have hx : w1.cell? ⟨wr.heap.size, 0, none⟩ = some (.string s') := by
            rw [hb.cell (p := ⟨wr.heap.size, 0, none⟩) (by simp)]
            simp
          have hz : wr.heap.size < w1.heap.size := Nat.lt_of_lt_of_le (by simp) hb.size
          have HB1 := hid ((HB.out.alloc HB.out.size _).trans (hb.mono (HB.out.alloc HB.out.size _).size))
          clear hb
          go_wp2_with fail
          have T0 : w1.drew.cell? ⟨wr.heap.size, 0, none⟩ = some (.string s') := hx
          go_region_held3 (fun W => W.cell? ⟨wr.heap.size, 0, none⟩ = some (.string s'))
            (first | exact T0 | exact T1)
            (first | (go_at_call 18; refine (HH.out _ _ HB1.out.drew).mono ?_; rintro e w2 ⟨rfl, hb2⟩; have T1 : w2.cell? ⟨wr.heap.size, 0, none⟩ = some (.string s') := (hb2.cell (p := ⟨wr.heap.size, 0, none⟩) hz).trans hx; have D2 := hid hb2; clear hb2))
          have HB2 := hid (HB1.out.drew.trans (D2.out.mono HB1.out.size))
          clear T0
          go_wp2_with fail
          go_quiet (fail)
          go_wp2_with fail
          go_ret3
          exact ⟨_, [], by rw [HF.out]; rfl, below_drewN HB2.out _, Or.inl ⟨by rw [HF.out]; simp, rfl⟩⟩
      · rw [e1, if_neg (show ¬ (31 : Int) = 0 by decide), if_neg (show ¬ (31 : Int) = 0 by decide)] at st
        rw [e1] at HL
        have HF := hid st
        generalize ky l k = s' at *
        generalize vl l k = n at *
        clear hc st e1 hn
        go_wp2_with fail
        refine (HL.out _).mono ?_
        rintro e w1 ⟨rfl, hb⟩
        have hx : w1.cell? ⟨wr.heap.size, 0, none⟩ = some (.string s') := by
          rw [hb.cell (p := ⟨wr.heap.size, 0, none⟩) (by simp)]
          simp
        have hz : wr.heap.size < w1.heap.size := Nat.lt_of_lt_of_le (by simp) hb.size
        have HB1 := hid ((HB.out.alloc HB.out.size _).trans (hb.mono (HB.out.alloc HB.out.size _).size))
        clear hb
        go_wp2_with fail
        go_quiet (fail)
        go_wp2_with fail
        go_ret3
        exact ⟨_, [], by rw [HF.out]; rfl, below_drewN HB1.out _, Or.inl ⟨by rw [HF.out]; simp, rfl⟩⟩
      · rw [e1, if_neg (show ¬ (32 : Int) = 0 by decide), if_neg (show ¬ (32 : Int) = 0 by decide)] at st
        rw [e1] at HL
        have HF := hid st
        generalize ky l k = s' at *
        generalize vl l k = n at *
        clear hc st e1 hn
        go_wp2_with fail
        refine (HL.out _).mono ?_
        rintro e w1 ⟨rfl, hb⟩
        have hx : w1.cell? ⟨wr.heap.size, 0, none⟩ = some (.string s') := by
          rw [hb.cell (p := ⟨wr.heap.size, 0, none⟩) (by simp)]
          simp
        have hz : wr.heap.size < w1.heap.size := Nat.lt_of_lt_of_le (by simp) hb.size
        have HB1 := hid ((HB.out.alloc HB.out.size _).trans (hb.mono (HB.out.alloc HB.out.size _).size))
        clear hb
        go_wp2_with fail
        go_quiet (fail)
        go_wp2_with fail
        go_ret3
        exact ⟨_, [], by rw [HF.out]; rfl, below_drewN HB1.out _, Or.inl ⟨by rw [HF.out]; simp, rfl⟩⟩
    · obtain rfl : k = len := by omega
      have HF := hid (show makeN l = (ByteArray.empty, 0) by rw [HK.out, Nat.sub_self]; rfl)
      go_wp2_with fail
      refine (HSR.out _ HB.out).mono ?_
      rintro e w2 ⟨v', l', rfl, hcm, hst, hb⟩
      have R := hid (show Came w2 v' l' ∧ Sorted l l' ∧ Below w.heap.size w w2 from ⟨hcm, hst, HB.out.trans (hb.mono HB.out.size)⟩)
      clear hcm hst hb
      go_wp2_with fail
      go_ret3
      exact ⟨_, l', by rw [HF.out]; rfl, R.out.2.2, Or.inr ⟨by rw [HF.out], R.out.1, R.out.2.1⟩⟩
theorem make_any (v : Value) (l : List Lb) (w : World) (hc : Came w v l) (hg : Good l) : Calls Tryz.prog 49 #[v] w fun e w' => ∃ v' l', e = .returned (.tuple #[v', .string (makeN l).1, .int .i64 (makeN l).2]) ∧ RowKit.Below w.heap.size w w' ∧ (((makeN l).2 ≠ 0 ∧ v' = .slice none 0 0) ∨ ((makeN l).2 = 0 ∧ Came w' v' l' ∧ Sorted l l')) := by
  by_cases h : 32 < l.length
  · refine (make_many v l w hc.items hg.1.1 h).mono ?_
    rintro e w' ⟨rfl, rfl⟩
    have e : makeN l = (ByteArray.empty, 34) := by unfold makeN; rw [if_pos h]
    rw [e]
    exact ⟨_, [], rfl, Below.refl _ _, Or.inl ⟨by decide, rfl⟩⟩
  · exact make_few v l w hc hg (by omega)
end Go.Proofs.YtnldagpbmphdhaaGreatDoor.L
namespace Go.Proofs.YtnldagpbmphdhaaGreatDoor.L
set_option linter.unusedVariables false
theorem ky_succ (x : Lb) (l : List Lb) (k : Nat) : ky (x :: l) (k + 1) = ky l k := rfl
theorem gt_succ (x : Lb) (l : List Lb) (s : ByteArray) (n k : Nat) : gt (x :: l) s n (k + 1) = gt l s n k := by
  induction n generalizing k with
  | zero => rfl
  | succ n ih =>
    unfold gt
    rw [ky_succ, ih]
    rfl
theorem get_cons (x : Lb) (l : List Lb) (s : ByteArray) : getN (x :: l) s = if x.1 = s then (x.2, true) else getN l s := by
  show (if eqS (ky (x :: l) 0) s = true then (vl (x :: l) 0, true) else gt (x :: l) s l.length (0 + 1)) = _
  rw [gt_succ]
  by_cases h : x.1 = s
  · rw [if_pos h, if_pos (show eqS (ky (x :: l) 0) s = true from eqS_iff.2 h)]
    rfl
  · rw [if_neg h, if_neg (show ¬ eqS (ky (x :: l) 0) s = true from fun e => h (eqS_iff.1 e))]
    rfl
theorem get_no {l : List Lb} {s : ByteArray} (h : (getN l s).2 = false) : getN l s = (ByteArray.empty, false) ∧ ∀ x ∈ l, x.1 ≠ s := by
  induction l with
  | nil => exact ⟨rfl, fun x hx => by simp at hx⟩
  | cons x l ih =>
    rw [get_cons] at h ⊢
    by_cases e : x.1 = s
    · rw [if_pos e] at h; cases h
    · rw [if_neg e] at h ⊢
      refine ⟨(ih h).1, fun y hy => ?_⟩
      rcases List.mem_cons.1 hy with rfl | hy
      · exact e
      · exact (ih h).2 y hy
theorem get_yes {l : List Lb} {s : ByteArray} (h : (getN l s).2 = true) : getN l s = ((getN l s).1, true) ∧ (s, (getN l s).1) ∈ l := by
  induction l with
  | nil => cases h
  | cons x l ih =>
    rw [get_cons] at h ⊢
    by_cases e : x.1 = s
    · rw [if_pos e]
      subst e
      exact ⟨rfl, by simp⟩
    · rw [if_neg e] at h ⊢
      exact ⟨(ih h).1, List.mem_cons_of_mem _ (ih h).2⟩
theorem get_none {l : List Lb} {s : ByteArray} (h : ∀ x ∈ l, x.1 ≠ s) : getN l s = (ByteArray.empty, false) := by
  cases e : (getN l s).2
  · exact (get_no e).1
  · exact absurd rfl (h _ (get_yes e).2)
theorem get_up {l : List Lb} {x : Lb} (hu : Up l) (h : x ∈ l) : getN l x.1 = (x.2, true) := by
  cases e : (getN l x.1).2
  · exact absurd rfl ((get_no e).2 x h)
  · obtain ⟨h1, h2⟩ := get_yes e
    have := up_key hu h h2 rfl
    rw [h1]
    exact congrArg (fun z : Lb => (z.2, true)) this.symm
/-- A label list. -/
structure OkL (l : List Lb) : Prop where
  len : l.length ≤ 32
  up : Up l
  lab : ∀ x ∈ l, labE x.1 x.2 = 0
theorem lab_ok {k v : ByteArray} (h : labE k v = 0) : keyB k = true ∧ valB v = true := by
  unfold labE at h
  split at h
  · cases h
  · rename_i h1
    split at h
    · cases h
    · rename_i h2
      exact ⟨by simpa using h1, by simpa using h2⟩
theorem key_empty : keyB ⟨#[]⟩ = false := by decide +kernel
theorem key_ne {k : ByteArray} (h : keyB k = true) : k ≠ ⟨#[]⟩ := by
  rintro rfl
  rw [key_empty] at h
  cases h
theorem up_at {l : List Lb} (h : Up l) {i j : Nat} (hij : i < j) (hj : j < l.length) : Op.bytesLess (ky l i).toList (ky l j).toList = true := by
  have := List.pairwise_iff_getElem.1 h i j (by omega) hj hij
  rw [kv_get l i (by omega), kv_get l j hj] at this
  exact this
theorem rise_ok {l : List Lb} (h : OkL l) (k : Nat) (hk : k < l.length) : flt l k = 0 := by
  unfold flt
  have hl := h.lab _ (kv_mem l k hk)
  rw [if_pos hl]
  unfold riseE prv
  by_cases h0 : k = 0
  · subst h0
    rw [if_pos rfl, if_neg, if_neg]
    · intro e
      have : (⟨#[]⟩ : ByteArray).toList = [] := by rw [ByteArray.toList_eq]
      rw [this] at e
      cases hh : (ky l 0).toList <;> rw [hh] at e <;> cases e
    · intro e
      exact key_ne (lab_ok hl).1 (eqS_iff.1 e)
  · rw [if_neg h0]
    have := up_at h.up (show k - 1 < k by omega) hk
    obtain ⟨a, b, c⟩ := less_asymm _ _ this
    unfold eqS
    rw [c, a]
    rfl
theorem chk_ok (l : List Lb) (n k : Nat) (h : ∀ j, k ≤ j → j < k + n → flt l j = 0) : chk l n k = (0, 0) := by
  induction n generalizing k with
  | zero => rfl
  | succ n ih =>
    unfold chk
    rw [if_pos (h k (by omega) (by omega))]
    exact ih (k + 1) fun j h1 h2 => h j (by omega) (by omega)
theorem check_ok {l : List Lb} (h : OkL l) : checkN l = (0, 0) := by
  unfold checkN
  rw [if_neg (by have := h.len; omega)]
  exact chk_ok l _ 0 fun j _ hj => rise_ok h j (by omega)
theorem mkS_ok (l : List Lb) (n k : Nat) (h : (mkS l n k).2 = 0) : ∀ j, k ≤ j → j < k + n → mkF l j = 0 := by
  induction n generalizing k with
  | zero => intro j h1 h2; omega
  | succ n ih =>
    unfold mkS at h
    split at h
    · rename_i h0
      intro j h1 h2
      by_cases e : j = k
      · rw [e]; exact h0
      · exact ih (k + 1) h j (by omega) (by omega)
    · rename_i h0
      exact absurd h h0
def Dist (l : List Lb) : Prop := l.Pairwise fun x y => x.1 ≠ y.1
theorem make_ok {l : List Lb} (h : (makeN l).2 = 0) : makeN l = (ByteArray.empty, 0) ∧ l.length ≤ 32 ∧ Dist l ∧ ∀ x ∈ l, labE x.1 x.2 = 0 := by
  unfold makeN at h ⊢
  by_cases hl : 32 < l.length
  · rw [if_pos hl] at h; cases h
  · rw [if_neg hl] at h ⊢
    have each := mkS_ok l _ 0 h
    have lab : ∀ j, j < l.length → labE (ky l j) (vl l j) = 0 ∧ (getN (l.take j) (ky l j)).2 = false := by
      intro j hj
      have := each j (by omega) (by omega)
      unfold mkF at this
      split at this
      · rename_i h0
        split at this
        · cases this
        · rename_i h1
          exact ⟨h0, by simpa using h1⟩
      · rename_i h0
        exact absurd this h0
    refine ⟨?_, by omega, ?_, ?_⟩
    · have key : ∀ n k, (∀ j, k ≤ j → j < k + n → mkF l j = 0) → mkS l n k = (ByteArray.empty, 0) := by
        intro n
        induction n with
        | zero => intro k _; rfl
        | succ n ih =>
          intro k hk
          unfold mkS
          rw [if_pos (hk k (by omega) (by omega))]
          exact ih (k + 1) fun j h1 h2 => hk j (by omega) (by omega)
      exact key _ _ each
    · refine List.pairwise_iff_getElem.2 fun i j hi hj hij => ?_
      have := (get_no (lab j hj).2).2 (l[i]) (by
        rw [List.mem_take_iff_getElem]
        exact ⟨i, by omega, rfl⟩)
      rw [kv_get l j hj]
      exact this
    · intro x hx
      obtain ⟨j, hj, rfl⟩ := mem_kv hx
      exact (lab j hj).1
theorem sorted_ok {l l' : List Lb} (hs : Sorted l l') (hd : Dist l) : Up l' := by
  have d' : l'.Pairwise fun x y => x.1 ≠ y.1 := (hs.1.pairwise_iff (fun {x y} h => Ne.symm h)).2 hd
  refine (List.Pairwise.and hs.2 d').imp ?_
  rintro x y ⟨h1, h2⟩
  rcases less_total x.1.toList y.1.toList with g | g | g
  · exact g
  · exact absurd (bytes_ext g) h2
  · rw [h1] at g; cases g
theorem made_ok {l l' : List Lb} (h : (makeN l).2 = 0) (hs : Sorted l l') : OkL l' := by
  obtain ⟨_, a, b, c⟩ := make_ok h
  exact ⟨by rw [hs.1.length_eq]; exact a, sorted_ok hs b, fun x hx => c x (hs.1.mem_iff.1 hx)⟩
theorem ok_good {l : List Lb} (h : OkL l) (hs : ∀ x ∈ l, x.1.size ≤ maxLen ∧ x.2.size ≤ maxLen) : Good l := ⟨⟨by have := h.len; unfold maxLen; omega, by have := h.len; omega⟩, hs⟩
end Go.Proofs.YtnldagpbmphdhaaGreatDoor.L
namespace Go.Proofs.YtnldagpbmphdhaaGreatDoor.L
open Go.RowKit
set_option linter.unusedVariables false
theorem below_undrew {B : Nat} {a w : World} (h : Below B a.drew w) : Below B a w := ⟨h.os, h.tape, h.output, h.size, h.block⟩
theorem below_set {B : Nat} {a w : World} (h : Below B a w) (b o : Nat) (v : Value) (hb : B ≤ b) : Below B a (w.setCell ⟨b, o, none⟩ v) := by
  rw [Go.Sort.setCell_eq]
  refine ⟨h.os, h.tape, h.output, ?_, fun k hk => ?_⟩
  · show a.heap.size ≤ (w.heap.modify b _).size
    simpa using h.size
  · show (w.heap.modify b _)[k]? = _
    rw [Array.getElem?_modify, if_neg (by omega)]
    exact h.block k hk
/-- Two boxes, one behind the other. -/
structure Box (W : World) (b : Nat) (x y k v : Value) : Prop where
  c1 : W.cell? ⟨b + 1, 0, none⟩ = some k
  c2 : W.cell? ⟨b + 1, 1, none⟩ = some v
  c3 : W.cell? ⟨b, 0, none⟩ = some x
  c4 : W.cell? ⟨b, 1, none⟩ = some y
  c5 : W.frozen? ⟨b, 0, none⟩ = false
  c6 : W.frozen? ⟨b, 1, none⟩ = false
theorem two_box (w : World) (n : Nat) (x y k v : Value) (t t' : TypeId) : Box (((w.alloc (.cells #[x, y] t)).drewN n).alloc (.cells #[k, v] t')) w.heap.size x y k v := by
  have h1 : (((w.alloc (.cells #[x, y] t)).drewN n).alloc (.cells #[k, v] t')).heap[w.heap.size + 1]? = some (.cells #[k, v] t') := by
    show ((w.heap.push _).push _)[w.heap.size + 1]? = _
    rw [Array.getElem?_push, if_pos (by simp)]
  have h2 : (((w.alloc (.cells #[x, y] t)).drewN n).alloc (.cells #[k, v] t')).heap[w.heap.size]? = some (.cells #[x, y] t) := by
    show ((w.heap.push _).push _)[w.heap.size]? = _
    rw [Array.getElem?_push, if_neg (by simp)]
    simp
  refine ⟨?_, ?_, ?_, ?_, ?_, ?_⟩
  · unfold World.cell?; rw [h1]; rfl
  · unfold World.cell?; rw [h1]; rfl
  · unfold World.cell?; rw [h2]; rfl
  · unfold World.cell?; rw [h2]; rfl
  · unfold World.frozen?; rw [h2]; rfl
  · unfold World.frozen?; rw [h2]; rfl
theorem Box.low {W W' : World} {b : Nat} {x y k v : Value} (h : Box W b x y k v) (hb : Below W.heap.size W W') (hz : b + 1 < W.heap.size) : Box W' b x y k v := by
  obtain ⟨a1, a2, a3, a4, a5, a6⟩ := h
  refine ⟨?_, ?_, ?_, ?_, ?_, ?_⟩
  · exact (hb.cell (p := ⟨b + 1, 0, none⟩) hz).trans a1
  · exact (hb.cell (p := ⟨b + 1, 1, none⟩) hz).trans a2
  · exact (hb.cell (p := ⟨b, 0, none⟩) (Nat.lt_of_succ_lt hz)).trans a3
  · exact (hb.cell (p := ⟨b, 1, none⟩) (Nat.lt_of_succ_lt hz)).trans a4
  · unfold World.frozen? at *; rw [hb.block b (Nat.lt_of_succ_lt hz)]; exact a5
  · unfold World.frozen? at *; rw [hb.block b (Nat.lt_of_succ_lt hz)]; exact a6
/-- An item of a text: its key, its value, its fault. -/
def itK (x : ByteArray) : ByteArray := if idx x 61 = -1 then ⟨#[]⟩ else x.extract 0 (idx x 61).toNat
def itV (x : ByteArray) : ByteArray := if idx x 61 = -1 then ⟨#[]⟩ else x.extract ((idx x 61).toNat + 1) x.size
def itE (x : ByteArray) : Int := if idx x 61 = -1 then 35 else labE (itK x) (itV x)
theorem it_size (x : ByteArray) : (itK x).size ≤ x.size ∧ (itV x).size ≤ x.size := by
  unfold itK itV
  split
  · exact ⟨Nat.zero_le _, Nat.zero_le _⟩
  · rw [ByteArray.size_extract, ByteArray.size_extract]
    omega
set_option maxHeartbeats 4000000 in
theorem item_any (x : ByteArray) (w : World) (hs : x.size ≤ maxLen) : Calls Tryz.prog 17 #[.string x] w fun e w' => e = .returned (.tuple #[.agg #[.string (itK x), .string (itV x)], .int .i64 (itE x)]) ∧ Below w.heap.size w w' := by
  rcases idx_cases x 61 with h | ⟨i, h, hi⟩
  · have e1 : itK x = ⟨#[]⟩ := by unfold itK; rw [if_pos h]
    have e2 : itV x = ⟨#[]⟩ := by unfold itV; rw [if_pos h]
    have e3 : itE x = 35 := by unfold itE; rw [if_pos h]
    rw [e1, e2, e3]
    have HC := hid (fun W => cut_no x 61 W h)
    clear h e1 e2 e3
    go_enter Tryz.func17, Tryz.ntmps17
    go_wp2_with fail
    refine (HC.out _).mono ?_
    rintro e w1 ⟨rfl, hww⟩; subst hww
    go_wp2_with fail
    (try simp only [Exit.inBlock, Exit.then])
    refine bodyPost_ret (v := .tuple #[.agg #[.string ⟨#[]⟩, .string ⟨#[]⟩], .int .i64 35]) ?_ rfl ⟨rfl, belowA _ _⟩
    rw [results_cell_tmp rfl]
    go_simp
  · have e1 : itK x = x.extract 0 i := by unfold itK; rw [h, if_neg (by omega)]; rfl
    have e2 : itV x = x.extract (i + 1) x.size := by unfold itV; rw [h, if_neg (by omega)]; rfl
    have e3 : itE x = labE (itK x) (itV x) := by unfold itE; rw [h, if_neg (by omega)]
    have z := it_size x
    have HL := hid (fun W => label_any (itK x) (itV x) W (by omega) (by omega))
    have HC := hid (fun W => cut_yes x 61 i W hs h hi)
    rw [e3]
    rw [← e1, ← e2] at HC
    generalize itK x = k at *
    generalize itV x = v at *
    generalize labE k v = er at *
    clear h e1 e2 e3
    go_enter Tryz.func17, Tryz.ntmps17
    go_wp2_with fail
    refine (HC.out _).mono ?_
    rintro e w1 ⟨rfl, n, hww⟩; subst hww
    go_wp2_with fail
    have B0 := hid (show Below w.heap.size w (((w.alloc (.cells #[.string ⟨#[]⟩, .string ⟨#[]⟩] 35)).drewN n).alloc (.cells #[.string k, .string v] 35)) from (below_drewN (belowA _ _) n).alloc (by simp) _)
    have hz : w.heap.size + 1 < (((w.alloc (.cells #[.string ⟨#[]⟩, .string ⟨#[]⟩] 35)).drewN n).alloc (.cells #[.string k, .string v] 35)).heap.size := by simp
    have C0 := two_box w n (.string ⟨#[]⟩) (.string ⟨#[]⟩) (.string k) (.string v) 35 35
    generalize (((w.alloc (.cells #[.string ⟨#[]⟩, .string ⟨#[]⟩] 35)).drewN n).alloc (.cells #[.string k, .string v] 35)) = W0 at *
    have HC0 := hid C0
    have t1 : W0.drew.cell? ⟨w.heap.size + 1, 0, none⟩ = some (.string k) := C0.c1
    have t2 : W0.drew.cell? ⟨w.heap.size + 1, 1, none⟩ = some (.string v) := C0.c2
    have t3 := C0.c3
    have t4 := C0.c4
    have t5 := C0.c5
    have t6 := C0.c6
    clear C0
    go_region_held3 (fun W => W.cell? ⟨w.heap.size + 1, 0, none⟩ = some (.string k) ∧ W.cell? ⟨w.heap.size + 1, 1, none⟩ = some (.string v))
      (first | exact ⟨t1, t2⟩ | exact ⟨s1, s2⟩ | go_keep)
      (first | (go_at_call 31; refine (HL.out _).mono ?_; rintro e w2 ⟨rfl, hb2⟩; have BX : Box w2 w.heap.size (.string ⟨#[]⟩) (.string ⟨#[]⟩) (.string k) (.string v) := HC0.out.low (below_undrew hb2) hz; have s1 : w2.cell? ⟨w.heap.size + 1, 0, none⟩ = some (.string k) := BX.c1; have s2 : w2.cell? ⟨w.heap.size + 1, 1, none⟩ = some (.string v) := BX.c2; have s3 : w2.cell? ⟨w.heap.size, 0, none⟩ = some (.string ⟨#[]⟩) := BX.c3; have s4 : w2.cell? ⟨w.heap.size, 1, none⟩ = some (.string ⟨#[]⟩) := BX.c4; have s5 : w2.frozen? ⟨w.heap.size, 0, none⟩ = false := BX.c5; have s6 : w2.frozen? ⟨w.heap.size, 1, none⟩ = false := BX.c6; have D2 := hid hb2; clear hb2 BX))
    have HB3 := hid (below_set (below_set (B0.out.trans ((below_undrew D2.out).mono B0.out.size)) w.heap.size 0 (.string k) (Nat.le_refl _)) w.heap.size 1 (.string v) (Nat.le_refl _))
    go_wp2_with fail
    (try simp only [Exit.inBlock, Exit.then])
    refine bodyPost_ret (v := .tuple #[.agg #[.string k, .string v], .int .i64 er]) ?_ rfl ⟨rfl, HB3.out⟩
    rw [results_cell_tmp rfl]
    go_simp
end Go.Proofs.YtnldagpbmphdhaaGreatDoor.L
