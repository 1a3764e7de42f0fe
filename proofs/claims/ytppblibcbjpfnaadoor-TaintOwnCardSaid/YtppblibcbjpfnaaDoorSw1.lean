import Derived.Test.YtppblibcbjpfnaaDoorTl2
namespace Go.Proofs.YtppblibcbjpfnaaDoor.L
open Go.RowKit Go.Sort
set_option linter.unusedVariables false
/-- A block of cells that is sorted stays a block of as many cells. -/
theorem sort_block {w : World} {g n : Nat} {d : Array Tn} {os : Array Obj} {cur : Array Value} {t : TypeId} (hh : w.heap[g]? = some (.cells cur t (0, 0))) : ∃ cur', (sortWorldK encT 3 w g 0 n d os).heap[g]? = some (.cells cur' t (0, 0)) ∧ cur'.size = cur.size := by
  have hlt : g < w.heap.size := by
    apply Classical.byContradiction
    intro n
    rw [Array.getElem?_eq_none (by omega)] at hh
    cases hh
  refine ⟨putCells id 0 (flatK encT 3 d) cur, ?_, by simp [putCells]⟩
  show ((w.heap.modify g _) ++ os)[g]? = _
  rw [Array.getElem?_append_left (by simp; omega), Array.getElem?_modify, if_pos rfl, hh]
  rfl
theorem came_own {w : World} {g cap base : Nat} {l : List Tn} {cur : Array Value} (hc : CameT w (.slice (some ⟨g, 0, none⟩) l.length cap) l) (hh : w.heap[g]? = some (.cells cur 23 (0, 0))) (hb : base ≤ g) (hle : l.length ≤ cap) (hm : cap ≤ maxLen) (hs : cur.size = cap * 3) :
    OwnT w base (.slice (some ⟨g, 0, none⟩) l.length cap) l := by
  refine ⟨cellsG_len _ _ l, Or.inr ⟨g, cap, cur, rfl, hb, hh, hle, hm, hs, ?_⟩⟩
  apply List.ext_getElem?
  intro j
  rw [List.getElem?_take]
  by_cases hj : j < l.length * 3
  · rw [if_pos hj]
    obtain ⟨a', c', e', hi⟩ := hc.items
    rcases hi with h0 | ⟨b, off, ea, hat⟩
    · omega
    injection e' with ea' _ _
    rw [ea] at ea'
    injection ea' with ea'
    injection ea' with e1 e2 _
    subst e1 e2
    have hd : j / 3 < l.length := by omega
    have c := hat.2 (j / 3) hd (j % 3) (Nat.mod_lt _ (by decide))
    have a := cellsG_at 3 tf l (j / 3) hd (j % 3) (Nat.mod_lt _ (by decide))
    rw [Nat.div_add_mod' j 3] at a
    rw [a]
    have e3 : 0 + j / 3 * 3 + j % 3 = j := by omega
    unfold World.cell? at c
    rw [hh] at c
    simp only [e3] at c
    simpa using c
  · rw [if_neg hj, List.getElem?_eq_none (by rw [cellsG_len]; omega)]
set_option maxHeartbeats 4000000 in
theorem sortfunc_own (g cap : Nat) (l : List Tn) (w : World) (hg : g < w.heap.size) (hH : HoldsK encT 3 w g 0 l.toArray) (hsz : l.length < 3074457345618258602) (hcap : l.length ≤ cap ∧ cap ≤ maxLen) :
    Calls Tryd.prog 58 #[.slice (some ⟨g, 0, none⟩) l.length cap, .func (.func 44) #[] #[]] w fun e w' => e = .returned (.tuple #[]) ∧ ∃ l', SortedT l l' ∧ CameT w' (.slice (some ⟨g, 0, none⟩) l.length cap) l' ∧ (∀ base, base ≤ g → RowKit.Below base w w') ∧ (∀ cur t, w.heap[g]? = some (.cells cur t (0, 0)) → ∃ cur', w'.heap[g]? = some (.cells cur' t (0, 0)) ∧ cur'.size = cur.size) := by
  have eg : ∀ args w, (callFunc 44 args).run Tryd.prog w = .ok (.enter 44 args) w := enters_of Tryd.func44 (by kernel_rfl) rfl
  have hcon := AnyQ.slices_SortFunc sortL 3 Tryd.isAgg23 Tryd.sizeOf23 encT (fun _ => rfl) (fun x v hv => by simp [encT] at hv; rcases hv with rfl | rfl | rfl <;> rfl) ordI swoT 44 #[] g 0 cap l.toArray w eg (cmp_laysT g 0 l.toArray.size w) hH hg (by simp; omega)
  have hcon' : Calls Tryd.prog 58 #[.slice (some ⟨g, 0, none⟩) l.length cap, .func (.func 44) #[] #[]] w _ := hcon
  refine hcon'.mono ?_
  rintro e w' ⟨rfl, d', n, os, hp, hs, rfl⟩
  have hd : d'.size = l.length := by rw [hp.1]; simp
  have hh := holdsK_sortWorldK_c encT 3 w g 0 l.toArray d' n os hH hg (by rw [hd]; simp)
  refine ⟨rfl, d'.toList, sorted_of hp hs, ?_, fun base hb => below_sort w base g n d' os hb (by omega), fun cur t hh => sort_block hh⟩
  have := came_holds (cap := cap) (w := sortWorldK encT 3 w g 0 n d' os) (by show g < ((w.heap.modify g _) ++ os).size; simp; omega) (by rw [show d'.toList.length = l.length by simpa using hd]; exact hcap) hh
  rw [show d'.toList.length = l.length by simpa using hd] at this
  exact this
set_option maxHeartbeats 4000000 in
theorem sorted_own (v : Value) (l : List Tn) (w : World) (hc : CameT w v l) (hg : GoodT l) :
    Calls Tryd.prog 43 #[v] w fun e w' => ∃ v' l', e = .returned v' ∧ OwnT w' w.heap.size v' l' ∧ SortedT l l' ∧ RowKit.Below w.heap.size w w' := by
  obtain ⟨i0, hi, hz0, hz1, hz2⟩ := info_parts infoT
  have hl1 := hg.1.1
  have hl2 := hg.1.2
  have HN := hid (fun a cap W => sortnone_any a cap W)
  have HS := hid (fun g cap W h1 h2 h3 => sortfunc_own g cap l W h1 h2 (by omega) h3)
  rcases hc with ⟨rfl, rfl⟩ | ⟨a, cap, rfl, _, h⟩
  · go_enter Tryd.func43, Tryd.ntmps43
    go_wp2_with (first
      | (at_builtin; refine wpList_append_own_none rfl _ _ 26 rfl w.heap.size 23 i0 3 Tryd.underlying26 hi _ 0 [] rfl (World.ownsRow_nil w _ _ _) rfl ?_)
      | (go_at_call 58; refine (HN.out _ _ _).mono ?_; rintro e w1 ⟨rfl, hww⟩; subst hww)
      | go_in)
    go_ret
    exact ⟨_, [], rfl, World.ownsRow_nil _ _ _ _, ⟨List.Perm.refl _, List.Pairwise.nil⟩, RowKit.Below.refl _ _⟩
  · have hcell : ∀ j u, (cellsG 3 tf l)[j]? = some u → w.cell? (a.add j) = some u := by
      rcases h with h | ⟨b, off, rfl, h⟩
      · intro j u hu
        obtain ⟨h1, _⟩ := cellsG_get _ _ l j u hu
        omega
      · exact h.src
    have HC := hid hcell
    clear h hcell
    go_enter Tryd.func43, Tryd.ntmps43
    go_wp2_with (first
      | (at_builtin; refine wpList_append_own _ rfl _ _ 26 rfl w.heap.size 23 i0 (.agg #[.string ByteArray.empty, .string ByteArray.empty, .string ByteArray.empty]) 3 48 Tryd.underlying26 hi hz0 hz1 hz2 rfl (by decide) _ 0 [] rfl (World.ownsRow_nil w _ _ _) a l.length cap (cellsG 3 tf l) rfl (cellsG_len _ _ l) ?_ (cellsG_one _ _ l) (by omega) (by omega) (by simp) ?_)
      | go_in)
    · exact HC.out
    · intro v' w1 hown hgrow _
      have HB2 := hid (show RowKit.Below w.heap.size w w1 from (RowKit.Below.refl _ _).grown hgrow (by simp) (fun k hk => by simp [Value.ownBlock] at hk))
      obtain ⟨_, h2⟩ := hown
      clear hgrow
      rcases h2 with ⟨rfl, hz⟩ | ⟨g, cap', cur, rfl, hb, hh, hle, hm, hs, ht⟩
      · obtain rfl : l = [] := List.length_eq_zero_iff.1 hz
        go_wp2_with fail
        refine (HN.out _ _ _).mono ?_
        rintro e w2 ⟨rfl, hww⟩; subst hww
        go_wp2_with fail
        go_ret
        exact ⟨_, [], rfl, World.ownsRow_nil _ _ _ _, ⟨List.Perm.refl _, List.Pairwise.nil⟩, HB2.out⟩
      · have hlt : g < w1.heap.size := by
          apply Classical.byContradiction
          intro n
          rw [Array.getElem?_eq_none (by omega)] at hh
          cases hh
        have HX := hid (HS.out g cap' w1 hlt (holds_own hh ht) ⟨hle, hm⟩)
        have HG := hid hb
        have HK := hid (show _ ∧ _ ∧ _ ∧ _ from ⟨hh, hs, hle, hm⟩)
        clear hh hs ht hlt hb
        go_wp2_with fail
        refine HX.out.mono ?_
        rintro e w2 ⟨rfl, l', hsrt, hcame, hbel, hblk⟩
        have R := hid (show SortedT l l' ∧ OwnT w2 w.heap.size (.slice (some ⟨g, 0, none⟩) l.length cap') l' ∧ RowKit.Below w.heap.size w1 w2 from ⟨hsrt, by
          obtain ⟨cur', h1, h2⟩ := hblk _ _ HK.out.1
          have el : l'.length = l.length := hsrt.1.length_eq
          rw [← el] at hcame ⊢
          exact came_own hcame h1 HG.out (by rw [el]; exact HK.out.2.2.1) HK.out.2.2.2 (h2.trans HK.out.2.1), hbel _ HG.out⟩)
        clear hsrt hcame hbel hblk
        go_wp2_with fail
        go_ret
        exact ⟨_, l', rfl, R.out.2.1, R.out.1, HB2.out.trans R.out.2.2⟩
end Go.Proofs.YtppblibcbjpfnaaDoor.L
