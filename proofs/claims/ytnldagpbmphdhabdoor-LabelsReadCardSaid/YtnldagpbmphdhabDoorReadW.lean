import Derived.Test.YtnldagpbmphdhabDoorRd
import Derived.Test.YtnldagpbmphdhabDoorWak
import Derived.Test.YtnldagpbmphdhabDoorSam
namespace Go.Proofs.YtnldagpbmphdhabDoor.L
open Go.RowKit
set_option linter.unusedVariables false
set_option maxHeartbeats 16000000 in
set_option maxRecDepth 100000 in
theorem read_walk (text more : ByteArray) (w : World) (z1 : text.size ≤ 281474976710656) (z2 : more.size ≤ 281474976710656) :
    Calls Tryd.prog 3 #[.string text, .string more] w fun e w' => e = .returned (.bool true) ∧ Below w.heap.size w w' := by
  have CP := hid (fun W v l (hc : Came W v l) (hg : Good l) => copied_any v l W hc hg)
  have WK := hid (fun W => wakes_any W)
  have PA := hid (fun W t (hs : ByteArray.size t ≤ maxLen) => parse_any t W hs)
  have TX := hid (fun W v l (hc : Came W v l) (hg : Good l) (ho : OkL l) => text_ok v l W hc.items hg ho)
  have SM := hid (fun W v1 v2 l (h1 : Came W v1 l) (h2 : Came W v2 l) (hl : l.length ≤ 64) => same_any v1 v2 l W h1.items h2.items hl)
  go_enter Tryd.func3, Tryd.ntmps3
  go_wp2_with fail
  refine (WK.out _).mono ?_
  rintro e w1 ⟨rfl, hb⟩
  have Bw1 := hid hb
  clear hb
  go_wp2_with fail
  refine (PA.out _ text (by unfold maxLen; omega)).mono ?_
  rintro e w2 ⟨v, l, rfl, hb, hp⟩
  have Bw2 := hid (Bw1.out.trans (hb.mono Bw1.out.size))
  have HP := hid hp
  clear hp Bw1
  clear hb
  by_cases he : (parseN text).2.2 = 0
  · obtain ⟨L, e1, e2, e3, e4, e5⟩ := parse_sound he
    rw [e1] at HP ⊢
    have HP2 : Came w2 v l ∧ Sorted L l := by
      rcases HP.out with ⟨h, _⟩ | ⟨_, h⟩
      · exact absurd rfl h
      · exact h
    have OL : OkL l := ⟨by rw [HP2.2.1.length_eq]; exact e5, sorted_ok HP2.2 e3, fun x hx => e4 x (HP2.2.1.mem_iff.1 hx)⟩
    have GL := hid (ok_good OL fun x hx => by have h := lab_ok (OL.lab x hx); have h1 := key_size h.1; have h2 := val_size h.2; unfold maxLen; omega)
    have hsz : (⟨(txt l).toArray⟩ : ByteArray).size = text.size := by
      have h1 : (⟨(txt l).toArray⟩ : ByteArray).size = (txt l).length := by show (txt l).toArray.size = _; simp
      have h2 : text.data.toList.length = text.size := by simp
      rw [h1, txt_perm HP2.2.1, ← e2, h2]
    have PS := hid (fun W => PA.out W ⟨(txt l).toArray⟩ (by rw [hsz]; unfold maxLen; omega))
    rw [parse_txt OL] at PS
    have CL := hid HP2.1
    have HO := hid OL
    have hl32 := OL.len
    have TL := hid (fun W v (hc : Came W v l) => TX.out W v l hc GL.out HO.out)
    clear TX
    generalize (⟨(txt l).toArray⟩ : ByteArray) = s at *
    clear HP HP2 e1 e2 e3 e4 e5 he OL
    go_wp2_with fail
    refine (CP.out _ _ l CL.out GL.out).mono ?_
    rintro e w3 ⟨x3, rfl, hx, hb⟩
    have Bw3 := hid (Bw2.out.trans (hb.mono Bw2.out.size))
    replace CL := hid (CL.out.low hb)
    have X3 := hid hx
    clear hx Bw2
    clear hb
    go_wp2_with fail
    refine (TL.out _ _ X3.out).mono ?_
    rintro e w4 ⟨rfl, hb⟩
    have Bw4 := hid (Bw3.out.trans (hb.mono Bw3.out.size))
    replace CL := hid (CL.out.low hb)
    clear X3 Bw3
    clear hb
    go_wp2_with fail
    refine (PS.out _).mono ?_
    rintro e w5 ⟨vm, m, rfl, hb, hm⟩
    have Bw5 := hid (Bw4.out.trans (hb.mono Bw4.out.size))
    replace CL := hid (CL.out.low hb)
    have CM := hid (show Came w5 vm l from by rcases hm with ⟨h, _⟩ | ⟨_, h1, h2⟩; exact absurd rfl h; rw [← up_unique (sorted_ok h2 (up_dist' HO.out.up)) HO.out.up (fun x => h2.1.mem_iff)]; exact h1)
    clear hm PS Bw4
    clear hb
    go_wp2_with fail
    refine (SM.out _ _ _ l CL.out CM.out (by omega)).mono ?_
    rintro e w6 ⟨rfl, hb⟩
    have Bw6 := hid (Bw5.out.trans (hb.mono Bw5.out.size))
    clear hb
    go_wp2_with fail
    go_ret
    exact ⟨rfl, Bw6.out⟩
  · have HP2 : v = .slice none 0 0 := by
        rcases HP.out with ⟨_, h⟩ | ⟨h, _⟩
        · exact h
        · exact absurd h he
    subst HP2
    have hne : ((parseN text).2.2 == 0) = false := by simpa using he
    clear HP
    rcases parse_at he with ⟨h1, h2⟩ | ⟨h1, h2, a, h3, h4, h5⟩
    · rw [h2] at hne ⊢
      have g1 : (8192 : Int) < (text.size : Int) := by omega
      clear he h2
      go_wp2_with fail
      go_ret
      exact ⟨rfl, Bw2.out⟩
    · have PM := hid (fun h => parse_more (m := more) he h)
      have H3 := hid h3
      rw [h3]
      have h2' : ((parseN text).2.2 == 39) = false := by simpa using h2
      obtain ⟨E, hE⟩ : ∃ E, E = (parseN text).2.2 := ⟨_, rfl⟩
      rw [← hE] at hne h2' ⊢
      have HE := hid hE
      clear he h2 h3 hE
      have q1 : ¬ (a : Int) < 0 := by omega
      have q2 : ¬ (text.size : Int) < (a : Int) := by omega
      by_cases ha : a = 0
      · subst ha
        by_cases hz : text.size + 1 + more.size ≤ 8192
        · have q3 : ¬ (8192 : Int) < (text.size : Int) + 1 + (more.size : Int) := by omega
          have PP := hid (fun W => PA.out W (text ++ ⟨#[44]⟩ ++ more) (by rw [ByteArray.size_append, ByteArray.size_append]; unfold maxLen; show text.size + 1 + more.size ≤ _; omega))
          rw [PM.out hz, H3.out, ← HE.out] at PP
          clear PM hz h5
          go_wp2_with fail
          refine (PP.out _).mono ?_
          rintro e w3 ⟨v3, l3, rfl, hb, _⟩
          have Bw3 := hid (Bw2.out.trans (hb.mono Bw2.out.size))
          clear hb
          go_wp2_with fail
          go_ret
          exact ⟨rfl, Bw3.out⟩
        · have q3 : (8192 : Int) < (text.size : Int) + 1 + (more.size : Int) := by omega
          clear PM hz h5
          go_wp2_with fail
          go_ret
          exact ⟨rfl, Bw2.out⟩
      · have q4 : (0 : Int) < (a : Int) := by omega
        have q5 : ((a : Int) - 1).toNat = a - 1 := by omega
        have q6 : a - 1 < text.size := by omega
        have q7 : ((text[a - 1]'q6).toNat : Int) = 44 := by rw [← at_get text (a - 1) q6]; exact h5 (by omega)
        have q8 : (0 : Int) ≤ (a : Int) - 1 := by omega
        have q9 : (a : Int) - 1 < (text.size : Int) := by omega
        by_cases hz : text.size + 1 + more.size ≤ 8192
        · have q3 : ¬ (8192 : Int) < (text.size : Int) + 1 + (more.size : Int) := by omega
          have PP := hid (fun W => PA.out W (text ++ ⟨#[44]⟩ ++ more) (by rw [ByteArray.size_append, ByteArray.size_append]; unfold maxLen; show text.size + 1 + more.size ≤ _; omega))
          rw [PM.out hz, H3.out, ← HE.out] at PP
          clear PM hz h5
          go_wp2_with fail
          refine (PP.out _).mono ?_
          rintro e w3 ⟨v3, l3, rfl, hb, _⟩
          have Bw3 := hid (Bw2.out.trans (hb.mono Bw2.out.size))
          clear hb
          go_wp2_with fail
          go_ret
          exact ⟨rfl, Bw3.out⟩
        · have q3 : (8192 : Int) < (text.size : Int) + 1 + (more.size : Int) := by omega
          clear PM hz h5
          go_wp2_with fail
          go_ret
          exact ⟨rfl, Bw2.out⟩
end Go.Proofs.YtnldagpbmphdhabDoor.L
