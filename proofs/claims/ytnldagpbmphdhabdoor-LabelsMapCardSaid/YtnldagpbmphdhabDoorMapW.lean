import Derived.Test.YtnldagpbmphdhabDoorMapP
import Derived.Test.YtnldagpbmphdhabDoorWak
import Derived.Test.YtnldagpbmphdhabDoorSam
namespace Go.Proofs.YtnldagpbmphdhabDoor.L
open Go.RowKit
set_option linter.unusedVariables false
theorem sorted_good {l l' : List Lb} (hg : Good l) (hs : Sorted l l') : Good l' := hg.sub (Nat.le_of_eq hs.1.length_eq) fun x hx => hs.1.mem_iff.1 hx
theorem put_good {l p : List Lb} {k v : ByteArray} (hg : Good l) (hp : PutR l k v p) (hk : k.size ≤ maxLen) (hv : v.size ≤ maxLen) : Good p := ok_good hp.ok fun x hx => by
  rcases (hp.mem x).1 hx with ⟨h, _⟩ | rfl
  · exact hg.2 x h
  · exact ⟨hk, hv⟩
set_option maxHeartbeats 16000000 in
set_option maxRecDepth 100000 in
theorem map_walk (v : Value) (lst : List Lb) (key value other second : ByteArray) (w : World) (hc : Came w v lst) (hg : Good lst) (z1 : key.size ≤ maxLen) (z2 : value.size ≤ maxLen) (z3 : other.size ≤ maxLen) (z4 : second.size ≤ maxLen) :
    Calls Tryd.prog 4 #[v, .agg #[.string key, .string value], .agg #[.string other, .string second]] w fun e w' => e = .returned (.bool true) ∧ Below w.heap.size w w' := by
  have CP := hid (fun W v l (hc : Came W v l) (hg : Good l) => copied_any v l W hc hg)
  have WK := hid (fun W => wakes_any W)
  have MK := hid (fun W v l (hc : Came W v l) (hg : Good l) => make_any v l W hc hg)
  have GT := hid (fun W v l s (hc : Came W v l) (hg : Good l) (hs : s.size ≤ maxLen) => get_any v l s W hc.items hg.1.1 hs)
  have PT := hid (fun W v l k s (hc : Came W v l) (hg : Good l) (ho : OkL l) (hk : k.size ≤ maxLen) (hs : s.size ≤ maxLen) => put_any v l k s W hc hg ho hk hs)
  have DE := hid (fun W v l s (hc : Came W v l) (hg : Good l) (hs : s.size ≤ maxLen) => delf_any v l s W hc.items hg hs)
  have SM := hid (fun W v1 v2 l (h1 : Came W v1 l) (h2 : Came W v2 l) (hl : l.length ≤ 64) => same_any v1 v2 l W h1.items h2.items hl)
  have KB := hid (fun W => key_any key W z1)
  have VB := hid (fun W => value_any value W z2)
  have C0 := hid hc
  have G0 := hid hg
  have Z1 := hid z1
  have Z2 := hid z2
  have Z3 := hid z3
  have Z4 := hid z4
  clear hc hg z1 z2 z3 z4
  go_enter Tryd.func4, Tryd.ntmps4
  go_wp2_with fail
  have b0 : Below w.heap.size w ((w.alloc (.cells #[.string key, .string value] 33)).alloc (.cells #[.string other, .string second] 33)) := (belowA w _).alloc (by simp) _
  have BX := two_box w 0 (.string key) (.string value) (.string other) (.string second) 33 33
  refine (WK.out _).mono ?_
  rintro e w1 ⟨rfl, hb⟩
  have BY := BX.low hb (show w.heap.size + 1 < ((w.alloc (.cells #[.string key, .string value] 33)).alloc (.cells #[.string other, .string second] 33)).heap.size by simp)
  have k1 : w1.cell? ⟨w.heap.size + 1, 0, none⟩ = some (.string other) := BY.c1
  have k2 : w1.cell? ⟨w.heap.size + 1, 1, none⟩ = some (.string second) := BY.c2
  have k3 : w1.cell? ⟨w.heap.size, 0, none⟩ = some (.string key) := BY.c3
  have k4 : w1.cell? ⟨w.heap.size, 1, none⟩ = some (.string value) := BY.c4
  have Bw1 := hid (b0.trans (hb.mono b0.size))
  replace C0 := hid (C0.out.low Bw1.out)
  clear hb BX BY b0
  go_wp2_with fail
  go_quiet (fail)
  clear k1 k2 k3 k4
  have Bw2 := hid (below_drewN Bw1.out nq)
  replace C0 := hid (C0.out.low (below_drewN (Below.refl _ _) nq))
  generalize w1.drewN nq = w2 at *
  clear Bw1
  go_wp2_with fail
  refine (CP.out _ _ lst C0.out G0.out).mono ?_
  rintro e w3 ⟨x3, rfl, hx, hb⟩
  have Bw3 := hid (Bw2.out.trans (hb.mono Bw2.out.size))
  replace C0 := hid (C0.out.low hb)
  have X3 := hid hx
  clear hx
  clear hb
  clear C0 Bw2
  go_wp2_with fail
  refine (MK.out _ _ lst X3.out G0.out).mono ?_
  rintro e w4 ⟨vm, l, rfl, hb, hm⟩
  have Bw4 := hid (Bw3.out.trans (hb.mono Bw3.out.size))
  have HM := hid hm
  clear hm X3 Bw3
  clear hb
  by_cases hme : (makeN lst).2 = 0
  · rw [hme] at HM ⊢
    have HM2 : Came w4 vm l ∧ Sorted lst l := by
      rcases HM.out with ⟨h, _⟩ | ⟨_, h⟩
      · exact absurd rfl h
      · exact h
    have CL := hid HM2.1
    have GL := hid (sorted_good G0.out HM2.2)
    have OL := hid (made_ok hme HM2.2)
    obtain ⟨al, cl, rfl⟩ := came_slice CL.out
    clear HM HM2 hme G0 MK WK
    go_wp2_with fail
    refine (CP.out _ _ l CL.out GL.out).mono ?_
    rintro e w5 ⟨x5, rfl, hx, hb⟩
    have Bw5 := hid (Bw4.out.trans (hb.mono Bw4.out.size))
    replace CL := hid (CL.out.low hb)
    have X5 := hid hx
    clear hx Bw4
    clear hb
    go_wp2_with fail
    refine (GT.out _ _ l other X5.out GL.out Z3.out).mono ?_
    rintro e w6 ⟨rfl, hb⟩
    have Bw6 := hid (Bw5.out.trans (hb.mono Bw5.out.size))
    replace CL := hid (CL.out.low hb)
    clear X5 Bw5
    clear hb
    go_wp2_with fail
    refine (CP.out _ _ l CL.out GL.out).mono ?_
    rintro e w7 ⟨x7, rfl, hx, hb⟩
    have Bw7 := hid (Bw6.out.trans (hb.mono Bw6.out.size))
    replace CL := hid (CL.out.low hb)
    have X7 := hid hx
    clear hx Bw6
    clear hb
    go_wp2_with fail
    refine (PT.out _ _ l key value X7.out GL.out OL.out Z1.out Z2.out).mono ?_
    rintro e w8 ⟨vp, p, rfl, hb, hp⟩
    have Bw8 := hid (Bw7.out.trans (hb.mono Bw7.out.size))
    replace CL := hid (CL.out.low hb)
    have HP := hid hp
    clear hp X7 Bw7
    clear hb
    by_cases hpe : putE l key value = 0
    · rw [hpe] at HP ⊢
      have HP2 : Came w8 vp p ∧ Sorted (delL l key ++ [(key, value)]) p := by
        rcases HP.out with ⟨h, _⟩ | ⟨_, h⟩
        · exact absurd rfl h
        · exact h
      have CPP := hid HP2.1
      have RP := hid (put_ok OL.out hpe HP2.2)
      have LB := hid (show labE key value = 0 by unfold putE at hpe; split at hpe; assumption; rename_i h0; exact absurd hpe h0)
      have GP := hid (put_good GL.out RP.out Z1.out Z2.out)
      obtain ⟨ap, cp, rfl⟩ := came_slice CPP.out
      have hp32 := RP.out.ok.len
      clear HP HP2 hpe
      by_cases hok : key = other
      · subst hok
        go_wp2_with fail
        refine (CP.out _ _ p CPP.out GP.out).mono ?_
        rintro e w9 ⟨x9, rfl, hx, hb⟩
        have Bw9 := hid (Bw8.out.trans (hb.mono Bw8.out.size))
        replace CL := hid (CL.out.low hb)
        replace CPP := hid (CPP.out.low hb)
        have X9 := hid hx
        clear hx Bw8
        clear hb
        have GK := hid (GT.out _ _ p key X9.out GP.out Z1.out)
        rw [put_get RP.out] at GK
        go_wp2_with fail
        refine (GK.out).mono ?_
        rintro e w10 ⟨rfl, hb⟩
        have Bw10 := hid (Bw9.out.trans (hb.mono Bw9.out.size))
        replace CL := hid (CL.out.low hb)
        replace CPP := hid (CPP.out.low hb)
        clear GK X9 Bw9
        clear hb
        go_wp2_with fail
        refine (CP.out _ _ p CPP.out GP.out).mono ?_
        rintro e w11 ⟨x11, rfl, hx, hb⟩
        have Bw11 := hid (Bw10.out.trans (hb.mono Bw10.out.size))
        replace CL := hid (CL.out.low hb)
        replace CPP := hid (CPP.out.low hb)
        have X11 := hid hx
        clear hx Bw10
        clear hb
        have GO := hid (GT.out _ _ p key X11.out GP.out Z1.out)
        rw [put_get RP.out] at GO
        go_wp2_with fail
        refine (GO.out).mono ?_
        rintro e w12 ⟨rfl, hb⟩
        have Bw12 := hid (Bw11.out.trans (hb.mono Bw11.out.size))
        replace CL := hid (CL.out.low hb)
        replace CPP := hid (CPP.out.low hb)
        clear GO X11 Bw11
        clear hb
        generalize getN l key = gl at *
        go_wp2_with fail
        refine (CP.out _ _ p CPP.out GP.out).mono ?_
        rintro e w13 ⟨x13, rfl, hx, hb⟩
        have Bw13 := hid (Bw12.out.trans (hb.mono Bw12.out.size))
        replace CL := hid (CL.out.low hb)
        replace CPP := hid (CPP.out.low hb)
        have X13 := hid hx
        clear hx Bw12
        clear hb
        have PA := hid (PT.out _ _ p key value X13.out GP.out RP.out.ok Z1.out Z2.out)
        rw [put_again LB.out RP.out] at PA
        go_wp2_with fail
        refine (PA.out).mono ?_
        rintro e w14 ⟨vq, q, rfl, hb, hq⟩
        have Bw14 := hid (Bw13.out.trans (hb.mono Bw13.out.size))
        replace CL := hid (CL.out.low hb)
        replace CPP := hid (CPP.out.low hb)
        have HQ := hid (show Came w14 vq p from by rcases hq with ⟨h, _⟩ | ⟨_, h1, h2⟩; exact absurd rfl h; rw [← map_again RP.out (put_ok RP.out.ok (put_again LB.out RP.out) h2)]; exact h1)
        clear hq PA X13 Bw13
        clear hb
        go_wp2_with fail
        refine (SM.out _ _ _ p HQ.out CPP.out (by omega)).mono ?_
        rintro e w15 ⟨rfl, hb⟩
        have Bw15 := hid (Bw14.out.trans (hb.mono Bw14.out.size))
        replace CL := hid (CL.out.low hb)
        replace CPP := hid (CPP.out.low hb)
        clear HQ Bw14
        clear hb
        go_wp2_with fail
        refine (CP.out _ _ p CPP.out GP.out).mono ?_
        rintro e w16 ⟨x16, rfl, hx, hb⟩
        have Bw16 := hid (Bw15.out.trans (hb.mono Bw15.out.size))
        replace CL := hid (CL.out.low hb)
        replace CPP := hid (CPP.out.low hb)
        have X16 := hid hx
        clear hx Bw15
        clear hb
        have DD := hid (DE.out _ _ p key X16.out GP.out Z1.out)
        have hd1 := del_one RP.out.ok.up (put_mem RP.out)
        have hd2 := get_none (l := delL p key) (s := key) (fun x hx => (mem_del.1 hx).2)
        have GD := hid (show Good (delL p key) from GP.out.sub (del_len p key) fun x hx => (mem_del.1 hx).1)
        rw [decide_eq_true (show (delL p key).length < p.length by have := hd1; simp at this; omega)] at DD
        have hdl : (delL p key).length + 1 = p.length := by simpa using hd1
        have GN := hid (fun W v (hc : Came W v (delL p key)) => GT.out W v (delL p key) key hc GD.out Z1.out)
        rw [hd2] at GN
        clear hd1 hd2
        generalize delL p key = D at *
        go_wp2_with fail
        refine (DD.out).mono ?_
        rintro e w17 ⟨vd, rfl, hod, hb⟩
        have Bw17 := hid (Bw16.out.trans (hb.mono Bw16.out.size))
        replace CL := hid (CL.out.low hb)
        replace CPP := hid (CPP.out.low hb)
        have CD := hid (own_came hod)
        clear hod DD X16 Bw16
        clear hb
        obtain ⟨ad, cd, rfl⟩ := came_slice CD.out
        go_wp2_with fail
        refine (CP.out _ _ D CD.out GD.out).mono ?_
        rintro e w18 ⟨x18, rfl, hx, hb⟩
        have Bw18 := hid (Bw17.out.trans (hb.mono Bw17.out.size))
        replace CL := hid (CL.out.low hb)
        replace CPP := hid (CPP.out.low hb)
        have X18 := hid hx
        clear hx CD Bw17
        clear hb
        go_wp2_with fail
        refine (GN.out _ _ X18.out).mono ?_
        rintro e w19 ⟨rfl, hb⟩
        have Bw19 := hid (Bw18.out.trans (hb.mono Bw18.out.size))
        replace CL := hid (CL.out.low hb)
        replace CPP := hid (CPP.out.low hb)
        clear X18 GN Bw18
        clear hb
        have hsub : ((p.length : Int) - 1) = (D.length : Int) := by omega
        go_wp2_with fail
        refine (CP.out _ _ p CPP.out GP.out).mono ?_
        rintro e w20 ⟨x20, rfl, hx, hb⟩
        have Bw20 := hid (Bw19.out.trans (hb.mono Bw19.out.size))
        replace CL := hid (CL.out.low hb)
        replace CPP := hid (CPP.out.low hb)
        have X20 := hid hx
        clear hx Bw19
        clear hb
        go_wp2_with fail
        refine (PT.out _ _ p key second X20.out GP.out RP.out.ok Z1.out Z4.out).mono ?_
        rintro e w21 ⟨va, a, rfl, hb, ha⟩
        have Bw21 := hid (Bw20.out.trans (hb.mono Bw20.out.size))
        replace CL := hid (CL.out.low hb)
        replace CPP := hid (CPP.out.low hb)
        have HA := hid ha
        clear ha X20 Bw20
        clear hb
        go_wp2_with fail
        refine (CP.out _ _ l CL.out GL.out).mono ?_
        rintro e w22 ⟨x22, rfl, hx, hb⟩
        have Bw22 := hid (Bw21.out.trans (hb.mono Bw21.out.size))
        replace CL := hid (CL.out.low hb)
        have X22 := hid hx
        have LW := hid hb
        clear hx Bw21
        clear hb
        go_wp2_with fail
        refine (PT.out _ _ l key second X22.out GL.out OL.out Z1.out Z4.out).mono ?_
        rintro e w23 ⟨vb, b, rfl, hb, hb'⟩
        have Bw23 := hid (Bw22.out.trans (hb.mono Bw22.out.size))
        have HB' := hid hb'
        have LX := hid hb
        clear hb' X22 Bw22
        clear hb
        by_cases ea : putE p key second = 0
        · rw [ea]
          by_cases eb : putE l key second = 0
          · rw [eb]
            go_wp2_with fail
            go_ret
            exact ⟨rfl, Bw23.out⟩
          · have nb : (putE l key second != 0) = true := by simpa using eb
            generalize putE l key second = eB at *
            clear eb
            go_wp2_with fail
            go_ret
            exact ⟨rfl, Bw23.out⟩
        · have na : (putE p key second != 0) = true := by simpa using ea
          generalize putE p key second = eA at *
          generalize putE l key second = eB at *
          clear ea
          go_wp2_with fail
          go_ret
          exact ⟨rfl, Bw23.out⟩
      · have hok' : (other.toList == key.toList) = false := by
          cases e : (other.toList == key.toList)
          · rfl
          · exact absurd (bytes_ext (by simpa using e)).symm hok
        go_wp2_with fail
        refine (CP.out _ _ p CPP.out GP.out).mono ?_
        rintro e w9 ⟨x9, rfl, hx, hb⟩
        have Bw9 := hid (Bw8.out.trans (hb.mono Bw8.out.size))
        replace CL := hid (CL.out.low hb)
        replace CPP := hid (CPP.out.low hb)
        have X9 := hid hx
        clear hx Bw8
        clear hb
        have GK := hid (GT.out _ _ p key X9.out GP.out Z1.out)
        rw [put_get RP.out] at GK
        go_wp2_with fail
        refine (GK.out).mono ?_
        rintro e w10 ⟨rfl, hb⟩
        have Bw10 := hid (Bw9.out.trans (hb.mono Bw9.out.size))
        replace CL := hid (CL.out.low hb)
        replace CPP := hid (CPP.out.low hb)
        clear GK X9 Bw9
        clear hb
        go_wp2_with fail
        refine (CP.out _ _ p CPP.out GP.out).mono ?_
        rintro e w11 ⟨x11, rfl, hx, hb⟩
        have Bw11 := hid (Bw10.out.trans (hb.mono Bw10.out.size))
        replace CL := hid (CL.out.low hb)
        replace CPP := hid (CPP.out.low hb)
        have X11 := hid hx
        clear hx Bw10
        clear hb
        have GO := hid (GT.out _ _ p other X11.out GP.out Z3.out)
        rw [put_other OL.out RP.out (fun h => hok h.symm)] at GO
        go_wp2_with fail
        refine (GO.out).mono ?_
        rintro e w12 ⟨rfl, hb⟩
        have Bw12 := hid (Bw11.out.trans (hb.mono Bw11.out.size))
        replace CL := hid (CL.out.low hb)
        replace CPP := hid (CPP.out.low hb)
        clear GO X11 Bw11
        clear hb
        generalize getN l other = gl at *
        go_wp2_with fail
        refine (CP.out _ _ p CPP.out GP.out).mono ?_
        rintro e w13 ⟨x13, rfl, hx, hb⟩
        have Bw13 := hid (Bw12.out.trans (hb.mono Bw12.out.size))
        replace CL := hid (CL.out.low hb)
        replace CPP := hid (CPP.out.low hb)
        have X13 := hid hx
        clear hx Bw12
        clear hb
        have PA := hid (PT.out _ _ p key value X13.out GP.out RP.out.ok Z1.out Z2.out)
        rw [put_again LB.out RP.out] at PA
        go_wp2_with fail
        refine (PA.out).mono ?_
        rintro e w14 ⟨vq, q, rfl, hb, hq⟩
        have Bw14 := hid (Bw13.out.trans (hb.mono Bw13.out.size))
        replace CL := hid (CL.out.low hb)
        replace CPP := hid (CPP.out.low hb)
        have HQ := hid (show Came w14 vq p from by rcases hq with ⟨h, _⟩ | ⟨_, h1, h2⟩; exact absurd rfl h; rw [← map_again RP.out (put_ok RP.out.ok (put_again LB.out RP.out) h2)]; exact h1)
        clear hq PA X13 Bw13
        clear hb
        go_wp2_with fail
        refine (SM.out _ _ _ p HQ.out CPP.out (by omega)).mono ?_
        rintro e w15 ⟨rfl, hb⟩
        have Bw15 := hid (Bw14.out.trans (hb.mono Bw14.out.size))
        replace CL := hid (CL.out.low hb)
        replace CPP := hid (CPP.out.low hb)
        clear HQ Bw14
        clear hb
        go_wp2_with fail
        refine (CP.out _ _ p CPP.out GP.out).mono ?_
        rintro e w16 ⟨x16, rfl, hx, hb⟩
        have Bw16 := hid (Bw15.out.trans (hb.mono Bw15.out.size))
        replace CL := hid (CL.out.low hb)
        replace CPP := hid (CPP.out.low hb)
        have X16 := hid hx
        clear hx Bw15
        clear hb
        have DD := hid (DE.out _ _ p key X16.out GP.out Z1.out)
        have hd1 := del_one RP.out.ok.up (put_mem RP.out)
        have hd2 := get_none (l := delL p key) (s := key) (fun x hx => (mem_del.1 hx).2)
        have GD := hid (show Good (delL p key) from GP.out.sub (del_len p key) fun x hx => (mem_del.1 hx).1)
        rw [decide_eq_true (show (delL p key).length < p.length by have := hd1; simp at this; omega)] at DD
        have hdl : (delL p key).length + 1 = p.length := by simpa using hd1
        have GN := hid (fun W v (hc : Came W v (delL p key)) => GT.out W v (delL p key) key hc GD.out Z1.out)
        rw [hd2] at GN
        clear hd1 hd2
        generalize delL p key = D at *
        go_wp2_with fail
        refine (DD.out).mono ?_
        rintro e w17 ⟨vd, rfl, hod, hb⟩
        have Bw17 := hid (Bw16.out.trans (hb.mono Bw16.out.size))
        replace CL := hid (CL.out.low hb)
        replace CPP := hid (CPP.out.low hb)
        have CD := hid (own_came hod)
        clear hod DD X16 Bw16
        clear hb
        obtain ⟨ad, cd, rfl⟩ := came_slice CD.out
        go_wp2_with fail
        refine (CP.out _ _ D CD.out GD.out).mono ?_
        rintro e w18 ⟨x18, rfl, hx, hb⟩
        have Bw18 := hid (Bw17.out.trans (hb.mono Bw17.out.size))
        replace CL := hid (CL.out.low hb)
        replace CPP := hid (CPP.out.low hb)
        have X18 := hid hx
        clear hx CD Bw17
        clear hb
        go_wp2_with fail
        refine (GN.out _ _ X18.out).mono ?_
        rintro e w19 ⟨rfl, hb⟩
        have Bw19 := hid (Bw18.out.trans (hb.mono Bw18.out.size))
        replace CL := hid (CL.out.low hb)
        replace CPP := hid (CPP.out.low hb)
        clear X18 GN Bw18
        clear hb
        have hsub : ((p.length : Int) - 1) = (D.length : Int) := by omega
        go_wp2_with fail
        refine (CP.out _ _ p CPP.out GP.out).mono ?_
        rintro e w20 ⟨x20, rfl, hx, hb⟩
        have Bw20 := hid (Bw19.out.trans (hb.mono Bw19.out.size))
        replace CL := hid (CL.out.low hb)
        replace CPP := hid (CPP.out.low hb)
        have X20 := hid hx
        clear hx Bw19
        clear hb
        go_wp2_with fail
        refine (PT.out _ _ p other second X20.out GP.out RP.out.ok Z3.out Z4.out).mono ?_
        rintro e w21 ⟨va, a, rfl, hb, ha⟩
        have Bw21 := hid (Bw20.out.trans (hb.mono Bw20.out.size))
        replace CL := hid (CL.out.low hb)
        replace CPP := hid (CPP.out.low hb)
        have HA := hid ha
        clear ha X20 Bw20
        clear hb
        go_wp2_with fail
        refine (CP.out _ _ l CL.out GL.out).mono ?_
        rintro e w22 ⟨x22, rfl, hx, hb⟩
        have Bw22 := hid (Bw21.out.trans (hb.mono Bw21.out.size))
        replace CL := hid (CL.out.low hb)
        have X22 := hid hx
        have LW := hid hb
        clear hx Bw21
        clear hb
        go_wp2_with fail
        refine (PT.out _ _ l other second X22.out GL.out OL.out Z3.out Z4.out).mono ?_
        rintro e w23 ⟨vb, b, rfl, hb, hb'⟩
        have Bw23 := hid (Bw22.out.trans (hb.mono Bw22.out.size))
        have HB' := hid hb'
        have LX := hid hb
        clear hb' X22 Bw22
        clear hb
        by_cases ea : putE p other second = 0
        · rw [ea]
          by_cases eb : putE l other second = 0
          · rw [eb]
            have HA2 : Came w21 va a ∧ Sorted (delL p other ++ [(other, second)]) a := by
              rcases HA.out with ⟨h, _⟩ | ⟨_, h⟩
              · exact absurd ea h
              · exact h
            have HB2 : Came w23 vb b ∧ Sorted (delL l other ++ [(other, second)]) b := by
              rcases HB'.out with ⟨h, _⟩ | ⟨_, h⟩
              · exact absurd eb h
              · exact h
            have RA := hid (put_ok RP.out.ok ea HA2.2)
            have RB := hid (put_ok OL.out eb HB2.2)
            have CA := hid ((HA2.1.low LW.out).low LX.out)
            have CB := hid HB2.1
            have GB := hid (put_good GL.out RB.out Z3.out Z4.out)
            have ec := map_swap_ok (fun h => hok h.symm) LB.out RP.out RB.out ea
            clear HA HB' HA2 HB2 ea eb LW LX
            go_wp2_with fail
            refine (CP.out _ _ b CB.out GB.out).mono ?_
            rintro e w24 ⟨x24, rfl, hx, hb⟩
            have Bw24 := hid (Bw23.out.trans (hb.mono Bw23.out.size))
            replace CA := hid (CA.out.low hb)
            have X24 := hid hx
            clear hx CB Bw23
            clear hb
            have PC := hid (PT.out _ _ b key value X24.out GB.out RB.out.ok Z1.out Z2.out)
            rw [ec] at PC
            go_wp2_with fail
            refine (PC.out).mono ?_
            rintro e w25 ⟨vc, c, rfl, hb, hc⟩
            have Bw25 := hid (Bw24.out.trans (hb.mono Bw24.out.size))
            replace CA := hid (CA.out.low hb)
            have HC := hid (show Came w25 vc a from by rcases hc with ⟨h, _⟩ | ⟨_, h1, h2⟩; exact absurd rfl h; rw [map_swap (fun h => hok h.symm) RP.out RA.out RB.out (put_ok RB.out.ok ec h2)]; exact h1)
            clear hc PC X24 Bw24
            clear hb
            go_wp2_with fail
            refine (SM.out _ _ _ a CA.out HC.out (by have := RA.out.ok.len; omega)).mono ?_
            rintro e w26 ⟨rfl, hb⟩
            have Bw26 := hid (Bw25.out.trans (hb.mono Bw25.out.size))
            clear hb
            go_wp2_with fail
            go_ret
            exact ⟨rfl, Bw26.out⟩
          · have nb : (putE l other second != 0) = true := by simpa using eb
            generalize putE l other second = eB at *
            clear eb
            go_wp2_with fail
            go_ret
            exact ⟨rfl, Bw23.out⟩
        · have na : (putE p other second != 0) = true := by simpa using ea
          generalize putE p other second = eA at *
          generalize putE l other second = eB at *
          clear ea
          go_wp2_with fail
          go_ret
          exact ⟨rfl, Bw23.out⟩
    · have hne : (putE l key value != 0) = true := by simpa using hpe
      have HP2 : vp = .slice none 0 0 := by
        rcases HP.out with ⟨_, h⟩ | ⟨h, _⟩
        · exact h
        · exact absurd h hpe
      subst HP2
      have PB := hid (put_bad OL.out hpe)
      clear HP
      generalize putE l key value = eP at *
      clear hpe
      go_wp2_with fail
      refine (CP.out _ _ l CL.out GL.out).mono ?_
      rintro e w9 ⟨x9, rfl, hx, hb⟩
      have Bw9 := hid (Bw8.out.trans (hb.mono Bw8.out.size))
      replace CL := hid (CL.out.low hb)
      have X9 := hid hx
      clear hx Bw8
      clear hb
      go_wp2_with fail
      refine (GT.out _ _ l key X9.out GL.out Z1.out).mono ?_
      rintro e w10 ⟨rfl, hb⟩
      have Bw10 := hid (Bw9.out.trans (hb.mono Bw9.out.size))
      clear X9 Bw9
      clear hb
      cases k1 : keyB key
      · rw [k1] at KB
        generalize (getN l key) = gk at *
        go_wp2_with fail
        refine (KB.out _).mono ?_
        rintro e w11 ⟨rfl, hb⟩
        have Bw11 := hid (Bw10.out.trans (hb.mono Bw10.out.size))
        clear hb
        go_wp2_with fail
        go_ret
        exact ⟨rfl, Bw11.out⟩
      · rw [k1] at KB
        cases k2 : valB value
        · rw [k2] at VB
          generalize (getN l key) = gk at *
          go_wp2_with fail
          refine (KB.out _).mono ?_
          rintro e w11 ⟨rfl, hb⟩
          have Bw11 := hid (Bw10.out.trans (hb.mono Bw10.out.size))
          clear hb
          go_wp2_with fail
          refine (VB.out _).mono ?_
          rintro e w12 ⟨rfl, hww⟩; subst hww
          go_wp2_with fail
          go_ret
          exact ⟨rfl, Bw11.out⟩
        · rw [k2] at VB
          have g2 : (getN l key).2 = false ∧ l.length = 32 := by
            rcases PB.out with h | h | h
            · rw [k1] at h; cases h
            · rw [k2] at h; cases h
            · exact h
          obtain ⟨g3, g4⟩ := g2
          generalize (getN l key) = gk at *
          obtain ⟨ga, gb⟩ := gk
          simp only at g3
          subst g3
          have g4' : ((l.length : Int) == 32) = true := by simp; omega
          clear PB k1 k2
          go_wp2_with fail
          refine (KB.out _).mono ?_
          rintro e w11 ⟨rfl, hb⟩
          have Bw11 := hid (Bw10.out.trans (hb.mono Bw10.out.size))
          clear hb
          go_wp2_with fail
          refine (VB.out _).mono ?_
          rintro e w12 ⟨rfl, hww⟩; subst hww
          go_wp2_with fail
          go_ret
          exact ⟨rfl, Bw11.out⟩
  · have hne : ((makeN lst).2 != 0) = true := by simpa using hme
    have HM2 : vm = .slice none 0 0 := by
      rcases HM.out with ⟨_, h⟩ | ⟨h, _⟩
      · exact h
      · exact absurd h hme
    subst HM2
    clear HM hme
    generalize makeN lst = mm at *
    go_wp2_with fail
    go_ret
    exact ⟨rfl, Bw4.out⟩
end Go.Proofs.YtnldagpbmphdhabDoor.L
