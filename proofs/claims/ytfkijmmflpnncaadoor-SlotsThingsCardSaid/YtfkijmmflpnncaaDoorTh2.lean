import Derived.Test.YtfkijmmflpnncaaDoorMgAJ
import Derived.Test.YtfkijmmflpnncaaDoorMgAN
import Derived.Test.YtfkijmmflpnncaaDoorSnmS
import Derived.Test.YtfkijmmflpnncaaDoorMgAQ
import Derived.Test.YtfkijmmflpnncaaDoorRf9
import Derived.Test.YtfkijmmflpnncaaDoorBl1
namespace Go.Proofs.YtfkijmmflpnncaaDoor.L
open Go.RowKit Bs Go.Maps
set_option linter.unusedVariables false
/-- The rows of the table of Things, of the table of texts. -/
abbrev mT (l : List Rw) : List LT.Rw := mp (fun v => (v, tx v)) ((0 : Int), ByteArray.empty) l
abbrev mS (l : List Rw) : List LS.Rw := mp tx ByteArray.empty l
theorem Mv.of {F : List Nat} {w w' : World} (h : Below w.heap.size w w') : Mv F F w w' := ⟨Bx.of h, fun k hk => Or.inl hk⟩
theorem belowDn (w : World) (n : Nat) : Below w.heap.size w (w.drewN n) := ⟨rfl, rfl, rfl, Nat.le_refl _, fun _ _ => rfl⟩
theorem putLT_any {m : Nat} {l l' : List Rw} {s : ByteArray} {x sl er : Int} (hp : PutR m l s x l' sl er) (p : Nat) (F : List Nat) (W : World) (T : LT.Tb W p m (mT l) F) (ta : Tab W) (hs : s.size ≤ maxLen) :
    Calls Tryd.prog 9 #[.pointer (some ⟨p, 0, none⟩), .string s, .agg #[.int .i64 x, .string (tx x)]] W fun e w' => e = .returned (.tuple #[.int .i64 sl, .int .i64 er]) ∧ ∃ F', LT.Tb w' p m (mT l') F' ∧ Mv F F' W w' := by
  rcases hp with ⟨hb, rfl, rfl, rfl⟩ | ⟨hb, ⟨i, h1, h2⟩, rfl, rfl, rfl⟩ | ⟨hb, hn, hc, rfl, rfl, rfl⟩ | ⟨hb, hn, hc, rfl, rfl, rfl⟩
  · refine (LT.put_bad p s (x, tx x) W hs hb).mono ?_
    rintro e w' ⟨rfl, hb'⟩
    exact ⟨rfl, F, T.low hb', Mv.of hb'⟩
  · refine (LT.put_there p m i _ F s (x, tx x) W T hb (by rw [isT_mp]; exact h1) (by rw [nm_mp]; exact h2)).mono ?_
    rintro e w' ⟨rfl, hb'⟩
    exact ⟨rfl, F, T.low hb', Mv.of hb'⟩
  · refine (LT.put_full p m _ F s (x, tx x) W T hb (non_mp _ _ hn) (by rw [cnt_mp]; exact hc)).mono ?_
    rintro e w' ⟨rfl, hb'⟩
    exact ⟨rfl, F, T.low hb', Mv.of hb'⟩
  · refine (LT.put_ok p m _ F s (x, tx x) W T ta hb (non_mp _ _ hn) (by rw [cnt_mp]; exact hc)).mono ?_
    rintro e w' ⟨F', rfl, T', M'⟩
    rw [low_mp] at T' ⊢
    rw [show wrt (mT l) (low l) (s, (x, tx x)) = mT (wrt l (low l) (s, x)) from wrt_mp (fun v => (v, tx v)) ((0 : Int), ByteArray.empty) l (low l) s x (badB_size hb).1] at T'
    exact ⟨rfl, F', T', M'⟩
theorem setLT_any {m : Nat} {l l' : List Rw} {s : ByteArray} {x er : Int} (hp : SetR l s x l' er) (p : Nat) (F : List Nat) (W : World) (T : LT.Tb W p m (mT l) F) (hs : s.size ≤ maxLen) :
    Calls Tryd.prog 12 #[.pointer (some ⟨p, 0, none⟩), .string s, .agg #[.int .i64 x, .string (tx x)]] W fun e w' => e = .returned (.int .i64 er) ∧ ∃ F', LT.Tb w' p m (mT l') F' ∧ Mv F F' W w' := by
  rcases hp with ⟨hb, rfl, rfl⟩ | ⟨hb, hn, rfl, rfl⟩ | ⟨hb, i, h1, h2, rfl, rfl⟩
  · refine (LT.set_bad p s (x, tx x) W hs hb).mono ?_
    rintro e w' ⟨rfl, hb'⟩
    exact ⟨rfl, F, T.low hb', Mv.of hb'⟩
  · refine (LT.set_no p m _ F s (x, tx x) W T hb (non_mp _ _ hn)).mono ?_
    rintro e w' ⟨rfl, hb'⟩
    exact ⟨rfl, F, T.low hb', Mv.of hb'⟩
  · refine (LT.set_ok p m i _ F s (x, tx x) W T hb (by rw [isT_mp]; exact h1) (by rw [nm_mp]; exact h2)).mono ?_
    rintro e w' ⟨rfl, T', M'⟩
    rw [show (mT l).set i (s, (x, tx x)) = mT (l.set i (s, x)) from set_mp (fun v => (v, tx v)) ((0 : Int), ByteArray.empty) l i s x (badB_size hb).1] at T'
    exact ⟨rfl, F, T', M'⟩
theorem dropLT_any {m : Nat} {l l' : List Rw} {s : ByteArray} {sl er : Int} (hp : DropR l s l' sl er) (p : Nat) (F : List Nat) (W : World) (T : LT.Tb W p m (mT l) F) (hs : s.size ≤ maxLen) :
    Calls Tryd.prog 15 #[.pointer (some ⟨p, 0, none⟩), .string s] W fun e w' => e = .returned (.tuple #[.int .i64 sl, .int .i64 er]) ∧ ∃ F', LT.Tb w' p m (mT l') F' ∧ Mv F F' W w' := by
  rcases hp with ⟨hb, rfl, rfl, rfl⟩ | ⟨hb, hn, rfl, rfl, rfl⟩ | ⟨hb, i, h1, h2, rfl, rfl, rfl⟩
  · refine (LT.drop_bad p s W hs hb).mono ?_
    rintro e w' ⟨rfl, rfl⟩
    exact ⟨rfl, F, T, Mv.refl F w'⟩
  · refine (LT.drop_no p m _ F s W T hb (non_mp _ _ hn)).mono ?_
    rintro e w' ⟨rfl, rfl⟩
    exact ⟨rfl, F, T, Mv.refl F w'⟩
  · refine (LT.drop_ok p m i _ F s W T hb (by rw [isT_mp]; exact h1) (by rw [nm_mp]; exact h2)).mono ?_
    rintro e w' ⟨F', rfl, T', M'⟩
    rw [show trim ((mT l).set i (ByteArray.empty, ((0 : Int), ByteArray.empty))) = mT (trim (l.set i (ByteArray.empty, 0))) from drop_mp (fun v => (v, tx v)) ((0 : Int), ByteArray.empty) l i] at T'
    exact ⟨rfl, F', T', M'⟩
theorem namesLT_any (p m : Nat) (l : List Rw) (F : List Nat) (w : World) (h : LT.Tb w p m (mT l) F) : Calls Tryd.prog 23 #[.pointer (some ⟨p, 0, none⟩)] w fun e w' => ∃ v, e = .returned v ∧ OwnS w' w.heap.size v (srt (nmL l)) ∧ Below w.heap.size w w' := by
  have hb : LT.bs (mT l) = bs l := by
    unfold LT.bs bs mT mp
    rw [List.map_map]
    exact List.map_congr_left (fun x _ => rowM_1 _ _ x)
  have hle := Nat.le_trans h.ok.le h.ok.mm
  have := LT.names_core (.pointer (some ⟨p, 0, none⟩)) (LT.bs (mT l)) (cnt (mT l)) w (Nat.le_trans h.ok.ct h.ok.mm) (by unfold LT.bs; rw [List.length_map]; exact hle) (hid (LT.len_any p m _ F w h)) (hid (fun W hW => LT.all_any p m _ F W (h.low hW)))
  rw [hb] at this
  exact this
theorem putLS_any {m : Nat} {l l' : List Rw} {s : ByteArray} {x sl er : Int} (hp : PutR m l s x l' sl er) (p : Nat) (F : List Nat) (W : World) (T : LS.Tb W p m (mS l) F) (ta : Tab W) (hs : s.size ≤ maxLen) :
    Calls Tryd.prog 10 #[.pointer (some ⟨p, 0, none⟩), .string s, .string (tx x)] W fun e w' => e = .returned (.tuple #[.int .i64 sl, .int .i64 er]) ∧ ∃ F', LS.Tb w' p m (mS l') F' ∧ Mv F F' W w' := by
  rcases hp with ⟨hb, rfl, rfl, rfl⟩ | ⟨hb, ⟨i, h1, h2⟩, rfl, rfl, rfl⟩ | ⟨hb, hn, hc, rfl, rfl, rfl⟩ | ⟨hb, hn, hc, rfl, rfl, rfl⟩
  · refine (LS.put_bad p s (tx x) W hs hb).mono ?_
    rintro e w' ⟨rfl, rfl⟩
    exact ⟨rfl, F, T.low (Below.refl _ _), Mv.of (Below.refl _ _)⟩
  · refine (LS.put_there p m i _ F s (tx x) W T hb (by rw [isT_mp]; exact h1) (by rw [nm_mp]; exact h2)).mono ?_
    rintro e w' ⟨rfl, rfl⟩
    exact ⟨rfl, F, T.low (Below.refl _ _), Mv.of (Below.refl _ _)⟩
  · refine (LS.put_full p m _ F s (tx x) W T hb (non_mp _ _ hn) (by rw [cnt_mp]; exact hc)).mono ?_
    rintro e w' ⟨rfl, n, rfl⟩
    exact ⟨rfl, F, T.low (belowDn W n), Mv.of (belowDn W n)⟩
  · refine (LS.put_ok p m _ F s (tx x) W T ta hb (non_mp _ _ hn) (by rw [cnt_mp]; exact hc)).mono ?_
    rintro e w' ⟨F', rfl, T', M'⟩
    rw [low_mp] at T' ⊢
    rw [show wrt (mS l) (low l) (s, (tx x)) = mS (wrt l (low l) (s, x)) from wrt_mp tx ByteArray.empty l (low l) s x (badB_size hb).1] at T'
    exact ⟨rfl, F', T', M'⟩
theorem setLS_any {m : Nat} {l l' : List Rw} {s : ByteArray} {x er : Int} (hp : SetR l s x l' er) (p : Nat) (F : List Nat) (W : World) (T : LS.Tb W p m (mS l) F) (hs : s.size ≤ maxLen) :
    Calls Tryd.prog 13 #[.pointer (some ⟨p, 0, none⟩), .string s, .string (tx x)] W fun e w' => e = .returned (.int .i64 er) ∧ ∃ F', LS.Tb w' p m (mS l') F' ∧ Mv F F' W w' := by
  rcases hp with ⟨hb, rfl, rfl⟩ | ⟨hb, hn, rfl, rfl⟩ | ⟨hb, i, h1, h2, rfl, rfl⟩
  · refine (LS.set_bad p s (tx x) W hs hb).mono ?_
    rintro e w' ⟨rfl, rfl⟩
    exact ⟨rfl, F, T.low (Below.refl _ _), Mv.of (Below.refl _ _)⟩
  · refine (LS.set_no p m _ F s (tx x) W T hb (non_mp _ _ hn)).mono ?_
    rintro e w' ⟨rfl, rfl⟩
    exact ⟨rfl, F, T.low (Below.refl _ _), Mv.of (Below.refl _ _)⟩
  · refine (LS.set_ok p m i _ F s (tx x) W T hb (by rw [isT_mp]; exact h1) (by rw [nm_mp]; exact h2)).mono ?_
    rintro e w' ⟨rfl, T', M'⟩
    rw [show (mS l).set i (s, (tx x)) = mS (l.set i (s, x)) from set_mp tx ByteArray.empty l i s x (badB_size hb).1] at T'
    exact ⟨rfl, F, T', M'⟩
theorem dropLS_any {m : Nat} {l l' : List Rw} {s : ByteArray} {sl er : Int} (hp : DropR l s l' sl er) (p : Nat) (F : List Nat) (W : World) (T : LS.Tb W p m (mS l) F) (hs : s.size ≤ maxLen) :
    Calls Tryd.prog 16 #[.pointer (some ⟨p, 0, none⟩), .string s] W fun e w' => e = .returned (.tuple #[.int .i64 sl, .int .i64 er]) ∧ ∃ F', LS.Tb w' p m (mS l') F' ∧ Mv F F' W w' := by
  rcases hp with ⟨hb, rfl, rfl, rfl⟩ | ⟨hb, hn, rfl, rfl, rfl⟩ | ⟨hb, i, h1, h2, rfl, rfl, rfl⟩
  · refine (LS.drop_bad p s W hs hb).mono ?_
    rintro e w' ⟨rfl, rfl⟩
    exact ⟨rfl, F, T, Mv.refl F w'⟩
  · refine (LS.drop_no p m _ F s W T hb (non_mp _ _ hn)).mono ?_
    rintro e w' ⟨rfl, rfl⟩
    exact ⟨rfl, F, T, Mv.refl F w'⟩
  · refine (LS.drop_ok p m i _ F s W T hb (by rw [isT_mp]; exact h1) (by rw [nm_mp]; exact h2)).mono ?_
    rintro e w' ⟨F', rfl, T', M'⟩
    rw [show trim ((mS l).set i (ByteArray.empty, ByteArray.empty)) = mS (trim (l.set i (ByteArray.empty, 0))) from drop_mp tx ByteArray.empty l i] at T'
    exact ⟨rfl, F', T', M'⟩
theorem namesLS_any (p m : Nat) (l : List Rw) (F : List Nat) (w : World) (h : LS.Tb w p m (mS l) F) : Calls Tryd.prog 25 #[.pointer (some ⟨p, 0, none⟩)] w fun e w' => ∃ v, e = .returned v ∧ OwnS w' w.heap.size v (srt (nmL l)) ∧ Below w.heap.size w w' := by
  have hb : LS.bs (mS l) = bs l := by
    unfold LS.bs bs mS mp
    rw [List.map_map]
    exact List.map_congr_left (fun x _ => rowM_1 _ _ x)
  have hle := Nat.le_trans h.ok.le h.ok.mm
  have := LS.names_core (.pointer (some ⟨p, 0, none⟩)) (LS.bs (mS l)) (cnt (mS l)) w (Nat.le_trans h.ok.ct h.ok.mm) (by unfold LS.bs; rw [List.length_map]; exact hle) (hid (LS.len_any p m _ F w h)) (hid (fun W hW => LS.all_any p m _ F W (h.low hW)))
  rw [hb] at this
  exact this
theorem itD_of {W : World} {a : Option Addr} {cap : Nat} {d : List Dr} (O : OwnD W (.slice a d.length cap) d) : ItD W a cap d := own_itemsD O
theorem rput_uni {m : Nat} {l l' : List Rw} {s : ByteArray} {x sl er : Int} (hp : PutR m l s x l' sl er) {a : Option Addr} {cap L : Nat} {d : List Dr} (hL : L = d.length) (W : World) (O : OwnD W (.slice a L cap) d) (R : Rel l d) (ok : OkS m l) (hs : s.size ≤ maxLen) :
    Calls Tryd.prog 11 #[.agg #[.int .i64 (m : Int), .slice a L cap], .string s, .int .i64 x] W fun e w' => ∃ v' d', e = .returned (.tuple #[.agg #[.int .i64 (m : Int), v'], .int .i64 sl, .int .i64 er]) ∧ OwnD w' v' d' ∧ Rel l' d' ∧ Below W.heap.size W w' := by
  subst hL
  have hdl : d.length ≤ 65536 := by rw [R.len]; exact Nat.le_trans ok.ct ok.mm
  rcases hp with ⟨hb, rfl, rfl, rfl⟩ | ⟨hb, ⟨i, h1, h2⟩, rfl, rfl, rfl⟩ | ⟨hb, hn, hc, rfl, rfl, rfl⟩ | ⟨hb, hn, hc, rfl, rfl, rfl⟩
  · refine (rput_bad (m : Int) a d.length cap s x W hs hb).mono ?_
    rintro e w' ⟨rfl, b'⟩
    exact ⟨_, d, rfl, O.low b', R, b'⟩
  · rcases R.find s with ⟨hn, hf⟩ | ⟨k, hf, hk, _⟩
    · exact absurd h2 (hn i h1)
    · refine (rput_there (m : Int) a cap d s x W (itD_of O) hdl hb k hf).mono ?_
      rintro e w' ⟨rfl, b'⟩
      exact ⟨_, d, rfl, O.low b', R, b'⟩
  · rcases R.find s with ⟨_, hf⟩ | ⟨k, hf, hk, h1, h2, _⟩
    · refine (rput_full m a cap d s x W (itD_of O) hdl hb hf (by rw [R.len]; omega)).mono ?_
      rintro e w' ⟨rfl, b'⟩
      exact ⟨_, d, rfl, O.low b', R, b'⟩
    · exact absurd h2 (hn _ h1)
  · rcases R.find s with ⟨_, hf⟩ | ⟨k, hf, hk, h1, h2, _⟩
    · refine (rput_okL m a cap d.length d rfl s x W O ok.mm (R.slots ok) hb hf (by rw [R.len]; exact hc)).mono ?_
      rintro e w' ⟨r, v', hr, rfl, o', b'⟩
      have e := R.lowest hr
      exact ⟨v', _, by rw [e], o', by rw [e]; exact R.put (badB_size hb).1 e, b'⟩
    · exact absurd h2 (hn _ h1)
theorem rset_uni {m : Nat} {l l' : List Rw} {s : ByteArray} {x er : Int} (hp : SetR l s x l' er) {a : Option Addr} {cap L : Nat} {d : List Dr} (hL : L = d.length) (W : World) (O : OwnD W (.slice a L cap) d) (R : Rel l d) (ok : OkS m l) (hs : s.size ≤ maxLen) :
    Calls Tryd.prog 14 #[.agg #[.int .i64 (m : Int), .slice a L cap], .string s, .int .i64 x] W fun e w' => ∃ v' d', e = .returned (.tuple #[.agg #[.int .i64 (m : Int), v'], .int .i64 er]) ∧ OwnD w' v' d' ∧ Rel l' d' ∧ Below W.heap.size W w' := by
  subst hL
  have hdl : d.length ≤ 65536 := by rw [R.len]; exact Nat.le_trans ok.ct ok.mm
  rcases hp with ⟨hb, rfl, rfl⟩ | ⟨hb, hn, rfl, rfl⟩ | ⟨hb, i, h1, h2, rfl, rfl⟩
  · refine (rset_bad (m : Int) a d.length cap s x W hs hb).mono ?_
    rintro e w' ⟨rfl, b'⟩
    exact ⟨_, d, rfl, O.low b', R, b'⟩
  · rcases R.find s with ⟨_, hf⟩ | ⟨k, hf, hk, h1, h2, _⟩
    · refine (rset_gone (m : Int) a cap d s x W (itD_of O) hdl hb hf).mono ?_
      rintro e w' ⟨rfl, b'⟩
      exact ⟨_, d, rfl, O.low b', R, b'⟩
    · exact absurd h2 (hn _ h1)
  · rcases R.find s with ⟨hn, hf⟩ | ⟨k, hf, hk, h3, h4, h5, _⟩
    · exact absurd h2 (hn i h1)
    · have e : ds d k = i := ok.ap _ _ h3 (h4.trans h2.symm)
      refine (rset_okL m a cap d.length d rfl s x W O hdl hb k hf hk).mono ?_
      rintro e1 w' ⟨v', rfl, o', b'⟩
      have := R.set (v := x) hk h5
      rw [e] at this o'
      exact ⟨v', _, rfl, o', this, b'⟩
theorem rdrop_uni {m : Nat} {l l' : List Rw} {s : ByteArray} {sl er : Int} (hp : DropR l s l' sl er) {a : Option Addr} {cap L : Nat} {d : List Dr} (hL : L = d.length) (W : World) (O : OwnD W (.slice a L cap) d) (R : Rel l d) (ok : OkS m l) (hs : s.size ≤ maxLen) :
    Calls Tryd.prog 17 #[.agg #[.int .i64 (m : Int), .slice a L cap], .string s] W fun e w' => ∃ v' d', e = .returned (.tuple #[.agg #[.int .i64 (m : Int), v'], .int .i64 sl, .int .i64 er]) ∧ OwnD w' v' d' ∧ Rel l' d' ∧ Below W.heap.size W w' := by
  subst hL
  have hdl : d.length ≤ 65536 := by rw [R.len]; exact Nat.le_trans ok.ct ok.mm
  rcases hp with ⟨hb, rfl, rfl, rfl⟩ | ⟨hb, hn, rfl, rfl, rfl⟩ | ⟨hb, i, h1, h2, rfl, rfl, rfl⟩
  · refine (rdrop_bad (m : Int) a d.length cap s W hs hb).mono ?_
    rintro e w' ⟨rfl, b'⟩
    exact ⟨_, d, rfl, O.low b', R, b'⟩
  · rcases R.find s with ⟨_, hf⟩ | ⟨k, hf, hk, h1, h2, _⟩
    · refine (rdrop_gone (m : Int) a cap d s W (itD_of O) hdl hb hf).mono ?_
      rintro e w' ⟨rfl, b'⟩
      exact ⟨_, d, rfl, O.low b', R, b'⟩
    · exact absurd h2 (hn _ h1)
  · rcases R.find s with ⟨hn, hf⟩ | ⟨k, hf, hk, h3, h4, h5, _⟩
    · exact absurd h2 (hn i h1)
    · have e : ds d k = i := ok.ap _ _ h3 (h4.trans h2.symm)
      refine (rdrop_okL m a cap d.length d rfl s W O hdl hb k hf hk).mono ?_
      rintro e1 w' ⟨v', rfl, o', b'⟩
      have := R.drop hk
      rw [e] at this
      exact ⟨v', _, by rw [e], o', this, b'⟩
end Go.Proofs.YtfkijmmflpnncaaDoor.L
