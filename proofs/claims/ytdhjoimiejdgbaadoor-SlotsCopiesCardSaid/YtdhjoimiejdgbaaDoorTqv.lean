import Derived.Test.YtdhjoimiejdgbaaDoorRws
import Derived.Test.YtdhjoimiejdgbaaDoorBl1
namespace Go.Proofs.YtdhjoimiejdgbaaDoor.L
open Go.RowKit Bs Go.Maps
set_option linter.unusedVariables false
theorem belowD (w : World) (n : Nat) : Below w.heap.size w (w.drewN n) := ⟨rfl, rfl, rfl, Nat.le_refl _, fun _ _ => rfl⟩
/-- A table, or none: a nil one is read as one with no names. -/
def Tq (w : World) (pv : Value) (m : Nat) (l : List Rw) (F : List Nat) : Prop := (pv = .pointer none ∧ l = [] ∧ F = [] ∧ m = 0) ∨ ∃ p, pv = .pointer (some ⟨p, 0, none⟩) ∧ Tb w p m l F
theorem Tq.low {w w' : World} {pv : Value} {m : Nat} {l : List Rw} {F : List Nat} (h : Tq w pv m l F) (hb : Below w.heap.size w w') : Tq w' pv m l F := by
  rcases h with h | ⟨p, e, h⟩
  · exact Or.inl h
  · exact Or.inr ⟨p, e, h.low hb⟩
theorem Tq.frame {w w' : World} {pv : Value} {m : Nat} {l : List Rw} {F : List Nat} (h : Tq w pv m l F) (hk : ∀ k ∈ F, w'.heap[k]? = w.heap[k]?) : Tq w' pv m l F := by
  rcases h with h | ⟨p, e, h⟩
  · exact Or.inl h
  · exact Or.inr ⟨p, e, h.frame hk⟩
theorem Tq.ok {w : World} {pv : Value} {m : Nat} {l : List Rw} {F : List Nat} (h : Tq w pv m l F) : OkS m l := by
  rcases h with ⟨_, rfl, _, rfl⟩ | ⟨p, e, h⟩
  · exact OkS.nil (by decide)
  · exact h.ok
theorem Tq.lt {w : World} {pv : Value} {m : Nat} {l : List Rw} {F : List Nat} (h : Tq w pv m l F) : ∀ k ∈ F, k < w.heap.size := by
  rcases h with ⟨_, _, rfl, _⟩ | ⟨p, e, h⟩
  · intro k hk; cases hk
  · exact h.lt
theorem Tq.form {w : World} {pv : Value} {m : Nat} {l : List Rw} {F : List Nat} (h : Tq w pv m l F) : ∃ a, pv = .pointer a := by
  rcases h with ⟨e, _⟩ | ⟨p, e, _⟩
  · exact ⟨_, e⟩
  · exact ⟨_, e⟩
theorem Tq.len {w : World} {pv : Value} {m : Nat} {l : List Rw} {F : List Nat} (h : Tq w pv m l F) : Calls Tryd.prog 38 #[pv] w fun e w' => e = .returned (.int .i64 (cnt l : Int)) ∧ Below w.heap.size w w' := by
  rcases h with ⟨rfl, rfl, _⟩ | ⟨p, rfl, h⟩
  · exact (len_nil w).mono (fun e w' ⟨h1, h2⟩ => ⟨h1, by rw [h2]; exact Below.refl _ _⟩)
  · exact (len_any p m l F w h).mono (fun e w' ⟨h1, h2⟩ => ⟨h1, by rw [h2]; exact Below.refl _ _⟩)
theorem Tq.span {w : World} {pv : Value} {m : Nat} {l : List Rw} {F : List Nat} (h : Tq w pv m l F) : Calls Tryd.prog 40 #[pv] w fun e w' => e = .returned (.int .i64 (l.length : Int)) ∧ Below w.heap.size w w' := by
  rcases h with ⟨rfl, rfl, _⟩ | ⟨p, rfl, h⟩
  · exact (span_nil w).mono (fun e w' ⟨h1, h2⟩ => ⟨h1, by rw [h2]; exact Below.refl _ _⟩)
  · exact (span_any p m l F w h).mono (fun e w' ⟨h1, h2⟩ => ⟨h1, by rw [h2]; exact Below.refl _ _⟩)
theorem Tq.names {w : World} {pv : Value} {m : Nat} {l : List Rw} {F : List Nat} (h : Tq w pv m l F) : Calls Tryd.prog 52 #[pv] w fun e w' => ∃ v, e = .returned v ∧ OwnS w' w.heap.size v (srt (nmL l)) ∧ Below w.heap.size w w' := by
  rcases h with ⟨rfl, rfl, _⟩ | ⟨p, rfl, h⟩
  · have e : srt (nmL []) = [] := by simp [srt, srtL, lsB, bsL, nmL, bs, tk, tkK]
    rw [e]
    exact names_nil w
  · exact names_any p m l F w h
theorem Tq.all {w : World} {pv : Value} {m : Nat} {l : List Rw} {F : List Nat} (h : Tq w pv m l F) : Calls Tryd.prog 41 #[pv] w fun e w' => ∃ X v, e = .returned (allF X) ∧ w.heap.size ≤ X ∧ w'.heap[X]? = some (.cells #[v] 72 (0, 0)) ∧ OwnS w' w.heap.size v (bs l) ∧ Below w.heap.size w w' := by
  rcases h with ⟨rfl, rfl, _⟩ | ⟨p, rfl, h⟩
  · exact all_nil w
  · exact all_any p m l F w h
theorem Tq.findNo {w : World} {pv : Value} {m : Nat} {l : List Rw} {F : List Nat} (h : Tq w pv m l F) (s : ByteArray) (hs : s.size ≤ maxLen) (hn : NoN l s) : Calls Tryd.prog 39 #[pv, .string s] w fun e w' => e = .returned (.tuple #[.int .i64 0, .int .i64 0, .bool false]) ∧ Below w.heap.size w w' := by
  rcases h with ⟨rfl, rfl, _⟩ | ⟨p, rfl, h⟩
  · exact (find_nil s w).mono (fun e w' ⟨h1, h2⟩ => ⟨h1, by rw [h2]; exact Below.refl _ _⟩)
  · exact (find_no p m l F s w h hs hn).mono (fun e w' ⟨h1, h2⟩ => ⟨h1, by rw [h2]; exact Below.refl _ _⟩)
theorem Tq.findYes {w : World} {pv : Value} {m : Nat} {l : List Rw} {F : List Nat} (h : Tq w pv m l F) {i : Nat} (s : ByteArray) (hi : isT l i = true) (hs : nm l i = s) : Calls Tryd.prog 39 #[pv, .string s] w fun e w' => e = .returned (.tuple #[.int .i64 (i : Int), .int .i64 (vlu l i), .bool true]) ∧ Below w.heap.size w w' := by
  rcases h with ⟨rfl, rfl, _⟩ | ⟨p, rfl, h⟩
  · simp [isT, nm] at hi
  · exact (find_yes p m i l F s w h hi hs).mono (fun e w' ⟨h1, n, h2⟩ => ⟨h1, by rw [h2]; exact belowD _ _⟩)
theorem Tq.atNo {w : World} {pv : Value} {m : Nat} {l : List Rw} {F : List Nat} (h : Tq w pv m l F) (i : Int) (hi : NoS l i) : Calls Tryd.prog 50 #[pv, .int .i64 i] w fun e w' => e = .returned (.tuple #[.string ByteArray.empty, .int .i64 0, .bool false]) ∧ Below w.heap.size w w' := by
  rcases h with ⟨rfl, rfl, _⟩ | ⟨p, rfl, h⟩
  · exact (at_nil i w).mono (fun e w' ⟨h1, h2⟩ => ⟨h1, by rw [h2]; exact Below.refl _ _⟩)
  · exact (at_no p m l F i w h hi).mono (fun e w' ⟨h1, h2⟩ => ⟨h1, by rw [h2]; exact Below.refl _ _⟩)
theorem Tq.atYes {w : World} {pv : Value} {m : Nat} {l : List Rw} {F : List Nat} (h : Tq w pv m l F) (j : Nat) (hj : isT l j = true) : Calls Tryd.prog 50 #[pv, .int .i64 (j : Int)] w fun e w' => e = .returned (.tuple #[.string (nm l j), .int .i64 (vlu l j), .bool true]) ∧ Below w.heap.size w w' := by
  rcases h with ⟨rfl, rfl, _⟩ | ⟨p, rfl, h⟩
  · simp [isT, nm] at hj
  · exact (at_yes p m j l F w h hj).mono (fun e w' ⟨h1, n, h2⟩ => ⟨h1, by rw [h2]; exact belowD _ _⟩)
theorem Tq.taken {w : World} {pv : Value} {m : Nat} {l : List Rw} {F : List Nat} (h : Tq w pv m l F) (n : Int) (hn : n ≤ 66000) : Calls Tryd.prog 53 #[pv, .int .i64 n] w fun e w' => ∃ v, e = .returned v ∧ OwnP w' w.heap.size v ((tk (bs l)).take n.toNat) ∧ Below w.heap.size w w' := by
  by_cases h0 : n ≤ 0
  · rw [show n.toNat = 0 by omega, List.take_zero]
    exact taken_zero pv n w h0
  · obtain ⟨k, rfl⟩ : ∃ k : Nat, n = k := ⟨n.toNat, by omega⟩
    rw [Int.toNat_natCast]
    refine taken_core pv (bs l) k w (by omega) (by omega) ?_ (hid (fun W hb => (h.low hb).all))
    rw [bs_len]
    exact Nat.le_trans h.ok.le h.ok.mm
/-- The document's rows by slot are the walk's pairs. -/
theorem Rel.bys {l : List Rw} {d : List Dr} (h : Rel l d) : ∀ k, prD (bsD d k) = tkK (bs l) k
  | 0 => rfl
  | k + 1 => by
    rw [bsD, tkK, ← Rel.bys h k, nmS_bs]
    unfold prD
    rw [List.map_append]
    congr 1
    rcases h.at_ (k : Int) with ⟨hn, e⟩ | ⟨j, e, hj, hs, ht, hm, _⟩
    · have := isT_no.1 (hn k rfl)
      rw [if_pos e, if_pos (by rw [this]; rfl)]
      rfl
    · have hk : ds d j = k := by omega
      rw [hk] at ht hm
      rw [if_neg (by omega), e, Int.toNat_natCast, if_neg (isT_iff.1 ht), hk, ← hm]
      rfl
theorem Rel.bys_all {l : List Rw} {d : List Dr} (h : Rel l d) (ht : tl l = l.length) : prD (bsD d (spanD d)) = tk (bs l) := by
  rw [h.span ht, h.bys]
  unfold tk
  rw [bs_len]
end Go.Proofs.YtdhjoimiejdgbaaDoor.L
