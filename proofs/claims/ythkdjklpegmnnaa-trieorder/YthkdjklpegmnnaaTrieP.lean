/- What is found in a trie that was built: plain facts for the laws; choose. -/
import Derived.Test.YthkdjklpegmnnaaTrieO
namespace Go.Proofs.Ythkdjklpegmnnaa.Tri
open Go Go.RowKit Go.Maps
set_option linter.unusedVariables false

/-- which word a text is -/
abbrev fwW (N : Nat) (ss : Nat → ByteArray) (s : List UInt8) : Int := fw (wl N ss) N s
theorem fnd_fw {N : Nat} {ss : Nat → ByteArray} (h0 : bldE N ss = 0) (s : ByteArray) : fndR (trI N ss) s = fwW N ss s.data.toList := by
  unfold fndR
  rw [if_pos (tchk_yes (bld_okT h0)), find_bld]
theorem fw_nil {N : Nat} {ss : Nat → ByteArray} (h0 : bldE N ss = 0) : fwW N ss [] = -1 := by
  rcases fw_spec (wl N ss) [] N with ⟨h, _⟩ | ⟨j, _, h2, h3, _⟩
  · exact h
  · rw [wo_wl h2] at h3
    have := (okW_sz ((bldE_zero h0).2 j h2)).1
    rw [← sz_len, h3] at this
    simp at this
structure LgF (N : Nat) (ss : Nat → ByteArray) (s : ByteArray) (L : Int × Nat) : Prop where
  le : L.2 ≤ s.size
  at_ : L.1 = fwW N ss (s.data.toList.take L.2)
  more : ∀ m, L.2 < m → m ≤ s.size → fwW N ss (s.data.toList.take m) = -1
  iff : L.1 = -1 ↔ L.2 = 0
  ge : -1 ≤ L.1
theorem long_facts {N : Nat} {ss : Nat → ByteArray} (h0 : bldE N ss = 0) (s : ByteArray) : LgF N ss s (longR (trI N ss) s) := by
  have e : longR (trI N ss) s = lgT (fun n => fwW N ss (s.data.toList.take n)) s.size := by
    unfold longR
    rw [if_pos (tchk_yes (bld_okT h0))]
    unfold longT
    rw [sz_len]
    exact lgT_congr fun m _ => find_bld _ _ _
  obtain ⟨h1, h2, h3, h4⟩ := lgT_spec (fun n => fwW N ss (s.data.toList.take n)) s.size
  rw [e]
  refine ⟨h1, h2, h3, ⟨fun h => h4 (by rw [← h2]; exact h), fun h => ?_⟩, ?_⟩
  · rw [h2, h]
    simp only [List.take_zero]
    exact fw_nil h0
  · rw [h2]; exact fw_ge _ _ _
theorem app_take (s b : ByteArray) {m : Nat} (h : m ≤ s.size) : (s ++ b).data.toList.take m = s.data.toList.take m := by
  have e : (s ++ b).data.toList = s.data.toList ++ b.data.toList := by simp
  rw [e, List.take_append_of_le_length (by rw [sz_len]; exact h)]
theorem app_size (s b : ByteArray) : (s ++ b).size = s.size + b.size := by simp
/-- of a longer text the longest word is not shorter -/
theorem long_mono {N : Nat} {ss : Nat → ByteArray} (h0 : bldE N ss = 0) (s b : ByteArray) : (longR (trI N ss) s).2 ≤ (longR (trI N ss) (s ++ b)).2 := by
  have f := long_facts h0 s
  have g := long_facts h0 (s ++ b)
  rcases Nat.lt_or_ge (longR (trI N ss) (s ++ b)).2 (longR (trI N ss) s).2 with h | h
  · have := g.more _ h (by rw [app_size]; have := f.le; omega)
    rw [app_take _ _ f.le, ← f.at_] at this
    have := f.iff.1 this
    omega
  · exact h
/-- of the word itself it is all of it -/
theorem long_self {N : Nat} {ss : Nat → ByteArray} (h0 : bldE N ss = 0) (s u : ByteArray) (hu : u.data.toList = s.data.toList.take (longR (trI N ss) s).2) : longR (trI N ss) u = longR (trI N ss) s := by
  have f := long_facts h0 s
  have hs : u.size = (longR (trI N ss) s).2 := by
    rw [← sz_len, hu, List.length_take, sz_len]
    have := f.le
    omega
  have e : longR (trI N ss) u = lgT (fun n => fwW N ss (u.data.toList.take n)) u.size := by
    unfold longR
    rw [if_pos (tchk_yes (bld_okT h0))]
    unfold longT
    rw [sz_len]
    exact lgT_congr fun m _ => find_bld _ _ _
  rw [e, hs]
  have := lgT_uniq (f := fun n => fwW N ss (u.data.toList.take n)) (N := (longR (trI N ss) s).2) (n := (longR (trI N ss) s).2) (Nat.le_refl _) (fun m h1 h2 => by omega) (fun h => by
    rw [hu, List.take_take, Nat.min_self, ← f.at_] at h
    exact f.iff.1 h)
  rw [this, hu, List.take_take, Nat.min_self, ← f.at_]
theorem trI_len (N : Nat) (ss : Nat → ByteArray) : (trI N ss).length ≤ sz (wl N ss) N := by
  obtain ⟨_, _, _, _, h⟩ := bld_ok (wl N ss) N
  exact h
def cho (c n : Int) : Int := if c < 0 then (-(c + 1)).tmod n else c.tmod n
theorem cho_bd (c n : Int) (hn : 0 < n) : 0 ≤ cho c n ∧ cho c n < n := by
  unfold cho
  split
  · rw [Int.tmod_eq_emod_of_nonneg (by omega)]; exact ⟨Int.emod_nonneg _ (by omega), Int.emod_lt_of_pos _ hn⟩
  · rw [Int.tmod_eq_emod_of_nonneg (by omega)]; exact ⟨Int.emod_nonneg _ (by omega), Int.emod_lt_of_pos _ hn⟩
theorem choose_any (c n : Int) (w : World) (hn : 0 < n) (hc : -9223372036854775808 ≤ c) (hc2 : c ≤ 9223372036854775807) :
    Calls Try.prog 19 #[.int .i64 c, .int .i64 n] w fun e w' => e = .returned (.int .i64 (cho c n)) ∧ w' = w := by
  by_cases h : c < 0
  · go_enter Try.func19, Try.ntmps19
    go_wp2
    go_ret
    exact ⟨ret_int (by unfold cho; rw [if_pos h, Int.neg_tmod]), rfl⟩
  · go_enter Try.func19, Try.ntmps19
    go_wp2
    go_ret
    exact ⟨ret_int (by unfold cho; rw [if_neg (by omega), Int.tmod_eq_emod_of_nonneg (by omega)]), rfl⟩
theorem choose_nat (c : Int) (n : Nat) (w : World) (hn : 0 < n) (hc : -9223372036854775808 ≤ c) (hc2 : c ≤ 9223372036854775807) :
    ∃ k : Nat, k < n ∧ Calls Try.prog 19 #[.int .i64 c, .int .i64 n] w fun e w' => e = .returned (.int .i64 k) ∧ w' = w := by
  have := cho_bd c n (by omega)
  refine ⟨(cho c n).toNat, by omega, ?_⟩
  rw [show (((cho c n).toNat : Nat) : Int) = cho c n by omega]
  exact choose_any c n w (by omega) hc hc2
end Go.Proofs.Ythkdjklpegmnnaa.Tri
