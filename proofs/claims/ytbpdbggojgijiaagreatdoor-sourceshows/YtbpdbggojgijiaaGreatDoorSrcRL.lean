/- Plain: what right data are shown as is what the document's own reads as they were. -/
import Derived.Test.YtbpdbggojgijiaaGreatDoorSrcRK
import Derived.Test.YtbpdbggojgijiaaGreatDoorSourceZ
namespace Go.Proofs.YtbpdbggojgijiaaGreatDoor.Src
open Go Go.RowKit
set_option linter.unusedVariables false
set_option linter.unusedSimpArgs false

theorem dgt_sub {d : Nat} (h : d < 10) : (UInt8.ofNat (48 + d) - 48).toNat = d ∧ UInt8.ofNat (48 + d) ≠ 45 := by
  have e := dgt h
  constructor
  · have := sub48 (UInt8.ofNat (48 + d))
    rw [e] at this
    omega
  · intro h2
    have := congrArg UInt8.toNat h2
    rw [e] at this
    have e45 : (45 : UInt8).toNat = 45 := rfl
    omega
theorem say_dec (u : Nat) : sayN 0 (Lib.decDigits u) = u := by
  induction u using Nat.strongRecOn with
  | _ u ih =>
    by_cases e : u < 10
    · rw [Lib.decDigits, dif_pos e]
      show (if UInt8.ofNat (48 + u) = 45 then 0 else 10 * 0 + (UInt8.ofNat (48 + u) - 48).toNat) = u
      rw [if_neg (dgt_sub e).2, (dgt_sub e).1]
      omega
    · have hd := dgt_sub (d := u % 10) (by omega)
      rw [Lib.decDigits, dif_neg e, sayN_app, ih (u / 10) (by omega)]
      show (if UInt8.ofNat (48 + u % 10) = 45 then u / 10 else 10 * (u / 10) + (UInt8.ofNat (48 + u % 10) - 48).toNat) = u
      rw [if_neg hd.2, hd.1]
      omega
theorem dec_len2 : ∀ (k u : Nat), u < 10 ^ (k + 1) → (Lib.decDigits u).length ≤ k + 1
  | 0, u, h => by
    rw [Lib.decDigits, dif_pos (by simpa using h)]
    simp
  | k + 1, u, h => by
    rw [Lib.decDigits]
    split
    · simp
    · have := dec_len2 k (u / 10) (by rw [Nat.pow_succ] at h; omega)
      rw [List.length_append]
      simp
      omega
theorem dec_pos (u : Nat) : 1 ≤ (Lib.decDigits u).length := List.length_pos_iff.2 (dec_ne u)
theorem lt_of_lt_ten {u : Nat} (h : u < 10000000000) : u < 10 ^ (9 + 1) := by
  have e : (10 : Nat) ^ (9 + 1) = 10000000000 := by decide
  rw [e]
  exact h
/-- a number that is not too long is said as it was -/
theorem say_itoa {n : Int} (h1 : -10000000000 < n) (h2 : n < 10000000000) : sayP (Lib.itoa n) = n := by
  unfold sayP Lib.itoa
  by_cases hn : n < 0
  · rw [if_pos hn]
    have hl := dec_len2 9 n.natAbs (lt_of_lt_ten (by omega))
    have hp := dec_pos n.natAbs
    rw [if_pos (by simp; omega), if_pos (show (45 :: Lib.decDigits n.natAbs)[0]? = some 45 from rfl)]
    have e : sayN 0 (45 :: Lib.decDigits n.natAbs) = sayN 0 (Lib.decDigits n.natAbs) := rfl
    rw [e, say_dec]
    omega
  · rw [if_neg hn]
    have hl := dec_len2 9 n.toNat (lt_of_lt_ten (by omega))
    have hp := dec_pos n.toNat
    rw [if_pos ⟨by omega, by omega⟩, if_neg, say_dec]
    · omega
    · intro he
      have := dec_dig n.toNat 45 (List.mem_of_getElem? he)
      have e45 : (45 : UInt8).toNat = 45 := rfl
      omega
theorem from_show {D : Dt} (h : chkE D = 0) : fromP (showD D) = pdOf D := by
  have hcl : ∀ ws ∈ lnAll Lib.itoa (pdOf D), clean ws := fun ws hw => by
    have := lines_fine h ws hw
    exact ⟨this.1, fun w hw => (this.2.2 w hw).2⟩
  have hc := cut_show hcl
  have ht := take_all (dig := Lib.itoa) (num := sayP) (d := pdOf D) ⟨fun s hs r hr => by
    obtain ⟨j, hj, rfl⟩ := List.mem_map.1 hs
    obtain ⟨i, hi, rfl⟩ := List.mem_map.1 hr
    have hr0 := chk_rule h (List.mem_range.1 hj) (List.mem_range.1 hi)
    obtain ⟨q1, q2, q3⟩ := rule_parts hr0
    have a := bnd_of q1
    have b := chk_bd q2
    refine ⟨say_itoa (by omega) (by omega), say_itoa (by omega) (by omega), say_itoa (by omega) (by omega), say_itoa (by omega) (by omega), say_itoa (by omega) (by omega), say_itoa (by omega) (by omega), say_itoa (by omega) (by omega), say_itoa (by omega) (by omega), fun e => ?_⟩
    unfold letS allLet at q3
    rw [e] at q3
    simp only [Bool.and_eq_true, decide_eq_true_eq] at q3
    exact absurd q3.2 (by decide), fun z hz x hx => by
    obtain ⟨j, hj, rfl⟩ := List.mem_map.1 hz
    obtain ⟨i, hi, rfl⟩ := List.mem_map.1 hx
    have hj' := List.mem_range.1 hj
    have hi' := List.mem_range.1 hi
    have h1 := ebnd_of (chk_era h hj' hi')
    obtain ⟨h2, h3⟩ := (chk_all h).2.2.1 j hj'
    have h4 := un_hi ((D.zs j).n - i - 1) i (D.zs j).n (by omega) (fun k hk => (h2 k hk).2) h3
    have h5 := un_lo i (D.zs j).n hi' (fun k hk => (h2 k hk).2)
    have h6 := (chk_all h).1.1.1
    exact ⟨say_itoa (by omega) (by omega), say_itoa (by omega) (by omega), say_itoa (by omega) (by omega), say_itoa (by omega) (by omega)⟩⟩
  rw [show_eq]
  unfold fromP
  have hlen := congrArg List.length hc
  simp only [List.length_map, List.length_append, List.length_cons, List.length_nil] at hlen
  have e : ((cutB 10 (showP Lib.itoa (pdOf D))).take ((cutB 10 (showP Lib.itoa (pdOf D))).length - 1)).map (cutB 32) = lnAll Lib.itoa (pdOf D) := by
    rw [List.map_take, hc, hlen]
    simp
  rw [e, ht]
theorem df_yes {D : Dt} {s : By} {e : Ending} {w' : World} (hc : chkE D = 0) (hs : showD D = s) (h : dfQ s e w') : ∃ E : Dt, e = .returned (.tuple #[E.v, .bool true]) ∧ DAt w' E ∧ pdOf E = pdOf D := by
  obtain ⟨E, hd, hf, hp, h⟩ := h
  subst hs
  rw [from_show hc] at hp
  rcases h with ⟨_, _, rfl⟩ | ⟨hn, _⟩
  · exact ⟨E, rfl, hd, hp⟩
  · exact absurd ⟨(same_chk hp).trans hc, same_show hp⟩ hn
theorem df_no {D : Dt} {s : By} {e : Ending} {w' : World} (hn : ¬ (chkE D = 0 ∧ showD D = s)) (hg : pdOf D = guessP numA s) (h : dfQ s e w') : e = .returned (.tuple #[zD, .bool false]) := by
  obtain ⟨E, hd, hf, hp, h⟩ := h
  rcases h with ⟨hc, hs, _⟩ | ⟨_, rfl⟩
  · exfalso
    have h2 := back_D hc
    rw [hs] at h2
    have h3 : pdOf D = pdOf E := hg.trans h2
    exact hn ⟨(same_chk h3).trans hc, (same_show h3).trans hs⟩
  · rfl
/-- nothing -/
def D00 : Dt := { sa := none, ns := 0, sc := 0, ss := fun _ => ⟨⟨#[]⟩, none, 0, 0, fun _ => r00⟩, za := none, nz := 0, zc := 0, zs := fun _ => ⟨⟨#[]⟩, none, 0, 0, fun _ => e00⟩, la := none, nl := 0, lc := 0, ls := fun _ => ⟨⟨#[]⟩, ⟨#[]⟩⟩ }
theorem same_none (w : World) : Calls Tryz.prog 10 #[.agg #[.slice none 0 0, .slice none 0 0, .slice none 0 0], .agg #[.slice none 0 0, .slice none 0 0, .slice none 0 0]] w fun e w' => e = .returned (.bool true) ∧ Below w.heap.size w w' :=
  SameData_c D00 D00 w ⟨.inl rfl, fun j hj => absurd hj (Nat.not_lt_zero _), .inl rfl, fun j hj => absurd hj (Nat.not_lt_zero _), .inl rfl⟩ ⟨.inl rfl, fun j hj => absurd hj (Nat.not_lt_zero _), .inl rfl, fun j hj => absurd hj (Nat.not_lt_zero _), .inl rfl⟩ ⟨Nat.zero_le _, Nat.zero_le _, Nat.zero_le _, fun j hj => absurd hj (Nat.not_lt_zero _), fun j hj => absurd hj (Nat.not_lt_zero _), fun j hj => absurd hj (Nat.not_lt_zero _), fun j hj => absurd hj (Nat.not_lt_zero _), fun j hj => absurd hj (Nat.not_lt_zero _), fun j hj => absurd hj (Nat.not_lt_zero _), fun j hj => absurd hj (Nat.not_lt_zero _), fun j hj => absurd hj (Nat.not_lt_zero _)⟩ (SameDt.refl _)
end Go.Proofs.YtbpdbggojgijiaaGreatDoor.Src
