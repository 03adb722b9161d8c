/- Offsets as text, in plain Lean: what is shown, what a text is guessed to be, and that what is shown is guessed as it was. -/
import Derived.Lib.AtoiAll
import Derived.Lib.Replace
import Derived.Lib.Strings
import Derived.Lib.ItoaNum
import Derived.Lib.IndexBytes
namespace Go.Proofs.YtcdokhjmpkcpnafDoor.Ofs
open Go

/-- digits of a number below a hundred -/
def dg (k : Nat) : List UInt8 := if k < 10 then [UInt8.ofNat (48 + k)] else [UInt8.ofNat (48 + k / 10), UInt8.ofNat (48 + k % 10)]
/-- two digits -/
def dd (k : Nat) : List UInt8 := [UInt8.ofNat (48 + k / 10), UInt8.ofNat (48 + k % 10)]
/-- hours and minutes -/
def clk (bt : List UInt8) (br : Bool) (h m : Nat) : List UInt8 := if br = false then dd h ++ bt ++ dd m else if m = 0 then dg h else dg h ++ bt ++ dd m
/-- what is shown in a style of that shape -/
def shF (z a bt : List UInt8) (br : Bool) (n : Int) : List UInt8 := if n = 0 then z else a ++ [if n < 0 then 45 else 43] ++ clk bt br (n.natAbs / 3600) (n.natAbs % 3600 / 60)
/-- the shapes -/
def zz (st : Int) : List UInt8 := if st = 1 then [43, 48, 48, 48, 48] else if st = 2 then [90] else [71, 77, 84]
def aa (st : Int) : List UInt8 := if st = 1 then [] else if st = 2 then [] else [71, 77, 84]
def bb (st : Int) : List UInt8 := if st = 1 then [] else [58]
def brB (st : Int) : Bool := st == 3
def isSt (st : Int) : Bool := decide (1 ≤ st ∧ st ≤ 4)
def offB (n : Int) : Bool := decide (-57600 ≤ n ∧ n ≤ 57600 ∧ n.tmod 60 = 0)
def sh (st n : Int) : List UInt8 := shF (zz st) (aa st) (bb st) (brB st) n
/-- the number that Atoi tells beside whatever error -/
def num (l : List UInt8) : Int := match Lib.atoiAll l with
  | .ok v => v
  | .range => Lib.atoiSat l
  | _ => 0
def dig1 (a : List UInt8) (s : List UInt8) : List UInt8 := Lib.trimPrefix s a
def dig2 (br : Bool) (d : List UInt8) : List UInt8 := if br = true ∧ ¬ 0 ≤ Lib.indexByte d 58 then d ++ [48, 48] else d
def dig3 (bt d : List UInt8) : List UInt8 := if bt = [] then d else Lib.replace d bt [] 1
def digs (st : Int) (s : List UInt8) : List UInt8 := dig3 (bb st) (dig2 (brB st) (dig1 (aa st) s))
def ofN (s : Bool) (h m : Nat) : Int := if s then -((h * 3600 + m * 60 : Nat) : Int) else ((h * 3600 + m * 60 : Nat) : Int)
def ofM (s : Bool) (h m : Nat) : Int := if s then -((h * 100 + m : Nat) : Int) else ((h * 100 + m : Nat) : Int)
def good (st : Int) (s : Bool) (h m : Nat) : Bool := num (digs st (sh st (ofN s h m))) == ofM s h m
theorem good1 : ((List.range 17).all fun h => (List.range 60).all fun m => good 1 true h m && good 1 false h m) = true := by decide +kernel
theorem good2 : ((List.range 17).all fun h => (List.range 60).all fun m => good 2 true h m && good 2 false h m) = true := by decide +kernel
theorem good3 : ((List.range 17).all fun h => (List.range 60).all fun m => good 3 true h m && good 3 false h m) = true := by decide +kernel
theorem good4 : ((List.range 17).all fun h => (List.range 60).all fun m => good 4 true h m && good 4 false h m) = true := by decide +kernel
theorem good_of {st : Int} (h : ((List.range 17).all fun h => (List.range 60).all fun m => good st true h m && good st false h m) = true) (s : Bool) (a m : Nat) (ha : a < 17) (hm : m < 60) : num (digs st (sh st (ofN s a m))) = ofM s a m := by
  have h1 := List.all_eq_true.1 h a (List.mem_range.2 ha)
  have h2 := List.all_eq_true.1 h1 m (List.mem_range.2 hm)
  simp only [Bool.and_eq_true] at h2
  cases s
  · exact beq_iff_eq.1 h2.2
  · exact beq_iff_eq.1 h2.1
theorem st_cases {st : Int} (h : isSt st = true) : st = 1 ∨ st = 2 ∨ st = 3 ∨ st = 4 := by
  unfold isSt at h; simp at h; omega
theorem good_all {st : Int} (h : isSt st = true) (s : Bool) (a m : Nat) (ha : a < 17) (hm : m < 60) : num (digs st (sh st (ofN s a m))) = ofM s a m := by
  rcases st_cases h with rfl | rfl | rfl | rfl
  · exact good_of good1 s a m ha hm
  · exact good_of good2 s a m ha hm
  · exact good_of good3 s a m ha hm
  · exact good_of good4 s a m ha hm
theorem off_parts {n : Int} (h : offB n = true) : ∃ (s : Bool) (a m : Nat), a < 17 ∧ m < 60 ∧ n = ofN s a m := by
  unfold offB at h
  simp only [decide_eq_true_eq] at h
  obtain ⟨h1, h2, h3⟩ := h
  have h4 : (60 : Int) ∣ n := Int.dvd_of_tmod_eq_zero h3
  refine ⟨decide (n < 0), n.natAbs / 3600, n.natAbs % 3600 / 60, by omega, by omega, ?_⟩
  unfold ofN
  by_cases hn : n < 0
  · simp only [hn, decide_true, if_true]; omega
  · simp only [hn, decide_false, Bool.false_eq_true, if_false]; omega
theorem hm_ofM (s : Bool) (a m : Nat) (hm' : m < 60) : (ofM s a m).tdiv 100 * 3600 = (if s then -((a * 3600 : Nat) : Int) else (a * 3600 : Nat)) ∧ (ofM s a m).tmod 100 * 60 = (if s then -((m * 60 : Nat) : Int) else (m * 60 : Nat)) := by
  have e1 : ((a * 100 + m : Nat) : Int).tdiv 100 = a := by rw [Int.tdiv_eq_ediv_of_nonneg (by omega)]; omega
  have e2 : ((a * 100 + m : Nat) : Int).tmod 100 = m := by rw [Int.tmod_eq_emod_of_nonneg (by omega)]; omega
  unfold ofM
  cases s
  · simp only [Bool.false_eq_true, if_false, e1, e2]; omega
  · simp only [if_true, Int.neg_tdiv, Int.neg_tmod, e1, e2]; omega
/-- what is shown is guessed as it was: the number that is said, and the offset of it -/
theorem guess_show {st n : Int} (h : isSt st = true) (ho : offB n = true) : ∃ v, num (digs st (sh st n)) = v ∧ -57600 ≤ v.tdiv 100 * 3600 ∧ v.tdiv 100 * 3600 ≤ 57600 ∧ v.tdiv 100 * 3600 + v.tmod 100 * 60 = n := by
  obtain ⟨s, a, m, ha, hm, rfl⟩ := off_parts ho
  refine ⟨_, good_all h s a m ha hm, ?_⟩
  obtain ⟨e1, e2⟩ := hm_ofM s a m hm
  rw [e1, e2]
  unfold ofN
  cases s <;> simp only [Bool.false_eq_true, if_false, if_true] <;> omega
theorem sh_inj {st n m : Int} (h : isSt st = true) (hn : offB n = true) (hm : offB m = true) (e : sh st n = sh st m) : n = m := by
  obtain ⟨v, h1, _, _, h4⟩ := guess_show h hn
  obtain ⟨u, k1, _, _, k4⟩ := guess_show h hm
  rw [← h4, ← k4, ← h1, ← k1, e]
end Go.Proofs.YtcdokhjmpkcpnafDoor.Ofs
