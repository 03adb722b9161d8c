/- Offsets as text, in plain Lean: what is shown, what a text is guessed to be, and that what is shown is guessed as it was. -/
import Derived.Lib.AtoiAll
import Derived.Lib.Replace
import Derived.Lib.Strings
import Derived.Lib.ItoaNum
import Derived.Lib.IndexBytes
import Derived.Test.YtfjjdicgekgbeaaGreatDoorShelfM
import Derived.Maps.Own
import Derived.MapKept
import Derived.Deep.QuietTactic
import Derived.BigQuiet
import Derived.Deep.RegionHeld3
import Derived.WalkKit
import Derived.WalkSpells
import Derived.WalkSmall
import Derived.Lib.ReplaceLaws
import Derived.Lib.SplitLaws
import Derived.Lib.SlicesS
import Derived.Lib.IndexLaws
import Derived.Lib.AtoiErrMem
import Derived.Lib.AtoiAllCases
namespace Go.Proofs.YtfjjdicgekgbeaaGreatDoor.Ofs
open Go

/-- digits of a number below a hundred -/
def dg (k : Nat) : List UInt8 := if k < 10 then [UInt8.ofNat (48 + k)] else [UInt8.ofNat (48 + k / 10), UInt8.ofNat (48 + k % 10)]
/-- two digits -/
def dd (k : Nat) : List UInt8 := [UInt8.ofNat (48 + k / 10), UInt8.ofNat (48 + k % 10)]
/-- hours and minutes -/
def clk (bt : List UInt8) (br : Bool) (h m : Nat) : List UInt8 := if br = false then dd h ++ bt ++ dd m else if m = 0 then dg h else dg h ++ bt ++ dd m
/-- what is shown in a style of that shape -/
def shF (z a bt : List UInt8) (br : Bool) (n : Int) : List UInt8 := if n = 0 then z else a ++ [if n < 0 then 45 else 43] ++ clk bt br (n.natAbs / 3600) (n.natAbs % 3600 / 60)
/-- the shapes -/
def zz (st : Int) : List UInt8 := if st = 1 then [43, 48, 48, 48, 48] else if st = 2 then [90] else [71, 77, 84]
def aa (st : Int) : List UInt8 := if st = 1 then [] else if st = 2 then [] else [71, 77, 84]
def bb (st : Int) : List UInt8 := if st = 1 then [] else [58]
def brB (st : Int) : Bool := st == 3
def isSt (st : Int) : Bool := decide (1 ≤ st ∧ st ≤ 4)
def offB (n : Int) : Bool := decide (-57600 ≤ n ∧ n ≤ 57600 ∧ n.tmod 60 = 0)
def sh (st n : Int) : List UInt8 := shF (zz st) (aa st) (bb st) (brB st) n
/-- the number that Atoi tells beside whatever error -/
def num (l : List UInt8) : Int := match Lib.atoiAll l with
  | .ok v => v
  | .range => Lib.atoiSat l
  | _ => 0
def dig1 (a : List UInt8) (s : List UInt8) : List UInt8 := Lib.trimPrefix s a
def dig2 (br : Bool) (d : List UInt8) : List UInt8 := if br = true ∧ ¬ 0 ≤ Lib.indexByte d 58 then d ++ [48, 48] else d
def dig3 (bt d : List UInt8) : List UInt8 := if bt = [] then d else Lib.replace d bt [] 1
def digs (st : Int) (s : List UInt8) : List UInt8 := dig3 (bb st) (dig2 (brB st) (dig1 (aa st) s))
def ofN (s : Bool) (h m : Nat) : Int := if s then -((h * 3600 + m * 60 : Nat) : Int) else ((h * 3600 + m * 60 : Nat) : Int)
def ofM (s : Bool) (h m : Nat) : Int := if s then -((h * 100 + m : Nat) : Int) else ((h * 100 + m : Nat) : Int)
def good (st : Int) (s : Bool) (h m : Nat) : Bool := num (digs st (sh st (ofN s h m))) == ofM s h m
theorem good1 : ((List.range 17).all fun h => (List.range 60).all fun m => good 1 true h m && good 1 false h m) = true := by decide +kernel
theorem good2 : ((List.range 17).all fun h => (List.range 60).all fun m => good 2 true h m && good 2 false h m) = true := by decide +kernel
theorem good3 : ((List.range 17).all fun h => (List.range 60).all fun m => good 3 true h m && good 3 false h m) = true := by decide +kernel
theorem good4 : ((List.range 17).all fun h => (List.range 60).all fun m => good 4 true h m && good 4 false h m) = true := by decide +kernel
theorem good_of {st : Int} (h : ((List.range 17).all fun h => (List.range 60).all fun m => good st true h m && good st false h m) = true) (s : Bool) (a m : Nat) (ha : a < 17) (hm : m < 60) : num (digs st (sh st (ofN s a m))) = ofM s a m := by
  have h1 := List.all_eq_true.1 h a (List.mem_range.2 ha)
  have h2 := List.all_eq_true.1 h1 m (List.mem_range.2 hm)
  simp only [Bool.and_eq_true] at h2
  cases s
  · exact beq_iff_eq.1 h2.2
  · exact beq_iff_eq.1 h2.1
theorem st_cases {st : Int} (h : isSt st = true) : st = 1 ∨ st = 2 ∨ st = 3 ∨ st = 4 := by
  unfold isSt at h; simp at h; omega
theorem good_all {st : Int} (h : isSt st = true) (s : Bool) (a m : Nat) (ha : a < 17) (hm : m < 60) : num (digs st (sh st (ofN s a m))) = ofM s a m := by
  rcases st_cases h with rfl | rfl | rfl | rfl
  · exact good_of good1 s a m ha hm
  · exact good_of good2 s a m ha hm
  · exact good_of good3 s a m ha hm
  · exact good_of good4 s a m ha hm
theorem off_parts {n : Int} (h : offB n = true) : ∃ (s : Bool) (a m : Nat), a < 17 ∧ m < 60 ∧ n = ofN s a m := by
  unfold offB at h
  simp only [decide_eq_true_eq] at h
  obtain ⟨h1, h2, h3⟩ := h
  have h4 : (60 : Int) ∣ n := Int.dvd_of_tmod_eq_zero h3
  refine ⟨decide (n < 0), n.natAbs / 3600, n.natAbs % 3600 / 60, by omega, by omega, ?_⟩
  unfold ofN
  by_cases hn : n < 0
  · simp only [hn, decide_true, if_true]; omega
  · simp only [hn, decide_false, Bool.false_eq_true, if_false]; omega
theorem hm_ofM (s : Bool) (a m : Nat) (hm' : m < 60) : (ofM s a m).tdiv 100 * 3600 = (if s then -((a * 3600 : Nat) : Int) else (a * 3600 : Nat)) ∧ (ofM s a m).tmod 100 * 60 = (if s then -((m * 60 : Nat) : Int) else (m * 60 : Nat)) := by
  have e1 : ((a * 100 + m : Nat) : Int).tdiv 100 = a := by rw [Int.tdiv_eq_ediv_of_nonneg (by omega)]; omega
  have e2 : ((a * 100 + m : Nat) : Int).tmod 100 = m := by rw [Int.tmod_eq_emod_of_nonneg (by omega)]; omega
  unfold ofM
  cases s
  · simp only [Bool.false_eq_true, if_false, e1, e2]; omega
  · simp only [if_true, Int.neg_tdiv, Int.neg_tmod, e1, e2]; omega
/-- what is shown is guessed as it was: the number that is said, and the offset of it -/
theorem guess_show {st n : Int} (h : isSt st = true) (ho : offB n = true) : ∃ v, num (digs st (sh st n)) = v ∧ -57600 ≤ v.tdiv 100 * 3600 ∧ v.tdiv 100 * 3600 ≤ 57600 ∧ v.tdiv 100 * 3600 + v.tmod 100 * 60 = n := by
  obtain ⟨s, a, m, ha, hm, rfl⟩ := off_parts ho
  refine ⟨_, good_all h s a m ha hm, ?_⟩
  obtain ⟨e1, e2⟩ := hm_ofM s a m hm
  rw [e1, e2]
  unfold ofN
  cases s <;> simp only [Bool.false_eq_true, if_false, if_true] <;> omega
theorem sh_inj {st n m : Int} (h : isSt st = true) (hn : offB n = true) (hm : offB m = true) (e : sh st n = sh st m) : n = m := by
  obtain ⟨v, h1, _, _, h4⟩ := guess_show h hn
  obtain ⟨u, k1, _, _, k4⟩ := guess_show h hm
  rw [← h4, ← k4, ← h1, ← k1, e]
end Go.Proofs.YtfjjdicgekgbeaaGreatDoor.Ofs

/- Contracts of package offs: shapes, isOffset, twoDigits, clock, show, Show. -/
namespace Go.Proofs.YtfjjdicgekgbeaaGreatDoor
open Go Go.RowKit
set_option linter.unusedVariables false

theorem hideO {p : Prop} (h : p) : Hid p := h
theorem bthenO {w a b : World} (h : Below w.heap.size w a) (k : Below a.heap.size a b) : Below w.heap.size w b := h.trans (k.mono h.size)
theorem cellO {w w' : World} {b o : Nat} {x : Value} (h : w.cell? ⟨b, o, none⟩ = some x) (hb : Below w.heap.size w w') : w'.cell? ⟨b, o, none⟩ = some x := by
  rw [hb.cell (p := ⟨b, o, none⟩) (Lib.lt_of_cell h)]; exact h
theorem cells4 (w : World) (x y z u : Value) (t : TypeId) : (w.alloc (.cells #[x, y, z, u] t)).cell? ⟨w.heap.size, 0, none⟩ = some x ∧ (w.alloc (.cells #[x, y, z, u] t)).cell? ⟨w.heap.size, 1, none⟩ = some y ∧ (w.alloc (.cells #[x, y, z, u] t)).cell? ⟨w.heap.size, 2, none⟩ = some z ∧ (w.alloc (.cells #[x, y, z, u] t)).cell? ⟨w.heap.size, 3, none⟩ = some u := by
  refine ⟨?_, ?_, ?_, ?_⟩ <;> simp
theorem strO {a b : List UInt8} (h : a = b) : Ending.returned (.string ⟨a.toArray⟩) = .returned (.string ⟨b.toArray⟩) := by rw [h]
theorem boolO {a b : Bool} (h : a = b) : Ending.returned (.bool a) = .returned (.bool b) := by rw [h]
theorem isOffset_c (n : Int) (w : World) : Calls Tryz.prog 139 #[.int .i64 n] w fun e w' => e = .returned (.bool (Ofs.offB n)) ∧ w' = w := by
  have hc : n < -57600 ∨ (-57600 ≤ n ∧ 57600 < n) ∨ (-57600 ≤ n ∧ n ≤ 57600) := by omega
  rcases hc with h | ⟨h, h'⟩ | ⟨h, h'⟩
  · go_enter Tryz.func139, Tryz.ntmps139
    go_wp2
    go_ret
    exact ⟨boolO (by unfold Ofs.offB; simp; omega), rfl⟩
  · go_enter Tryz.func139, Tryz.ntmps139
    go_wp2
    go_ret
    exact ⟨boolO (by unfold Ofs.offB; simp; omega), rfl⟩
  · by_cases hb : n.tmod 60 = 0
    · have h1 : (n.tmod 60 == 0) = true := beq_iff_eq.2 hb
      go_enter Tryz.func139, Tryz.ntmps139
      go_wp2
      go_ret
      exact ⟨boolO (by unfold Ofs.offB; simp [hb]; omega), rfl⟩
    · have h1 : (n.tmod 60 == 0) = false := beq_eq_false_iff_ne.2 hb
      go_enter Tryz.func139, Tryz.ntmps139
      go_wp2
      go_ret
      exact ⟨boolO (by unfold Ofs.offB; simp [hb]), rfl⟩
theorem dec_dg {k : Nat} (h : k < 100) : Lib.decDigits k = Ofs.dg k := by
  unfold Ofs.dg
  by_cases h1 : k < 10
  · rw [Lib.decDigits, dif_pos h1, if_pos h1]
  · rw [Lib.decDigits, dif_neg h1, Lib.decDigits, dif_pos (by omega), if_neg h1]; rfl
theorem dd_dg {k : Nat} (h : k < 10) : [48] ++ Ofs.dg k = Ofs.dd k := by
  unfold Ofs.dg Ofs.dd
  rw [if_pos h, show k / 10 = 0 by omega, show k % 10 = k by omega]; rfl
theorem dd_dg' {k : Nat} (h : ¬ k < 10) : Ofs.dg k = Ofs.dd k := by
  unfold Ofs.dg Ofs.dd
  rw [if_neg h]
theorem bapp (a b : Array UInt8) : (⟨a⟩ : ByteArray) ++ ⟨b⟩ = ⟨a ++ b⟩ := by
  apply ByteArray.ext
  simp
theorem bappL (a b : List UInt8) : (⟨a.toArray⟩ : ByteArray) ++ ⟨b.toArray⟩ = ⟨(a ++ b).toArray⟩ := by rw [bapp]; simp
theorem strB {a b : ByteArray} (h : a = b) : Ending.returned (.string a) = .returned (.string b) := by rw [h]
theorem dg_len (k : Nat) : (Ofs.dg k).length ≤ 2 := by unfold Ofs.dg; split <;> simp
theorem dd_len (k : Nat) : (Ofs.dd k).length ≤ 2 := by unfold Ofs.dd; simp
theorem twoDigits_c (k : Nat) (h : k < 100) (w : World) : Calls Tryz.prog 196 #[.int .i64 k] w fun e w' => e = .returned (.string ⟨(Ofs.dd k).toArray⟩) ∧ w' = w := by
  have hI := Tryz.strconv_Itoa_small k h w
  rw [dec_dg h] at hI
  have HI := hideO hI
  have hl := dg_len k
  clear hI
  by_cases h1 : k < 10
  · have HD := hideO (dd_dg h1)
    have h2 : (k : Int) < 10 := by omega
    go_enter Tryz.func196, Tryz.ntmps196
    go_wp2_with (go_at_call 197; refine HI.out.mono ?_; rintro e w' ⟨rfl, rfl⟩)
    go_ret
    exact ⟨strB (by rw [← HD.out]; exact bappL [48] _), rfl⟩
  · have HD := hideO (dd_dg' h1)
    have h2 : ¬ (k : Int) < 10 := by omega
    go_enter Tryz.func196, Tryz.ntmps196
    go_wp2_with (go_at_call 197; refine HI.out.mono ?_; rintro e w' ⟨rfl, rfl⟩)
    go_ret
    exact ⟨strO HD.out, rfl⟩

/-- a shape, as it lies -/
abbrev shV (z a b : List UInt8) (br : Bool) : Value := .agg #[.string ⟨z.toArray⟩, .string ⟨a.toArray⟩, .string ⟨b.toArray⟩, .bool br]
theorem upd_int {P : Program} {w : World} {t kt et : TypeId} {B : Nat} {es : Array MapEntry} {cl : Nat} {k : Int} {v : Value} (ht : P.underlying t = some (.map kt et)) (hk : P.underlying kt = some (.int .i64))
    (hb : w.heap[B]? = some (.map es cl)) (hf : Instr.findNow (.int .i64) (.int .i64 k) es.toList 0 = some none) :
    (Instr.mapUpdate t (.map (some B)) (.int .i64 k) v).run P w = .ok () (ChangeMaps.setBlock w B (.map (es.push { key := .int .i64 k, val := v, born := cl }) (cl + 1))) := by
  simp [Instr.mapUpdate, run_underlying ht, MapKept.run_getObj_map hb, MapKept.run_checkKey hk (show MapKept.IsKey (.int .i64) (.int .i64 k) from by simp [MapKept.IsKey]), MapKept.run_findKey hk hf, MapKept.run_setObj_map _ hb, Result.andThen, ChangeMaps.setBlock]
theorem look_int {P : Program} {w : World} {t kt et : TypeId} {B : Nat} {es : Array MapEntry} {cl : Nat} {k : Int} {r : Option (Nat × Value)} {z : Value} (ht : P.underlying t = some (.map kt et)) (hk : P.underlying kt = some (.int .i64))
    (hb : w.heap[B]? = some (.map es cl)) (hz : (zeroValue et).run P w = .ok z w) (hf : Instr.findNow (.int .i64) (.int .i64 k) es.toList 0 = some r) :
    (Instr.lookup t (.map (some B)) (.int .i64 k) true).run P w = .ok (.tuple #[(r.map (·.2)).getD z, .bool r.isSome]) w := by
  cases r with
  | none => simp [Instr.lookup, run_underlying ht, MapKept.run_getObj_map hb, MapKept.run_checkKey hk (show MapKept.IsKey (.int .i64) (.int .i64 k) from by simp [MapKept.IsKey]), MapKept.run_findKey hk hf, hz, Result.andThen]
  | some r => simp [Instr.lookup, run_underlying ht, MapKept.run_getObj_map hb, MapKept.run_checkKey hk (show MapKept.IsKey (.int .i64) (.int .i64 k) from by simp [MapKept.IsKey]), MapKept.run_findKey hk hf, Result.andThen]

set_option maxHeartbeats 4000000 in
theorem clock_c (z a b : List UInt8) (br : Bool) (h m : Nat) (hh : h < 100) (hm : m < 60) (hb : b.length ≤ 10) (w : World) :
    Calls Tryz.prog 176 #[shV z a b br, .int .i64 h, .int .i64 m] w fun e w' => e = .returned (.string ⟨(Ofs.clk b br h m).toArray⟩) ∧ Below w.heap.size w w' := by
  have l1 := dd_len h
  have l2 := dd_len m
  have l3 := dg_len h
  have HB := hideO ((Below.refl _ w).alloc (Nat.le_refl _) (.cells #[.string ⟨z.toArray⟩, .string ⟨a.toArray⟩, .string ⟨b.toArray⟩, .bool br] 189))
  have hI := fun v => Tryz.strconv_Itoa_small h hh v
  rw [dec_dg hh] at hI
  have HI := hideO hI
  clear hI
  cases br
  · go_enter Tryz.func176, Tryz.ntmps176
    go_wp2_with fail
    go_quiet ((go_at_call 196; exact Calls.quiet_of_same (twoDigits_c _ (by omega) _)))
    go_wp2_with fail
    go_ret
    exact ⟨strB (by rw [bappL, bappL]; rfl), below_drewN HB.out _⟩
  · by_cases h0 : m = 0
    · subst h0
      go_enter Tryz.func176, Tryz.ntmps176
      go_wp2_with (go_at_call 197; refine (HI.out _).mono ?_; rintro e w' ⟨rfl, rfl⟩)
      go_ret
      exact ⟨strB (by rfl), HB.out⟩
    · have h1 : ((m : Int) == 0) = false := beq_eq_false_iff_ne.2 (by omega)
      go_enter Tryz.func176, Tryz.ntmps176
      go_wp2_with fail
      go_quiet ((first | (go_at_call 196; exact Calls.quiet_of_same (twoDigits_c m (by omega) _)) | (go_at_call 197; exact Calls.quiet_of_same (HI.out _))))
      go_wp2_with fail
      go_ret
      exact ⟨strB (by rw [bappL, bappL]; unfold Ofs.clk; rw [if_neg (by decide), if_neg h0]), below_drewN HB.out _⟩
theorem clock_i (z a b : List UInt8) (br : Bool) (h m : Int) (h0 : 0 ≤ h) (hh : h < 100) (m0 : 0 ≤ m) (hm : m < 60) (hb : b.length ≤ 10) (w : World) :
    Calls Tryz.prog 176 #[shV z a b br, .int .i64 h, .int .i64 m] w fun e w' => e = .returned (.string ⟨(Ofs.clk b br h.toNat m.toNat).toArray⟩) ∧ Below w.heap.size w w' := by
  obtain ⟨k, rfl⟩ := Int.eq_ofNat_of_zero_le h0
  obtain ⟨j, rfl⟩ := Int.eq_ofNat_of_zero_le m0
  exact clock_c z a b br k j (by omega) (by omega) hb w
theorem clk_len (b : List UInt8) (br : Bool) (h m : Nat) : (Ofs.clk b br h m).length ≤ 4 + b.length := by
  have l1 := dd_len h
  have l2 := dd_len m
  have l3 := dg_len h
  unfold Ofs.clk
  split
  · simp; omega
  · split
    · omega
    · simp; omega
theorem clock_e (z a b : List UInt8) (br : Bool) (h m : Int) (h0 : 0 ≤ h) (hh : h < 100) (m0 : 0 ≤ m) (hm : m < 60) (hb : b.length ≤ 10) (w : World) :
    Calls Tryz.prog 176 #[shV z a b br, .int .i64 h, .int .i64 m] w fun e w' => ∃ cs : List UInt8, Hid (cs = Ofs.clk b br h.toNat m.toNat) ∧ cs.length ≤ 14 ∧ e = .returned (.string ⟨cs.toArray⟩) ∧ Below w.heap.size w w' :=
  (clock_i z a b br h m h0 hh m0 hm hb w).mono fun e w' ⟨h1, h2⟩ => ⟨_, rfl, by have := clk_len b br h.toNat m.toNat; omega, h1, h2⟩
theorem wrapO {n : Int} (h0 : 0 ≤ n) (h1 : n < 9223372036854775808) : IntKind.i64.wrap n = n := by
  have h64 : IntKind.i64.bits = 64 := rfl
  have hsg : IntKind.i64.signed = true := rfl
  unfold IntKind.wrap
  rw [h64, hsg]
  simp only [Bool.true_and]
  rw [Int.emod_eq_of_lt h0 (by omega)]
  simp
  omega
theorem sh_pos (z a b : List UInt8) (br : Bool) {N : Nat} (h : 0 < N) : Ofs.shF z a b br (N : Int) = a ++ [43] ++ Ofs.clk b br (N / 3600) (N % 3600 / 60) := by
  unfold Ofs.shF
  rw [if_neg (by omega), if_neg (by omega), Int.natAbs_natCast]
theorem sh_neg (z a b : List UInt8) (br : Bool) {N : Nat} (h : 0 < N) : Ofs.shF z a b br (-(N : Int)) = a ++ [45] ++ Ofs.clk b br (N / 3600) (N % 3600 / 60) := by
  unfold Ofs.shF
  rw [if_neg (by omega), if_pos (by omega), Int.natAbs_neg, Int.natAbs_natCast]
theorem hrs (N : Nat) (h : N ≤ 57600) : IntKind.i64.wrap ((N : Int) / 3600) = ((N / 3600 : Nat) : Int) := by rw [wrapO (by omega) (by omega)]; omega
theorem mns (N : Nat) (h : N ≤ 57600) : IntKind.i64.wrap (((N : Int).tmod 3600).tdiv 60) = ((N % 3600 / 60 : Nat) : Int) := by
  rw [Int.tmod_eq_emod_of_nonneg (by omega), Int.tdiv_eq_ediv_of_nonneg (by omega), wrapO (by omega) (by omega)]; omega
set_option maxHeartbeats 4000000 in
theorem show_c (z a b : List UInt8) (br : Bool) (n : Int) (hn : Ofs.offB n = true) (ha : a.length ≤ 10) (hb : b.length ≤ 10) (w : World) :
    Calls Tryz.prog 140 #[shV z a b br, .int .i64 n] w fun e w' => e = .returned (.string ⟨(Ofs.shF z a b br n).toArray⟩) ∧ Below w.heap.size w w' := by
  have hr : -57600 ≤ n ∧ n ≤ 57600 := by unfold Ofs.offB at hn; simp only [decide_eq_true_eq] at hn; omega
  clear hn
  obtain ⟨r1, r2⟩ := hr
  have HB := hideO ((Below.refl _ w).alloc (Nat.le_refl _) (.cells #[.string ⟨z.toArray⟩, .string ⟨a.toArray⟩, .string ⟨b.toArray⟩, .bool br] 189))
  have hc : n = 0 ∨ (∃ N : Nat, 0 < N ∧ n = (N : Int)) ∨ (∃ N : Nat, 0 < N ∧ n = -(N : Int)) := by
    rcases Int.lt_trichotomy n 0 with h | h | h
    · exact .inr (.inr ⟨n.natAbs, by omega, by omega⟩)
    · exact .inl h
    · exact .inr (.inl ⟨n.natAbs, by omega, by omega⟩)
  rcases hc with rfl | ⟨N, h0, rfl⟩ | ⟨N, h0, rfl⟩
  · go_enter Tryz.func140, Tryz.ntmps140
    go_wp2_with fail
    go_ret
    exact ⟨rfl, HB.out⟩
  · have h1 : ((N : Int) == 0) = false := beq_eq_false_iff_ne.2 (by omega)
    have h2 : ¬ (N : Int) < 0 := by omega
    have n3 : (9223372036854775807 < a.length + 1) = False := eq_false (by omega)
    have HQ := hideO (hrs N (by omega))
    have HR := hideO (mns N (by omega))
    have HS := hideO (sh_pos z a b br h0)
    obtain ⟨c0, c1, c2, c3⟩ := cells4 w (.string ⟨z.toArray⟩) (.string ⟨a.toArray⟩) (.string ⟨b.toArray⟩) (.bool br) 189
    go_enter Tryz.func140, Tryz.ntmps140
    go_wp2_with fail
    go_region_held3 (fun v => v.cell? ⟨w.heap.size, 0, none⟩ = some (.string ⟨z.toArray⟩) ∧ v.cell? ⟨w.heap.size, 1, none⟩ = some (.string ⟨a.toArray⟩) ∧ v.cell? ⟨w.heap.size, 2, none⟩ = some (.string ⟨b.toArray⟩) ∧ v.cell? ⟨w.heap.size, 3, none⟩ = some (.bool br))
      (first | (exact ⟨c0, c1, c2, c3⟩) | (exact ⟨cellO (w := (w.alloc _).drew) c0 hw2, cellO (w := (w.alloc _).drew) c1 hw2, cellO (w := (w.alloc _).drew) c2 hw2, cellO (w := (w.alloc _).drew) c3 hw2⟩))
      (first | (go_at_call 176; rw [HQ.out, HR.out]; refine (clock_e z a b br _ _ (by omega) (by omega) (by omega) (by omega) hb _).mono ?_; rintro e w2 ⟨cs, HCS, lcs, rfl, hw2⟩; have n11 : (9223372036854775807 < a.length + 1 + cs.length) = False := eq_false (by omega)))
    all_goals
      have HB2 := hideO (bthenO (a := (w.alloc (.cells #[.string ⟨z.toArray⟩, .string ⟨a.toArray⟩, .string ⟨b.toArray⟩, .bool br] 189)).drew) HB.out.drew hw2)
      have HE : Hid ((⟨a.toArray⟩ : ByteArray) ++ ⟨#[43]⟩ ++ ⟨cs.toArray⟩ = ⟨(Ofs.shF z a b br N).toArray⟩) := by
        show _ = _
        rw [HS.out, HCS.out, Int.toNat_natCast, Int.toNat_natCast]
        have e1 := bappL a [43]
        rw [show (⟨#[43]⟩ : ByteArray) = ⟨[43].toArray⟩ from rfl, e1, bappL]
      clear hw2 n11 HCS lcs
      go_wp2_with fail
      go_ret
      exact ⟨strB HE.out, HB2.out⟩
  · have h1 : ((-(N : Int)) == 0) = false := beq_eq_false_iff_ne.2 (by omega)
    have h2 : -(N : Int) < 0 := by omega
    have n3 : (9223372036854775807 < a.length + 1) = False := eq_false (by omega)
    have HQ := hideO (hrs N (by omega))
    have HR := hideO (mns N (by omega))
    have HS := hideO (sh_neg z a b br h0)
    obtain ⟨c0, c1, c2, c3⟩ := cells4 w (.string ⟨z.toArray⟩) (.string ⟨a.toArray⟩) (.string ⟨b.toArray⟩) (.bool br) 189
    go_enter Tryz.func140, Tryz.ntmps140
    go_wp2_with fail
    go_region_held3 (fun v => v.cell? ⟨w.heap.size, 0, none⟩ = some (.string ⟨z.toArray⟩) ∧ v.cell? ⟨w.heap.size, 1, none⟩ = some (.string ⟨a.toArray⟩) ∧ v.cell? ⟨w.heap.size, 2, none⟩ = some (.string ⟨b.toArray⟩) ∧ v.cell? ⟨w.heap.size, 3, none⟩ = some (.bool br))
      (first | (exact ⟨c0, c1, c2, c3⟩) | (exact ⟨cellO (w := (w.alloc _).drew) c0 hw2, cellO (w := (w.alloc _).drew) c1 hw2, cellO (w := (w.alloc _).drew) c2 hw2, cellO (w := (w.alloc _).drew) c3 hw2⟩))
      (first | (go_at_call 176; rw [HQ.out, HR.out]; refine (clock_e z a b br _ _ (by omega) (by omega) (by omega) (by omega) hb _).mono ?_; rintro e w2 ⟨cs, HCS, lcs, rfl, hw2⟩; have n11 : (9223372036854775807 < a.length + 1 + cs.length) = False := eq_false (by omega)))
    all_goals
      have HB2 := hideO (bthenO (a := (w.alloc (.cells #[.string ⟨z.toArray⟩, .string ⟨a.toArray⟩, .string ⟨b.toArray⟩, .bool br] 189)).drew) HB.out.drew hw2)
      have HE : Hid ((⟨a.toArray⟩ : ByteArray) ++ ⟨#[45]⟩ ++ ⟨cs.toArray⟩ = ⟨(Ofs.shF z a b br (-(N : Int))).toArray⟩) := by
        show _ = _
        rw [HS.out, HCS.out, Int.toNat_natCast, Int.toNat_natCast]
        have e1 := bappL a [45]
        rw [show (⟨#[45]⟩ : ByteArray) = ⟨[45].toArray⟩ from rfl, e1, bappL]
      clear hw2 n11 HCS lcs
      go_wp2_with fail
      go_ret
      exact ⟨strB HE.out, HB2.out⟩

/-- what the map holds -/
abbrev sh1 : Value := shV [43, 48, 48, 48, 48] [] [] false
abbrev sh2 : Value := shV [90] [] [58] false
abbrev sh3 : Value := shV [71, 77, 84] [71, 77, 84] [58] true
abbrev sh4 : Value := shV [71, 77, 84] [71, 77, 84] [58] false
abbrev ent (k : Int) (v : Value) (b : Nat) : MapEntry := { key := .int .i64 k, val := v, born := b }
theorem setB_heap {w : World} {B : Nat} {o x : Obj} (h : w.heap[B]? = some x) : (ChangeMaps.setBlock w B o).heap[B]? = some o := by
  have hl := (Array.getElem?_eq_some_iff.1 h).1
  simp [ChangeMaps.setBlock, hl]
theorem setB_below {w0 w : World} {B : Nat} {o : Obj} (h : Below w0.heap.size w0 w) (hB : w0.heap.size ≤ B) : Below w0.heap.size w0 (ChangeMaps.setBlock w B o) :=
  h.trans ⟨rfl, rfl, rfl, by simp [ChangeMaps.setBlock], fun k hk => by simp [ChangeMaps.setBlock, show B ≠ k by omega]⟩
set_option maxHeartbeats 4000000 in
theorem lay_c (st : Int) (z a b : List UInt8) (br : Bool) (B T cl : Nat) (es : Array MapEntry) (w : World) (hT : w.cell? ⟨T, 0, none⟩ = some (.map (some B))) (hB : w.heap[B]? = some (.map es cl)) (hf : Instr.findNow (.int .i64) (.int .i64 st) es.toList 0 = some none) :
    Calls Tryz.prog 175 #[.int .i64 st, shV z a b br, .pointer (some ⟨T, 0, none⟩)] w fun e w' => e = .returned (.tuple #[]) ∧ w' = ChangeMaps.setBlock (w.alloc (.cells #[.string ⟨z.toArray⟩, .string ⟨a.toArray⟩, .string ⟨b.toArray⟩, .bool br] 189)) B (.map (es.push (ent st (shV z a b br) cl)) (cl + 1)) := by
  have hb := (Below.refl _ w).alloc (Nat.le_refl _) (.cells #[.string ⟨z.toArray⟩, .string ⟨a.toArray⟩, .string ⟨b.toArray⟩, .bool br] 189)
  have hT2 := cellO hT hb
  have hB2 : (w.alloc (.cells #[.string ⟨z.toArray⟩, .string ⟨a.toArray⟩, .string ⟨b.toArray⟩, .bool br] 189)).heap[B]? = some (.map es cl) := (hb.block B (Array.getElem?_eq_some_iff.1 hB).1).trans hB
  have hu := upd_int (P := Tryz.prog) (v := shV z a b br) Tryz.underlying191 Tryz.underlying3 hB2 hf
  clear hb hB hf hB2 hT
  go_enter Tryz.func175, Tryz.ntmps175
  go_wp2_with fail
  go_end0
  exact ⟨rfl, rfl⟩
/-- the map of all shapes -/
def shEs : Array MapEntry := #[ent 1 sh1 0, ent 2 sh2 1, ent 3 sh3 2, ent 4 sh4 3]
theorem lay_step (st : Int) (z a b : List UInt8) (br : Bool) (T cl : Nat) (es : Array MapEntry) (w0 w : World) (hT : w.cell? ⟨w0.heap.size + 1, 0, none⟩ = some (.map (some w0.heap.size))) (hB : w.heap[w0.heap.size]? = some (.map es cl)) (hf : Instr.findNow (.int .i64) (.int .i64 st) es.toList 0 = some none) (hW : Below w0.heap.size w0 w) :
    Calls Tryz.prog 175 #[.int .i64 st, shV z a b br, .pointer (some ⟨w0.heap.size + 1, 0, none⟩)] w fun e w' => e = .returned (.tuple #[]) ∧ w'.cell? ⟨w0.heap.size + 1, 0, none⟩ = some (.map (some w0.heap.size)) ∧ w'.heap[w0.heap.size]? = some (.map (es.push (ent st (shV z a b br) cl)) (cl + 1)) ∧ Below w0.heap.size w0 w' := by
  refine (lay_c st z a b br w0.heap.size (w0.heap.size + 1) cl es w hT hB hf).mono ?_
  rintro e w' ⟨rfl, rfl⟩
  have hb := (Below.refl _ w).alloc (Nat.le_refl _) (.cells #[.string ⟨z.toArray⟩, .string ⟨a.toArray⟩, .string ⟨b.toArray⟩, .bool br] 189)
  have hB2 := (hb.block w0.heap.size (Array.getElem?_eq_some_iff.1 hB).1).trans hB
  refine ⟨rfl, ?_, setB_heap hB2, setB_below (hW.trans (hb.mono hW.size)) (Nat.le_refl _)⟩
  rw [World.cell?_of_block (w := w.alloc (.cells #[.string ⟨z.toArray⟩, .string ⟨a.toArray⟩, .string ⟨b.toArray⟩, .bool br] 189)) (by simp [ChangeMaps.setBlock])]
  exact cellO hT hb
set_option maxHeartbeats 4000000 in
theorem shapes_c (w : World) : Calls Tryz.prog 138 #[] w fun e w' => e = .returned (.map (some w.heap.size)) ∧ w'.heap[w.heap.size]? = some (.map shEs 4) ∧ Below w.heap.size w w' := by
  have hmm := @run_makeMap Tryz.prog
  have hmf : ∀ (fn : Fn) (first cap : Array Value) (w : World), (Instr.makeFunc fn first cap).run Tryz.prog w = .ok (.func fn first cap) w := fun _ _ _ _ => rfl
  have hb0 : Hid (Below w.heap.size w ((w.alloc (.map #[] 0)).alloc (.cells #[.map (some w.heap.size)] 191))) := ((Below.refl _ w).alloc (Nat.le_refl _) _).alloc (by simp) _
  have hb1 : Hid (((w.alloc (.map #[] 0)).alloc (.cells #[.map (some w.heap.size)] 191)).heap[w.heap.size]? = some (.map #[] 0)) := by
    show _ = _
    rw [((Below.refl _ (w.alloc (.map #[] 0))).alloc (Nat.le_refl _) (.cells #[.map (some w.heap.size)] 191)).block w.heap.size (by simp)]
    exact heap_alloc_new w _
  have hb2 : Hid (((w.alloc (.map #[] 0)).alloc (.cells #[.map (some w.heap.size)] 191)).cell? ⟨w.heap.size + 1, 0, none⟩ = some (.map (some w.heap.size))) := by
    show _ = _
    simp
  go_enter Tryz.func138, Tryz.ntmps138
  go_wp2_with fail
  refine (lay_step 1 [43, 48, 48, 48, 48] [] [] false 0 0 #[] w _ hb2.out hb1.out (by rfl) hb0.out).mono ?_
  rintro e w1 ⟨rfl, t1, b1, h1⟩
  have T1 := hideO t1
  have B1 := hideO b1
  have H1 := hideO h1
  clear t1 b1 h1
  go_wp2_with fail
  refine (lay_step 2 [90] [] [58] false 0 1 _ w _ T1.out B1.out (by rfl) H1.out).mono ?_
  rintro e w2 ⟨rfl, t2, b2, h2⟩
  have T2 := hideO t2
  have B2 := hideO b2
  have H2 := hideO h2
  clear t2 b2 h2
  go_wp2_with fail
  refine (lay_step 3 [71, 77, 84] [71, 77, 84] [58] true 0 2 _ w _ T2.out B2.out (by rfl) H2.out).mono ?_
  rintro e w3 ⟨rfl, t3, b3, h3⟩
  have T3 := hideO t3
  have B3 := hideO b3
  have H3 := hideO h3
  clear t3 b3 h3
  go_wp2_with fail
  refine (lay_step 4 [71, 77, 84] [71, 77, 84] [58] false 0 3 _ w _ T3.out B3.out (by rfl) H3.out).mono ?_
  rintro e w4 ⟨rfl, t4, b4, h4⟩
  have T4 := hideO t4
  have B4 := hideO b4
  have H4 := hideO h4
  clear t4 b4 h4
  have t5 := T4.out
  go_wp2_with fail
  go_ret
  exact ⟨rfl, B4.out, H4.out⟩
end Go.Proofs.YtfjjdicgekgbeaaGreatDoor

/- strings.Replace of one ':' by nothing, once, at texts of any length that memory bears. -/
namespace Go.Proofs.YtfjjdicgekgbeaaGreatDoor
open Go Go.RowKit
set_option linter.unusedVariables false

theorem hidR {p : Prop} (h : p) : Hid p := h
theorem rep_cnt (s : ByteArray) (w : World) : Calls Tryz.prog 190 #[.string s, .string ⟨#[58]⟩] w fun e w' => e = .returned (.int .i64 (Lib.countByte s.data.toList 58)) ∧ w' = w := Any.strings_Count_one { Tryz.lays154 with } s 58 w
theorem rep_idx (s : ByteArray) (w : World) : Calls Tryz.prog 192 #[.string s, .string ⟨#[58]⟩] w fun e w' => e = .returned (.int .i64 (Lib.indexByte s.data.toList 58)) ∧ w' = w := Any.strings_Index_one { Tryz.lays154 with } s 58 w
theorem rep_grow (B b n : Nat) (w : World) (hB : B ≤ b) (hbk : w.heap[b]? = some (.cells #[.pointer none, .slice none 0 0] 239 (0, 0))) (hBw : B ≤ w.heap.size) (hn : n ≤ 281474976710656) :
    Calls Tryz.prog 191 #[.pointer (some ⟨b, 0, none⟩), .int .i64 n] w fun e w' => e = .returned (.tuple #[]) ∧ (Lib.BuilderAt 239 5 B b (.pointer (some ⟨b, 0, none⟩)) [] w' ∧ Below B w w') := Any.Builder_Grow_fresh { Tryz.lays154 with } Tryz.Builder_Extra_154 B b n w hB hbk hBw hn
theorem rep_write (B b : Nat) (bs : List Value) (s : ByteArray) (w : World) (h : Lib.IsBuilder 239 5 B b bs w) (hlen : bs.length + s.size ≤ 140737488355328) (hBw : B ≤ w.heap.size) :
    Calls Tryz.prog 193 #[.pointer (some ⟨b, 0, none⟩), .string s] w fun e w' => e = .returned (.tuple #[.int .i64 s.size, .nilIface]) ∧ (Lib.BuilderAt 239 5 B b (.pointer (some ⟨b, 0, none⟩)) (bs ++ Lib.strCells s) w' ∧ Below B w w') := Any.Builder_WriteString { Tryz.lays154 with } Tryz.Builder_Extra_154 B b bs s w h hlen hBw
theorem rep_str (B b : Nat) (l : List UInt8) (w : World) (h : Lib.IsBuilder 239 5 B b (Lib.byteCells l) w) (hBw : B ≤ w.heap.size) :
    Calls Tryz.prog 195 #[.pointer (some ⟨b, 0, none⟩)] w fun e w' => e = .returned (.string ⟨l.toArray⟩) ∧ Below B w w' := Any.Builder_String_any { Tryz.lays154 with } Tryz.Builder_Extra_154 B b l w h hBw
theorem cnt_one (l : List UInt8) : Lib.count l [58] = Lib.countByte l 58 := by rw [Lib.count_one]; rfl
/-- nothing is replaced -/
theorem rep_none {l : List UInt8} (h : Lib.countByte l 58 = 0) : Lib.replace l [58] [] 1 = l := by
  unfold Lib.replace Lib.replaceNum
  rw [cnt_one, h]
  rfl
/-- the first is left out -/
theorem rep_hit {l : List UInt8} (h : Lib.countByte l 58 ≠ 0) : ∃ j : Nat, Lib.indexByte l 58 = j ∧ j + 1 ≤ l.length ∧ Lib.replace l [58] [] 1 = l.take j ++ l.drop (j + 1) := by
  obtain ⟨j, hj⟩ := Lib.index_of_count (s := l) (old := [58]) (by rw [cnt_one]; omega)
  have hr := Lib.index_room l [58] (by rw [hj]; omega)
  rw [hj] at hr
  refine ⟨j, by rw [← Lib.index_one]; exact hj, by simp at hr; omega, ?_⟩
  have e : Lib.replaceNum l [58] 1 = 0 + 1 := by
    unfold Lib.replaceNum
    rw [cnt_one, if_neg (by omega)]
    rfl
  unfold Lib.replace
  rw [if_neg (by decide), e, Lib.replaceK_hit _ _ 0 _ j hj]
  simp [Lib.replaceK]
set_option maxHeartbeats 8000000 in
set_option maxRecDepth 100000 in
theorem Replace1_c (s : ByteArray) (w : World) (hs : s.size ≤ 140737488355328) :
    Calls Tryz.prog 174 #[.string s, .string ⟨#[58]⟩, .string ⟨#[]⟩, .int .i64 1] w fun e w' => e = .returned (.string ⟨(Lib.replace s.data.toList [58] [] 1).toArray⟩) ∧ Below w.heap.size w w' := by
  have HC := hidR (rep_cnt s w)
  have hlenL : s.data.toList.length = s.size := (Lib.size_eq s).symm
  have o1 : (⟨#[58]⟩ : ByteArray).size = 1 := rfl
  have o2 : (⟨#[]⟩ : ByteArray).size = 0 := rfl
  have hb : ((⟨#[58]⟩ : ByteArray).toList == (⟨#[]⟩ : ByteArray).toList) = false := (Lib.bytes_beq_false_iff _ _).2 (by decide)
  by_cases h0 : Lib.countByte s.data.toList 58 = 0
  · rw [rep_none h0]
    rw [h0] at HC
    clear h0
    go_enter Tryz.func174, Tryz.ntmps174
    go_wp2_with (go_at_call 190; refine HC.out.mono ?_; rintro e w' ⟨rfl, hw⟩; rw [hw])
    go_ret
    exact ⟨rfl, Below.refl _ _⟩
  · obtain ⟨j, hj, hjl, hr⟩ := rep_hit h0
    rw [hr]
    obtain ⟨cn, hcn⟩ : ∃ cn : Nat, Lib.countByte s.data.toList 58 = cn := ⟨_, rfl⟩
    rw [hcn] at HC h0
    have hcz : ((cn : Int) == 0) = false := beq_eq_false_iff_ne.2 (by omega)
    have hc1 : ¬ ((cn : Int) < 1) := by omega
    have hcd : decide ((cn : Int) < 1) = false := by simp; omega
    have hod : decide (0 < (⟨#[58]⟩ : ByteArray).size) = true := by decide
    clear hr hcn
    go_enter Tryz.func174, Tryz.ntmps174
    go_wp2_with (go_at_call 190; refine HC.out.mono ?_; rintro e w' ⟨rfl, hw⟩; rw [hw])
    have hga : ((s.size : Int) + -1) = ((s.size - 1 : Nat) : Int) := by omega
    rw [hga]
    refine (rep_grow w.heap.size w.heap.size _ _ (Nat.le_refl _) (heap_alloc_new w _) (by simp) (by omega)).mono ?_
    rintro e w1 ⟨rfl, hb0, hb1⟩
    have H1 := hidR (Or.inr hb0 : Lib.IsBuilder 239 5 w.heap.size w.heap.size (Lib.byteCells []) w1)
    have Hb1 := hidR (((Below.refl w.heap.size w).alloc (Nat.le_refl _) _).trans hb1)
    clear hb0 hb1 hga HC
    go_wp2_with fail
    go_loopw [11, 53] (fun x11 x53 wx => ∃ (i start : Nat) (acc : List UInt8), x53 = .int .i64 i ∧ x11 = .int .i64 start ∧ (i = 0 ∧ start = 0 ∧ acc = [] ∨ i = 1 ∧ start = j + 1 ∧ acc = s.data.toList.take j) ∧ Hid (Lib.IsBuilder 239 5 w.heap.size w.heap.size (Lib.byteCells acc) wx) ∧ Hid (Below w.heap.size w wx)) (fun _ x53 _ => 1 - (intOf x53).toNat)
    case atStart => exact ⟨0, 0, [], rfl, rfl, .inl ⟨rfl, rfl, rfl⟩, H1, Hb1⟩
    case round =>
      obtain ⟨i, start, acc, rfl, rfl, hcase, HB, HW⟩ := hrel
      have hBw : w.heap.size ≤ wr.heap.size := HW.out.size
      rcases hcase with ⟨rfl, rfl, rfl⟩ | ⟨rfl, rfl, rfl⟩
      · have HI := hidR (rep_idx s wr)
        rw [hj] at HI
        have c4 : (j : Int) ≤ (s.size : Int) := by omega
        have c5 : (0 : Int) ≤ (j : Int) := by omega
        have hex : s.extract 0 s.size = s := by simp
        go_wp2_with (first | (go_at_call 192; refine HI.out.mono ?_; rintro e w' ⟨rfl, hw⟩; rw [hw]))
        refine (rep_write w.heap.size w.heap.size _ (s.extract 0 j) wr HB.out (by rw [Lib.byteCells_length, ByteArray.size_extract]; simp; omega) hBw).mono ?_
        rintro e w3 ⟨rfl, h3, hb3⟩
        have hBw3 : w.heap.size ≤ w3.heap.size := Nat.le_trans hBw hb3.size
        have H3 := hidR h3
        have Hb3 := hidR hb3
        clear h3 hb3 HI
        go_wp2_with fail
        refine (rep_write w.heap.size w.heap.size _ ⟨#[]⟩ w3 (Or.inr H3.out) (by rw [List.length_append, Lib.byteCells_length, Lib.strCells_length, ByteArray.size_extract, o2]; simp; omega) hBw3).mono ?_
        rintro e w4 ⟨rfl, h4, hb4⟩
        have hnx : Lib.byteCells [] ++ Lib.strCells (s.extract 0 j) ++ Lib.strCells ⟨#[]⟩ = Lib.byteCells (s.data.toList.take j) := by
          rw [Lib.strCells_eq, Lib.strCells_eq, Lib.extract_data, ← Lib.byteCells_append, ← Lib.byteCells_append]
          simp
        rw [hnx] at h4
        have H4 := hidR (Or.inr h4 : Lib.IsBuilder 239 5 w.heap.size w.heap.size (Lib.byteCells (s.data.toList.take j)) w4)
        have Hb4 := hidR ((HW.out.trans Hb3.out).trans hb4)
        clear h4 hb4 hnx
        go_wp2_with fail
        go_roundw
        case rel => exact ⟨1, j + 1, _, by first | rfl | go_num, by first | rfl | go_num, .inr ⟨rfl, rfl, rfl⟩, H4, Hb4⟩
        case measure => simp [intOf]
      · have c2 : ((j : Int) + 1) ≤ (s.size : Int) := by omega
        have c3 : (0 : Int) ≤ ((j : Int) + 1) := by omega
        go_wp2_with fail
        refine (rep_write w.heap.size w.heap.size _ (s.extract (j + 1) s.size) wr HB.out (by rw [Lib.byteCells_length, ByteArray.size_extract, List.length_take]; omega) hBw).mono ?_
        rintro e w3 ⟨rfl, h3, hb3⟩
        rw [Lib.strCells_eq, Lib.extract_to_end, ← Lib.byteCells_append] at h3
        have H3 := hidR (Or.inr h3 : Lib.IsBuilder 239 5 w.heap.size w.heap.size _ w3)
        have Hb3 := hidR (HW.out.trans hb3)
        have hBw3 : w.heap.size ≤ w3.heap.size := Hb3.out.size
        clear h3 hb3
        go_wp2_with fail
        refine (rep_str w.heap.size w.heap.size _ w3 H3.out hBw3).mono ?_
        rintro e w5 ⟨rfl, hb5⟩
        have Hb5 := hidR (Hb3.out.trans hb5)
        clear hb5
        go_wp2_with fail
        go_ret
        exact ⟨rfl, Hb5.out⟩
end Go.Proofs.YtfjjdicgekgbeaaGreatDoor

/- Contracts of package offs: Show, guess, Read. -/
namespace Go.Proofs.YtfjjdicgekgbeaaGreatDoor
open Go Go.RowKit
set_option linter.unusedVariables false

/-- the shape of a style -/
abbrev shS (st : Int) : Value := shV (Ofs.zz st) (Ofs.aa st) (Ofs.bb st) (Ofs.brB st)
abbrev shZ : Value := shV [] [] [] false
theorem find_sh (st : Int) : Instr.findNow (.int .i64) (.int .i64 st) shEs.toList 0 = some (if st = 1 then some (0, sh1) else if st = 2 then some (1, sh2) else if st = 3 then some (2, sh3) else if st = 4 then some (3, sh4) else none) := by
  by_cases h1 : st = 1
  · subst h1; rfl
  by_cases h2 : st = 2
  · subst h2; rfl
  by_cases h3 : st = 3
  · subst h3; rfl
  by_cases h4 : st = 4
  · subst h4; rfl
  rw [if_neg h1, if_neg h2, if_neg h3, if_neg h4]
  have e1 : (st == 1) = false := beq_eq_false_iff_ne.2 h1
  have e2 : (st == 2) = false := beq_eq_false_iff_ne.2 h2
  have e3 : (st == 3) = false := beq_eq_false_iff_ne.2 h3
  have e4 : (st == 4) = false := beq_eq_false_iff_ne.2 h4
  simp [shEs, Instr.findNow, Instr.sameNow, e1, e2, e3, e4]
theorem look_yes {st : Int} (h : Ofs.isSt st = true) (w : World) (B : Nat) (hB : w.heap[B]? = some (.map shEs 4)) :
    (Instr.lookup 191 (.map (some B)) (.int .i64 st) true).run Tryz.prog w = .ok (.tuple #[shS st, .bool true]) w := by
  have hz : (zeroValue 189).run Tryz.prog w = .ok shZ w := Tryz.zeroValue189 w
  rw [look_int Tryz.underlying191 Tryz.underlying3 hB hz (find_sh st)]
  rcases Ofs.st_cases h with rfl | rfl | rfl | rfl <;> rfl
theorem look_no {st : Int} (h : Ofs.isSt st = false) (w : World) (B : Nat) (hB : w.heap[B]? = some (.map shEs 4)) :
    (Instr.lookup 191 (.map (some B)) (.int .i64 st) true).run Tryz.prog w = .ok (.tuple #[shZ, .bool false]) w := by
  have hz : (zeroValue 189).run Tryz.prog w = .ok shZ w := Tryz.zeroValue189 w
  rw [look_int Tryz.underlying191 Tryz.underlying3 hB hz (find_sh st)]
  have : ¬ (1 ≤ st ∧ st ≤ 4) := by unfold Ofs.isSt at h; simpa using h
  rw [if_neg (by omega), if_neg (by omega), if_neg (by omega), if_neg (by omega)]
  rfl
theorem aa_len (st : Int) : (Ofs.aa st).length ≤ 3 := by unfold Ofs.aa; split; · simp
                                                         split <;> simp
theorem bb_len (st : Int) : (Ofs.bb st).length ≤ 1 := by unfold Ofs.bb; split <;> simp
/-- what Show answers -/
def shwT (st n : Int) : List UInt8 := if Ofs.isSt st = true ∧ Ofs.offB n = true then Ofs.sh st n else []
def shwE (st n : Int) : Int := if Ofs.isSt st = true then (if Ofs.offB n = true then 0 else 3) else 8
set_option maxHeartbeats 4000000 in
theorem Show_c (st n : Int) (w : World) : Calls Tryz.prog 101 #[.int .i64 st, .int .i64 n] w fun e w' => e = .returned (.tuple #[.string ⟨(shwT st n).toArray⟩, .int .i64 (shwE st n)]) ∧ Below w.heap.size w w' := by
  cases hs : Ofs.isSt st
  · have HT : Hid (shwT st n = []) := by show _ = _; unfold shwT; simp [hs]
    have HE : Hid (shwE st n = 8) := by show _ = _; unfold shwE; simp [hs]
    have HL := hideO (fun v B hB => look_no hs v B hB)
    clear hs
    go_enter Tryz.func101, Tryz.ntmps101
    go_wp2_with fail
    refine (shapes_c _).mono ?_
    rintro e w1 ⟨rfl, b1, h1⟩
    have hl := HL.out w1 w.heap.size b1
    have H1 := hideO h1
    clear b1 h1 HL
    go_wp2_with fail
    go_ret2
    refine ⟨by rw [HT.out, HE.out]; rfl, ?_⟩
    exact H1.out.alloc H1.out.size _
  · have HL := hideO (fun v B hB => look_yes hs v B hB)
    have ha := aa_len st
    have hb := bb_len st
    cases ho : Ofs.offB n
    · have HT : Hid (shwT st n = []) := by show _ = _; unfold shwT; simp [ho]
      have HE : Hid (shwE st n = 3) := by show _ = _; unfold shwE; simp [hs, ho]
      have HO := hideO (fun v => isOffset_c n v)
      rw [ho] at HO
      clear hs ho
      go_enter Tryz.func101, Tryz.ntmps101
      go_wp2_with fail
      refine (shapes_c _).mono ?_
      rintro e w1 ⟨rfl, b1, h1⟩
      have hl := HL.out w1 w.heap.size b1
      have H1 := hideO h1
      clear b1 h1 HL
      go_wp2_with (go_at_call 139; refine (HO.out _).mono ?_; rintro e w2 ⟨rfl, rfl⟩)
      go_ret2
      refine ⟨by rw [HT.out, HE.out]; rfl, ?_⟩
      exact H1.out.alloc H1.out.size _
    · have HT : Hid (shwT st n = Ofs.sh st n) := by show _ = _; unfold shwT; simp [hs, ho]
      have HE : Hid (shwE st n = 0) := by show _ = _; unfold shwE; simp [hs, ho]
      have HO := hideO (fun v => isOffset_c n v)
      rw [ho] at HO
      have HS := hideO (fun v => show_c (Ofs.zz st) (Ofs.aa st) (Ofs.bb st) (Ofs.brB st) n ho (by omega) (by omega) v)
      clear hs ho
      go_enter Tryz.func101, Tryz.ntmps101
      go_wp2_with fail
      refine (shapes_c _).mono ?_
      rintro e w1 ⟨rfl, b1, h1⟩
      have hl := HL.out w1 w.heap.size b1
      have H1 := hideO (h1.alloc h1.size (.cells #[.string ⟨(Ofs.zz st).toArray⟩, .string ⟨(Ofs.aa st).toArray⟩, .string ⟨(Ofs.bb st).toArray⟩, .bool (Ofs.brB st)] 189))
      clear b1 h1 HL
      go_wp2_with (first
        | (go_at_call 139; refine (HO.out _).mono ?_; rintro e w2 ⟨rfl, rfl⟩)
        | (go_at_call 140; refine (HS.out _).mono ?_; rintro e w3 ⟨rfl, hw3⟩))
      go_ret2
      refine ⟨by rw [HT.out, HE.out]; rfl, ?_⟩
      exact bthenO H1.out hw3

/-- the variables of strconv's errors hold something -/
def EV (w : World) : Prop := (∃ tp p, w.var? Tryz.prog "strconv.ErrSyntax" = some #[.iface tp p]) ∧ (∃ tp p, w.var? Tryz.prog "strconv.ErrRange" = some #[.iface tp p]) ∧ ∃ m, w.cell? ⟨0, 0, none⟩ = some (.int .i64 m)
theorem var_on {w w' : World} {n : String} {g : Nat} {cs : Array Value} (hg : Tryz.prog.globalNamed n = some g) (hv : w.var? Tryz.prog n = some cs) (hb : Below w.heap.size w w') : w'.var? Tryz.prog n = some cs := by
  refine var?_below hb hg ?_ hv
  unfold World.var? at hv
  rw [hg] at hv
  simp only [Option.bind_some] at hv
  rcases Nat.lt_or_ge g w.heap.size with h | h
  · exact h
  · rw [Array.getElem?_eq_none h] at hv; cases hv
def gW (v : Int) : Int := wrap64 (wrap64 (v.tdiv 100 * 3600) + wrap64 (v.tmod 100 * 60))
theorem num_bd (l : List UInt8) : -9223372036854775808 ≤ Ofs.num l ∧ Ofs.num l ≤ 9223372036854775807 := by
  unfold Ofs.num
  split
  · exact Lib.atoiAll_bounds (by assumption)
  · exact Lib.atoiSat_bounds _
  · decide
theorem Rep_c (d : List UInt8) (b : List UInt8) (w : World) (hE : EV w) (hd : d.length ≤ 140737488355328) (hb : b = [] ∨ b = [58]) :
    Calls Tryz.prog 174 #[.string ⟨d.toArray⟩, .string ⟨b.toArray⟩, .string ⟨#[]⟩, .int .i64 1] w fun e w' => e = .returned (.string ⟨(Ofs.dig3 b d).toArray⟩) ∧ Below w.heap.size w w' := by
  obtain ⟨_, _, m, a3⟩ := hE
  have hsz : (⟨d.toArray⟩ : ByteArray).size = d.length := by simp [ByteArray.size]
  rcases hb with rfl | rfl
  · refine (Tryz.strings_Replace_none ⟨d.toArray⟩ ⟨#[]⟩ ⟨#[]⟩ 1 w (.inl rfl)).mono ?_
    rintro e w' ⟨rfl, rfl⟩
    exact ⟨rfl, Below.refl _ _⟩
  · refine (Replace1_c ⟨d.toArray⟩ w (by rw [hsz]; omega)).mono ?_
    rintro e w' ⟨rfl, hw⟩
    exact ⟨rfl, hw⟩
theorem trim_len (s a : List UInt8) : (Lib.trimPrefix s a).length ≤ s.length := by
  unfold Lib.trimPrefix
  split
  · simp
  · exact Nat.le_refl _
theorem dig2_len (br : Bool) (d : List UInt8) : (Ofs.dig2 br d).length ≤ d.length + 2 := by
  unfold Ofs.dig2
  split
  · simp
  · omega
theorem dig3_len (b d : List UInt8) (hb : b = [] ∨ b = [58]) : (Ofs.dig3 b d).length ≤ d.length := by
  rcases hb with rfl | rfl
  · exact Nat.le_refl _
  · show (Lib.replace d [58] [] 1).length ≤ _
    unfold Lib.replace
    rw [if_neg (by decide)]
    have key : ∀ k s, (Lib.replaceK [58] [] k s).length ≤ s.length := by
      intro k
      induction k with
      | zero => intro s; exact Nat.le_refl _
      | succ k ih =>
        intro s
        unfold Lib.replaceK
        split
        · exact Nat.le_refl _
        · have := ih (s.drop ((Lib.index s [58]).toNat + [58].length))
          simp only [List.append_nil, List.length_append, List.length_take]
          simp only [List.length_drop] at this
          omega
    exact key _ _
/-- the guess of a style -/
def gs (st : Int) (s : List UInt8) : Int := gW (Ofs.num (Ofs.digs st s))
def rdN (st : Int) (s : List UInt8) : Int := if Ofs.isSt st = true ∧ Ofs.offB (gs st s) = true ∧ Ofs.sh st (gs st s) = s then gs st s else 0
def rdE (st : Int) (s : List UInt8) : Int := if Ofs.isSt st = true then (if Ofs.offB (gs st s) = true ∧ Ofs.sh st (gs st s) = s then 0 else 1) else 8
end Go.Proofs.YtfjjdicgekgbeaaGreatDoor
