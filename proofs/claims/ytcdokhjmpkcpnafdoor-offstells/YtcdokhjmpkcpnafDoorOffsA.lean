/- Contracts of package offs: shapes, isOffset, twoDigits, clock, show, Show. -/
import Derived.Test.YtcdokhjmpkcpnafDoorOffsM
import Derived.Test.YtcdokhjmpkcpnafDoorShelfO
import Derived.Maps.Own
import Derived.MapKept
import Derived.Deep.QuietTactic
import Derived.BigQuiet
import Derived.Deep.RegionHeld3
import Derived.WalkKit
import Derived.WalkSpells
import Derived.WalkSmall
namespace Go.Proofs.YtcdokhjmpkcpnafDoor
open Go Go.RowKit
set_option linter.unusedVariables false

theorem hideO {p : Prop} (h : p) : Hid p := h
theorem bthenO {w a b : World} (h : Below w.heap.size w a) (k : Below a.heap.size a b) : Below w.heap.size w b := h.trans (k.mono h.size)
theorem cellO {w w' : World} {b o : Nat} {x : Value} (h : w.cell? ⟨b, o, none⟩ = some x) (hb : Below w.heap.size w w') : w'.cell? ⟨b, o, none⟩ = some x := by
  rw [hb.cell (p := ⟨b, o, none⟩) (Lib.lt_of_cell h)]; exact h
theorem cells4 (w : World) (x y z u : Value) (t : TypeId) : (w.alloc (.cells #[x, y, z, u] t)).cell? ⟨w.heap.size, 0, none⟩ = some x ∧ (w.alloc (.cells #[x, y, z, u] t)).cell? ⟨w.heap.size, 1, none⟩ = some y ∧ (w.alloc (.cells #[x, y, z, u] t)).cell? ⟨w.heap.size, 2, none⟩ = some z ∧ (w.alloc (.cells #[x, y, z, u] t)).cell? ⟨w.heap.size, 3, none⟩ = some u := by
  refine ⟨?_, ?_, ?_, ?_⟩ <;> simp
theorem strO {a b : List UInt8} (h : a = b) : Ending.returned (.string ⟨a.toArray⟩) = .returned (.string ⟨b.toArray⟩) := by rw [h]
theorem boolO {a b : Bool} (h : a = b) : Ending.returned (.bool a) = .returned (.bool b) := by rw [h]
theorem isOffset_c (n : Int) (w : World) : Calls Tryd.prog 12 #[.int .i64 n] w fun e w' => e = .returned (.bool (Ofs.offB n)) ∧ w' = w := by
  have hc : n < -57600 ∨ (-57600 ≤ n ∧ 57600 < n) ∨ (-57600 ≤ n ∧ n ≤ 57600) := by omega
  rcases hc with h | ⟨h, h'⟩ | ⟨h, h'⟩
  · go_enter Tryd.func12, Tryd.ntmps12
    go_wp2
    go_ret
    exact ⟨boolO (by unfold Ofs.offB; simp; omega), rfl⟩
  · go_enter Tryd.func12, Tryd.ntmps12
    go_wp2
    go_ret
    exact ⟨boolO (by unfold Ofs.offB; simp; omega), rfl⟩
  · by_cases hb : n.tmod 60 = 0
    · have h1 : (n.tmod 60 == 0) = true := beq_iff_eq.2 hb
      go_enter Tryd.func12, Tryd.ntmps12
      go_wp2
      go_ret
      exact ⟨boolO (by unfold Ofs.offB; simp [hb]; omega), rfl⟩
    · have h1 : (n.tmod 60 == 0) = false := beq_eq_false_iff_ne.2 hb
      go_enter Tryd.func12, Tryd.ntmps12
      go_wp2
      go_ret
      exact ⟨boolO (by unfold Ofs.offB; simp [hb]), rfl⟩
theorem dec_dg {k : Nat} (h : k < 100) : Lib.decDigits k = Ofs.dg k := by
  unfold Ofs.dg
  by_cases h1 : k < 10
  · rw [Lib.decDigits, dif_pos h1, if_pos h1]
  · rw [Lib.decDigits, dif_neg h1, Lib.decDigits, dif_pos (by omega), if_neg h1]; rfl
theorem dd_dg {k : Nat} (h : k < 10) : [48] ++ Ofs.dg k = Ofs.dd k := by
  unfold Ofs.dg Ofs.dd
  rw [if_pos h, show k / 10 = 0 by omega, show k % 10 = k by omega]; rfl
theorem dd_dg' {k : Nat} (h : ¬ k < 10) : Ofs.dg k = Ofs.dd k := by
  unfold Ofs.dg Ofs.dd
  rw [if_neg h]
theorem bapp (a b : Array UInt8) : (⟨a⟩ : ByteArray) ++ ⟨b⟩ = ⟨a ++ b⟩ := by
  apply ByteArray.ext
  simp
theorem bappL (a b : List UInt8) : (⟨a.toArray⟩ : ByteArray) ++ ⟨b.toArray⟩ = ⟨(a ++ b).toArray⟩ := by rw [bapp]; simp
theorem strB {a b : ByteArray} (h : a = b) : Ending.returned (.string a) = .returned (.string b) := by rw [h]
theorem dg_len (k : Nat) : (Ofs.dg k).length ≤ 2 := by unfold Ofs.dg; split <;> simp
theorem dd_len (k : Nat) : (Ofs.dd k).length ≤ 2 := by unfold Ofs.dd; simp
theorem twoDigits_c (k : Nat) (h : k < 100) (w : World) : Calls Tryd.prog 24 #[.int .i64 k] w fun e w' => e = .returned (.string ⟨(Ofs.dd k).toArray⟩) ∧ w' = w := by
  have hI := Tryd.strconv_Itoa_small k h w
  rw [dec_dg h] at hI
  have HI := hideO hI
  have hl := dg_len k
  clear hI
  by_cases h1 : k < 10
  · have HD := hideO (dd_dg h1)
    have h2 : (k : Int) < 10 := by omega
    go_enter Tryd.func24, Tryd.ntmps24
    go_wp2_with (go_at_call 25; refine HI.out.mono ?_; rintro e w' ⟨rfl, rfl⟩)
    go_ret
    exact ⟨strB (by rw [← HD.out]; exact bappL [48] _), rfl⟩
  · have HD := hideO (dd_dg' h1)
    have h2 : ¬ (k : Int) < 10 := by omega
    go_enter Tryd.func24, Tryd.ntmps24
    go_wp2_with (go_at_call 25; refine HI.out.mono ?_; rintro e w' ⟨rfl, rfl⟩)
    go_ret
    exact ⟨strO HD.out, rfl⟩

/-- a shape, as it lies -/
abbrev shV (z a b : List UInt8) (br : Bool) : Value := .agg #[.string ⟨z.toArray⟩, .string ⟨a.toArray⟩, .string ⟨b.toArray⟩, .bool br]
theorem upd_int {P : Program} {w : World} {t kt et : TypeId} {B : Nat} {es : Array MapEntry} {cl : Nat} {k : Int} {v : Value} (ht : P.underlying t = some (.map kt et)) (hk : P.underlying kt = some (.int .i64))
    (hb : w.heap[B]? = some (.map es cl)) (hf : Instr.findNow (.int .i64) (.int .i64 k) es.toList 0 = some none) :
    (Instr.mapUpdate t (.map (some B)) (.int .i64 k) v).run P w = .ok () (ChangeMaps.setBlock w B (.map (es.push { key := .int .i64 k, val := v, born := cl }) (cl + 1))) := by
  simp [Instr.mapUpdate, run_underlying ht, MapKept.run_getObj_map hb, MapKept.run_checkKey hk (show MapKept.IsKey (.int .i64) (.int .i64 k) from by simp [MapKept.IsKey]), MapKept.run_findKey hk hf, MapKept.run_setObj_map _ hb, Result.andThen, ChangeMaps.setBlock]
theorem look_int {P : Program} {w : World} {t kt et : TypeId} {B : Nat} {es : Array MapEntry} {cl : Nat} {k : Int} {r : Option (Nat × Value)} {z : Value} (ht : P.underlying t = some (.map kt et)) (hk : P.underlying kt = some (.int .i64))
    (hb : w.heap[B]? = some (.map es cl)) (hz : (zeroValue et).run P w = .ok z w) (hf : Instr.findNow (.int .i64) (.int .i64 k) es.toList 0 = some r) :
    (Instr.lookup t (.map (some B)) (.int .i64 k) true).run P w = .ok (.tuple #[(r.map (·.2)).getD z, .bool r.isSome]) w := by
  cases r with
  | none => simp [Instr.lookup, run_underlying ht, MapKept.run_getObj_map hb, MapKept.run_checkKey hk (show MapKept.IsKey (.int .i64) (.int .i64 k) from by simp [MapKept.IsKey]), MapKept.run_findKey hk hf, hz, Result.andThen]
  | some r => simp [Instr.lookup, run_underlying ht, MapKept.run_getObj_map hb, MapKept.run_checkKey hk (show MapKept.IsKey (.int .i64) (.int .i64 k) from by simp [MapKept.IsKey]), MapKept.run_findKey hk hf, Result.andThen]

set_option maxHeartbeats 4000000 in
theorem clock_c (z a b : List UInt8) (br : Bool) (h m : Nat) (hh : h < 100) (hm : m < 60) (hb : b.length ≤ 10) (w : World) :
    Calls Tryd.prog 19 #[shV z a b br, .int .i64 h, .int .i64 m] w fun e w' => e = .returned (.string ⟨(Ofs.clk b br h m).toArray⟩) ∧ Below w.heap.size w w' := by
  have l1 := dd_len h
  have l2 := dd_len m
  have l3 := dg_len h
  have HB := hideO ((Below.refl _ w).alloc (Nat.le_refl _) (.cells #[.string ⟨z.toArray⟩, .string ⟨a.toArray⟩, .string ⟨b.toArray⟩, .bool br] 32))
  have hI := fun v => Tryd.strconv_Itoa_small h hh v
  rw [dec_dg hh] at hI
  have HI := hideO hI
  clear hI
  cases br
  · go_enter Tryd.func19, Tryd.ntmps19
    go_wp2_with fail
    go_quiet ((go_at_call 24; exact Calls.quiet_of_same (twoDigits_c _ (by omega) _)))
    go_wp2_with fail
    go_ret
    exact ⟨strB (by rw [bappL, bappL]; rfl), below_drewN HB.out _⟩
  · by_cases h0 : m = 0
    · subst h0
      go_enter Tryd.func19, Tryd.ntmps19
      go_wp2_with (go_at_call 25; refine (HI.out _).mono ?_; rintro e w' ⟨rfl, rfl⟩)
      go_ret
      exact ⟨strB (by rfl), HB.out⟩
    · have h1 : ((m : Int) == 0) = false := beq_eq_false_iff_ne.2 (by omega)
      go_enter Tryd.func19, Tryd.ntmps19
      go_wp2_with fail
      go_quiet ((first | (go_at_call 24; exact Calls.quiet_of_same (twoDigits_c m (by omega) _)) | (go_at_call 25; exact Calls.quiet_of_same (HI.out _))))
      go_wp2_with fail
      go_ret
      exact ⟨strB (by rw [bappL, bappL]; unfold Ofs.clk; rw [if_neg (by decide), if_neg h0]), below_drewN HB.out _⟩
theorem clock_i (z a b : List UInt8) (br : Bool) (h m : Int) (h0 : 0 ≤ h) (hh : h < 100) (m0 : 0 ≤ m) (hm : m < 60) (hb : b.length ≤ 10) (w : World) :
    Calls Tryd.prog 19 #[shV z a b br, .int .i64 h, .int .i64 m] w fun e w' => e = .returned (.string ⟨(Ofs.clk b br h.toNat m.toNat).toArray⟩) ∧ Below w.heap.size w w' := by
  obtain ⟨k, rfl⟩ := Int.eq_ofNat_of_zero_le h0
  obtain ⟨j, rfl⟩ := Int.eq_ofNat_of_zero_le m0
  exact clock_c z a b br k j (by omega) (by omega) hb w
theorem clk_len (b : List UInt8) (br : Bool) (h m : Nat) : (Ofs.clk b br h m).length ≤ 4 + b.length := by
  have l1 := dd_len h
  have l2 := dd_len m
  have l3 := dg_len h
  unfold Ofs.clk
  split
  · simp; omega
  · split
    · omega
    · simp; omega
theorem clock_e (z a b : List UInt8) (br : Bool) (h m : Int) (h0 : 0 ≤ h) (hh : h < 100) (m0 : 0 ≤ m) (hm : m < 60) (hb : b.length ≤ 10) (w : World) :
    Calls Tryd.prog 19 #[shV z a b br, .int .i64 h, .int .i64 m] w fun e w' => ∃ cs : List UInt8, Hid (cs = Ofs.clk b br h.toNat m.toNat) ∧ cs.length ≤ 14 ∧ e = .returned (.string ⟨cs.toArray⟩) ∧ Below w.heap.size w w' :=
  (clock_i z a b br h m h0 hh m0 hm hb w).mono fun e w' ⟨h1, h2⟩ => ⟨_, rfl, by have := clk_len b br h.toNat m.toNat; omega, h1, h2⟩
theorem wrapO {n : Int} (h0 : 0 ≤ n) (h1 : n < 9223372036854775808) : IntKind.i64.wrap n = n := by
  have h64 : IntKind.i64.bits = 64 := rfl
  have hsg : IntKind.i64.signed = true := rfl
  unfold IntKind.wrap
  rw [h64, hsg]
  simp only [Bool.true_and]
  rw [Int.emod_eq_of_lt h0 (by omega)]
  simp
  omega
theorem sh_pos (z a b : List UInt8) (br : Bool) {N : Nat} (h : 0 < N) : Ofs.shF z a b br (N : Int) = a ++ [43] ++ Ofs.clk b br (N / 3600) (N % 3600 / 60) := by
  unfold Ofs.shF
  rw [if_neg (by omega), if_neg (by omega), Int.natAbs_natCast]
theorem sh_neg (z a b : List UInt8) (br : Bool) {N : Nat} (h : 0 < N) : Ofs.shF z a b br (-(N : Int)) = a ++ [45] ++ Ofs.clk b br (N / 3600) (N % 3600 / 60) := by
  unfold Ofs.shF
  rw [if_neg (by omega), if_pos (by omega), Int.natAbs_neg, Int.natAbs_natCast]
theorem hrs (N : Nat) (h : N ≤ 57600) : IntKind.i64.wrap ((N : Int) / 3600) = ((N / 3600 : Nat) : Int) := by rw [wrapO (by omega) (by omega)]; omega
theorem mns (N : Nat) (h : N ≤ 57600) : IntKind.i64.wrap (((N : Int).tmod 3600).tdiv 60) = ((N % 3600 / 60 : Nat) : Int) := by
  rw [Int.tmod_eq_emod_of_nonneg (by omega), Int.tdiv_eq_ediv_of_nonneg (by omega), wrapO (by omega) (by omega)]; omega
set_option maxHeartbeats 4000000 in
theorem show_c (z a b : List UInt8) (br : Bool) (n : Int) (hn : Ofs.offB n = true) (ha : a.length ≤ 10) (hb : b.length ≤ 10) (w : World) :
    Calls Tryd.prog 13 #[shV z a b br, .int .i64 n] w fun e w' => e = .returned (.string ⟨(Ofs.shF z a b br n).toArray⟩) ∧ Below w.heap.size w w' := by
  have hr : -57600 ≤ n ∧ n ≤ 57600 := by unfold Ofs.offB at hn; simp only [decide_eq_true_eq] at hn; omega
  clear hn
  obtain ⟨r1, r2⟩ := hr
  have HB := hideO ((Below.refl _ w).alloc (Nat.le_refl _) (.cells #[.string ⟨z.toArray⟩, .string ⟨a.toArray⟩, .string ⟨b.toArray⟩, .bool br] 32))
  have hc : n = 0 ∨ (∃ N : Nat, 0 < N ∧ n = (N : Int)) ∨ (∃ N : Nat, 0 < N ∧ n = -(N : Int)) := by
    rcases Int.lt_trichotomy n 0 with h | h | h
    · exact .inr (.inr ⟨n.natAbs, by omega, by omega⟩)
    · exact .inl h
    · exact .inr (.inl ⟨n.natAbs, by omega, by omega⟩)
  rcases hc with rfl | ⟨N, h0, rfl⟩ | ⟨N, h0, rfl⟩
  · go_enter Tryd.func13, Tryd.ntmps13
    go_wp2_with fail
    go_ret
    exact ⟨rfl, HB.out⟩
  · have h1 : ((N : Int) == 0) = false := beq_eq_false_iff_ne.2 (by omega)
    have h2 : ¬ (N : Int) < 0 := by omega
    have n3 : (9223372036854775807 < a.length + 1) = False := eq_false (by omega)
    have HQ := hideO (hrs N (by omega))
    have HR := hideO (mns N (by omega))
    have HS := hideO (sh_pos z a b br h0)
    obtain ⟨c0, c1, c2, c3⟩ := cells4 w (.string ⟨z.toArray⟩) (.string ⟨a.toArray⟩) (.string ⟨b.toArray⟩) (.bool br) 32
    go_enter Tryd.func13, Tryd.ntmps13
    go_wp2_with fail
    go_region_held3 (fun v => v.cell? ⟨w.heap.size, 0, none⟩ = some (.string ⟨z.toArray⟩) ∧ v.cell? ⟨w.heap.size, 1, none⟩ = some (.string ⟨a.toArray⟩) ∧ v.cell? ⟨w.heap.size, 2, none⟩ = some (.string ⟨b.toArray⟩) ∧ v.cell? ⟨w.heap.size, 3, none⟩ = some (.bool br))
      (first | (exact ⟨c0, c1, c2, c3⟩) | (exact ⟨cellO (w := (w.alloc _).drew) c0 hw2, cellO (w := (w.alloc _).drew) c1 hw2, cellO (w := (w.alloc _).drew) c2 hw2, cellO (w := (w.alloc _).drew) c3 hw2⟩))
      (first | (go_at_call 19; rw [HQ.out, HR.out]; refine (clock_e z a b br _ _ (by omega) (by omega) (by omega) (by omega) hb _).mono ?_; rintro e w2 ⟨cs, HCS, lcs, rfl, hw2⟩; have n11 : (9223372036854775807 < a.length + 1 + cs.length) = False := eq_false (by omega)))
    all_goals
      have HB2 := hideO (bthenO (a := (w.alloc (.cells #[.string ⟨z.toArray⟩, .string ⟨a.toArray⟩, .string ⟨b.toArray⟩, .bool br] 32)).drew) HB.out.drew hw2)
      have HE : Hid ((⟨a.toArray⟩ : ByteArray) ++ ⟨#[43]⟩ ++ ⟨cs.toArray⟩ = ⟨(Ofs.shF z a b br N).toArray⟩) := by
        show _ = _
        rw [HS.out, HCS.out, Int.toNat_natCast, Int.toNat_natCast]
        have e1 := bappL a [43]
        rw [show (⟨#[43]⟩ : ByteArray) = ⟨[43].toArray⟩ from rfl, e1, bappL]
      clear hw2 n11 HCS lcs
      go_wp2_with fail
      go_ret
      exact ⟨strB HE.out, HB2.out⟩
  · have h1 : ((-(N : Int)) == 0) = false := beq_eq_false_iff_ne.2 (by omega)
    have h2 : -(N : Int) < 0 := by omega
    have n3 : (9223372036854775807 < a.length + 1) = False := eq_false (by omega)
    have HQ := hideO (hrs N (by omega))
    have HR := hideO (mns N (by omega))
    have HS := hideO (sh_neg z a b br h0)
    obtain ⟨c0, c1, c2, c3⟩ := cells4 w (.string ⟨z.toArray⟩) (.string ⟨a.toArray⟩) (.string ⟨b.toArray⟩) (.bool br) 32
    go_enter Tryd.func13, Tryd.ntmps13
    go_wp2_with fail
    go_region_held3 (fun v => v.cell? ⟨w.heap.size, 0, none⟩ = some (.string ⟨z.toArray⟩) ∧ v.cell? ⟨w.heap.size, 1, none⟩ = some (.string ⟨a.toArray⟩) ∧ v.cell? ⟨w.heap.size, 2, none⟩ = some (.string ⟨b.toArray⟩) ∧ v.cell? ⟨w.heap.size, 3, none⟩ = some (.bool br))
      (first | (exact ⟨c0, c1, c2, c3⟩) | (exact ⟨cellO (w := (w.alloc _).drew) c0 hw2, cellO (w := (w.alloc _).drew) c1 hw2, cellO (w := (w.alloc _).drew) c2 hw2, cellO (w := (w.alloc _).drew) c3 hw2⟩))
      (first | (go_at_call 19; rw [HQ.out, HR.out]; refine (clock_e z a b br _ _ (by omega) (by omega) (by omega) (by omega) hb _).mono ?_; rintro e w2 ⟨cs, HCS, lcs, rfl, hw2⟩; have n11 : (9223372036854775807 < a.length + 1 + cs.length) = False := eq_false (by omega)))
    all_goals
      have HB2 := hideO (bthenO (a := (w.alloc (.cells #[.string ⟨z.toArray⟩, .string ⟨a.toArray⟩, .string ⟨b.toArray⟩, .bool br] 32)).drew) HB.out.drew hw2)
      have HE : Hid ((⟨a.toArray⟩ : ByteArray) ++ ⟨#[45]⟩ ++ ⟨cs.toArray⟩ = ⟨(Ofs.shF z a b br (-(N : Int))).toArray⟩) := by
        show _ = _
        rw [HS.out, HCS.out, Int.toNat_natCast, Int.toNat_natCast]
        have e1 := bappL a [45]
        rw [show (⟨#[45]⟩ : ByteArray) = ⟨[45].toArray⟩ from rfl, e1, bappL]
      clear hw2 n11 HCS lcs
      go_wp2_with fail
      go_ret
      exact ⟨strB HE.out, HB2.out⟩

/-- what the map holds -/
abbrev sh1 : Value := shV [43, 48, 48, 48, 48] [] [] false
abbrev sh2 : Value := shV [90] [] [58] false
abbrev sh3 : Value := shV [71, 77, 84] [71, 77, 84] [58] true
abbrev sh4 : Value := shV [71, 77, 84] [71, 77, 84] [58] false
abbrev ent (k : Int) (v : Value) (b : Nat) : MapEntry := { key := .int .i64 k, val := v, born := b }
theorem setB_heap {w : World} {B : Nat} {o x : Obj} (h : w.heap[B]? = some x) : (ChangeMaps.setBlock w B o).heap[B]? = some o := by
  have hl := (Array.getElem?_eq_some_iff.1 h).1
  simp [ChangeMaps.setBlock, hl]
theorem setB_below {w0 w : World} {B : Nat} {o : Obj} (h : Below w0.heap.size w0 w) (hB : w0.heap.size ≤ B) : Below w0.heap.size w0 (ChangeMaps.setBlock w B o) :=
  h.trans ⟨rfl, rfl, rfl, by simp [ChangeMaps.setBlock], fun k hk => by simp [ChangeMaps.setBlock, show B ≠ k by omega]⟩
set_option maxHeartbeats 4000000 in
theorem lay_c (st : Int) (z a b : List UInt8) (br : Bool) (B T cl : Nat) (es : Array MapEntry) (w : World) (hT : w.cell? ⟨T, 0, none⟩ = some (.map (some B))) (hB : w.heap[B]? = some (.map es cl)) (hf : Instr.findNow (.int .i64) (.int .i64 st) es.toList 0 = some none) :
    Calls Tryd.prog 18 #[.int .i64 st, shV z a b br, .pointer (some ⟨T, 0, none⟩)] w fun e w' => e = .returned (.tuple #[]) ∧ w' = ChangeMaps.setBlock (w.alloc (.cells #[.string ⟨z.toArray⟩, .string ⟨a.toArray⟩, .string ⟨b.toArray⟩, .bool br] 32)) B (.map (es.push (ent st (shV z a b br) cl)) (cl + 1)) := by
  have hb := (Below.refl _ w).alloc (Nat.le_refl _) (.cells #[.string ⟨z.toArray⟩, .string ⟨a.toArray⟩, .string ⟨b.toArray⟩, .bool br] 32)
  have hT2 := cellO hT hb
  have hB2 : (w.alloc (.cells #[.string ⟨z.toArray⟩, .string ⟨a.toArray⟩, .string ⟨b.toArray⟩, .bool br] 32)).heap[B]? = some (.map es cl) := (hb.block B (Array.getElem?_eq_some_iff.1 hB).1).trans hB
  have hu := upd_int (P := Tryd.prog) (v := shV z a b br) Tryd.underlying34 Tryd.underlying3 hB2 hf
  clear hb hB hf hB2 hT
  go_enter Tryd.func18, Tryd.ntmps18
  go_wp2_with fail
  go_end0
  exact ⟨rfl, rfl⟩
/-- the map of all shapes -/
def shEs : Array MapEntry := #[ent 1 sh1 0, ent 2 sh2 1, ent 3 sh3 2, ent 4 sh4 3]
theorem lay_step (st : Int) (z a b : List UInt8) (br : Bool) (T cl : Nat) (es : Array MapEntry) (w0 w : World) (hT : w.cell? ⟨w0.heap.size + 1, 0, none⟩ = some (.map (some w0.heap.size))) (hB : w.heap[w0.heap.size]? = some (.map es cl)) (hf : Instr.findNow (.int .i64) (.int .i64 st) es.toList 0 = some none) (hW : Below w0.heap.size w0 w) :
    Calls Tryd.prog 18 #[.int .i64 st, shV z a b br, .pointer (some ⟨w0.heap.size + 1, 0, none⟩)] w fun e w' => e = .returned (.tuple #[]) ∧ w'.cell? ⟨w0.heap.size + 1, 0, none⟩ = some (.map (some w0.heap.size)) ∧ w'.heap[w0.heap.size]? = some (.map (es.push (ent st (shV z a b br) cl)) (cl + 1)) ∧ Below w0.heap.size w0 w' := by
  refine (lay_c st z a b br w0.heap.size (w0.heap.size + 1) cl es w hT hB hf).mono ?_
  rintro e w' ⟨rfl, rfl⟩
  have hb := (Below.refl _ w).alloc (Nat.le_refl _) (.cells #[.string ⟨z.toArray⟩, .string ⟨a.toArray⟩, .string ⟨b.toArray⟩, .bool br] 32)
  have hB2 := (hb.block w0.heap.size (Array.getElem?_eq_some_iff.1 hB).1).trans hB
  refine ⟨rfl, ?_, setB_heap hB2, setB_below (hW.trans (hb.mono hW.size)) (Nat.le_refl _)⟩
  rw [World.cell?_of_block (w := w.alloc (.cells #[.string ⟨z.toArray⟩, .string ⟨a.toArray⟩, .string ⟨b.toArray⟩, .bool br] 32)) (by simp [ChangeMaps.setBlock])]
  exact cellO hT hb
set_option maxHeartbeats 4000000 in
theorem shapes_c (w : World) : Calls Tryd.prog 11 #[] w fun e w' => e = .returned (.map (some w.heap.size)) ∧ w'.heap[w.heap.size]? = some (.map shEs 4) ∧ Below w.heap.size w w' := by
  have hmm := @run_makeMap Tryd.prog
  have hmf : ∀ (fn : Fn) (first cap : Array Value) (w : World), (Instr.makeFunc fn first cap).run Tryd.prog w = .ok (.func fn first cap) w := fun _ _ _ _ => rfl
  have hb0 : Hid (Below w.heap.size w ((w.alloc (.map #[] 0)).alloc (.cells #[.map (some w.heap.size)] 34))) := ((Below.refl _ w).alloc (Nat.le_refl _) _).alloc (by simp) _
  have hb1 : Hid (((w.alloc (.map #[] 0)).alloc (.cells #[.map (some w.heap.size)] 34)).heap[w.heap.size]? = some (.map #[] 0)) := by
    show _ = _
    rw [((Below.refl _ (w.alloc (.map #[] 0))).alloc (Nat.le_refl _) (.cells #[.map (some w.heap.size)] 34)).block w.heap.size (by simp)]
    exact heap_alloc_new w _
  have hb2 : Hid (((w.alloc (.map #[] 0)).alloc (.cells #[.map (some w.heap.size)] 34)).cell? ⟨w.heap.size + 1, 0, none⟩ = some (.map (some w.heap.size))) := by
    show _ = _
    simp
  go_enter Tryd.func11, Tryd.ntmps11
  go_wp2_with fail
  refine (lay_step 1 [43, 48, 48, 48, 48] [] [] false 0 0 #[] w _ hb2.out hb1.out (by rfl) hb0.out).mono ?_
  rintro e w1 ⟨rfl, t1, b1, h1⟩
  have T1 := hideO t1
  have B1 := hideO b1
  have H1 := hideO h1
  clear t1 b1 h1
  go_wp2_with fail
  refine (lay_step 2 [90] [] [58] false 0 1 _ w _ T1.out B1.out (by rfl) H1.out).mono ?_
  rintro e w2 ⟨rfl, t2, b2, h2⟩
  have T2 := hideO t2
  have B2 := hideO b2
  have H2 := hideO h2
  clear t2 b2 h2
  go_wp2_with fail
  refine (lay_step 3 [71, 77, 84] [71, 77, 84] [58] true 0 2 _ w _ T2.out B2.out (by rfl) H2.out).mono ?_
  rintro e w3 ⟨rfl, t3, b3, h3⟩
  have T3 := hideO t3
  have B3 := hideO b3
  have H3 := hideO h3
  clear t3 b3 h3
  go_wp2_with fail
  refine (lay_step 4 [71, 77, 84] [71, 77, 84] [58] false 0 3 _ w _ T3.out B3.out (by rfl) H3.out).mono ?_
  rintro e w4 ⟨rfl, t4, b4, h4⟩
  have T4 := hideO t4
  have B4 := hideO b4
  have H4 := hideO h4
  clear t4 b4 h4
  have t5 := T4.out
  go_wp2_with fail
  go_ret
  exact ⟨rfl, B4.out, H4.out⟩
end Go.Proofs.YtcdokhjmpkcpnafDoor
