/- Contracts of package table: within, begins; ints in a row of the call's own, sorted. -/
import Derived.Test.YtdffopkljomipaaGreatDoorTableF
import Derived.Test.YtdffopkljomipaaGreatDoorShelf
import Derived.Test.YtdffopkljomipaaGreatDoorRefApAll
import Derived.Test.YtdffopkljomipaaGreatDoorAppRow
namespace Go.Proofs.YtdffopkljomipaaGreatDoor
open Go Go.RowKit Go.Maps Go.Sort
set_option linter.unusedVariables false

abbrev encI (a : Int) : Value := .int .i64 a
theorem put_takeI (d : Array Int) (c : Array Value) (n : Nat) (hn : n = d.size) (h : d.size ≤ c.size) : (putCells encI 0 d c).toList.take n = d.toList.map encI := by
  subst hn
  apply List.ext_getElem?
  intro i
  unfold putCells
  by_cases hi : i < d.size
  · rw [List.getElem?_take_of_lt hi]
    simp [hi, show i < c.size by omega]
  · rw [List.getElem?_take_eq_none (by omega), List.getElem?_map]
    simp [show d.size ≤ i by omega]
theorem SortI_c (v : Value) (ss : List Int) (base : Nat) (w : World) (h : w.ownsRow base 3 1 v ss.length (ss.map encI)) (hs : ss.length ≤ 1000) :
    Calls Tryz.prog 33 #[v] w fun e w' => e = .returned (.tuple #[]) ∧ w'.ownsRow base 3 1 v ss.length ((srtI ss).map encI) ∧ w.grownBy w' v.ownBlock := by
  have hl : (srtI ss).length = ss.length := List.length_mergeSort _
  rcases h.2 with ⟨rfl, h0⟩ | ⟨g, cap, cur, rfl, hb, hg, hn, hm, hsz, ht⟩
  · obtain rfl : ss = [] := List.length_eq_zero_iff.1 h0
    refine (Tryz.slices_Sort_int_none none 0 w).mono ?_
    rintro e w' ⟨rfl, rfl⟩
    exact ⟨rfl, by simpa [srtI] using h, rfl, rfl, rfl, Nat.le_refl _, fun _ _ _ => rfl⟩
  · have hlt : g < w.heap.size := (Array.getElem?_eq_some_iff.1 hg).1
    have hH : Holds encI w g 0 ss.toArray := fun j hj => by
      have hj2 : j < ss.length := by simpa using hj
      refine ⟨?_, h.frozenAt _⟩
      rw [Nat.zero_add, h.cellAt j (by omega), List.getElem?_map, List.getElem?_eq_getElem hj2]
      simp [hj2]
    refine (Tryz.slices_Sort_int g 0 cap ss w hH hlt (by omega)).mono ?_
    rintro e w' ⟨rfl, k, os, rfl⟩
    have hd : (srtI ss).toArray.size = ss.length := by simp [hl]
    have hsz' : ss.length ≤ cur.size := by omega
    have hput : (grow (putRow encI (Sort.ahead w k) g 0 (srtI ss).toArray) os).heap[g]? = some (.cells (putCells encI 0 (srtI ss).toArray cur) 3 (0, 0)) := by
      show ((w.heap.modify g (onCells (putCells encI 0 (srtI ss).toArray))) ++ os)[g]? = _
      rw [Array.getElem?_append_left (by simpa using hlt), Array.getElem?_modify, if_pos rfl, hg]
      rfl
    refine ⟨rfl, ⟨by simp [hl], .inr ⟨g, cap, putCells encI 0 (srtI ss).toArray cur, rfl, hb, hput, hn, hm, by unfold putCells; rw [Array.size_mapIdx]; exact hsz, ?_⟩⟩, rfl, rfl, rfl, ?_, fun j hj hne => ?_⟩
    · rw [Nat.mul_one, put_takeI _ _ _ (by rw [hd]) (by rw [hd]; exact hsz')]
    · show w.heap.size ≤ ((w.heap.modify g _) ++ os).size
      simp
    · show ((w.heap.modify g (onCells (putCells encI 0 (srtI ss).toArray))) ++ os)[j]? = _
      have : g ≠ j := fun e => hne (by rw [e]; rfl)
      rw [Array.getElem?_append_left (by simpa using hj), Array.getElem?_modify, if_neg this]
theorem info_int : (Tryz.prog.info? 3).map (fun i => (i.zero, i.size, i.bytes)) = some (some (.int .i64 0), 1, 8) := by kernel_rfl
theorem heap_grown {w w' : World} {row : Option Nat} {b : Nat} {o : Obj} (h : w.heap[b]? = some o) (hg : w.grownBy w' row) (hne : some b ≠ row) : w'.heap[b]? = some o := (hg.block b (Array.getElem?_eq_some_iff.1 h).1 hne).trans h
theorem rbox_of {w : World} {b : Nat} {r : Rl} {t : TypeId} (h : w.heap[b]? = some (.cells r.cs t)) : RBox w b r := by
  unfold RBox
  refine ⟨?_, ?_, ?_, ?_, ?_, ?_, ?_, ?_, ?_⟩ <;> simp [World.cell?, h]
theorem ebox_of {w : World} {b : Nat} {x : Er} {t : TypeId} (h : w.heap[b]? = some (.cells x.cs t)) : w.cell? ⟨b, 0, none⟩ = some (.int .i64 x.std) ∧ w.cell? ⟨b, 1, none⟩ = some (.int .i64 x.set) ∧ w.cell? ⟨b, 2, none⟩ = some (.int .i64 x.sv) ∧ w.cell? ⟨b, 3, none⟩ = some (.string x.fm) ∧ w.cell? ⟨b, 4, none⟩ = some (.int .i64 x.un) := by
  refine ⟨?_, ?_, ?_, ?_, ?_⟩ <;> simp [World.cell?, h]
theorem wiN_succ (r : Rl) (fr un std : Int) (n : Nat) : wiN r fr un std (n + 1) = wiN r fr un std n ++ (if fr < begR r (r.f + (n : Int)) std ∧ begR r (r.f + (n : Int)) std < un then [begR r (r.f + (n : Int)) std] else []) := by
  unfold wiN
  rw [List.range_succ, List.map_append, List.filter_append]
  congr 1
  by_cases h : fr < begR r (r.f + (n : Int)) std ∧ begR r (r.f + (n : Int)) std < un
  · simp [h]
  · rw [if_neg h]
    rw [List.map_singleton]
    have : (decide (fr < begR r (r.f + (n : Int)) std) && decide (begR r (r.f + (n : Int)) std < un)) = false := by
      rw [Bool.and_eq_false_iff]
      simp only [decide_eq_false_iff_not]
      omega
    simp [this]
theorem wiN_len (r : Rl) (fr un std : Int) (n : Nat) : (wiN r fr un std n).length ≤ n := by
  unfold wiN
  refine Nat.le_trans (List.length_filter_le _ _) ?_
  simp
/-- a row of ints that a call has made -/
def riP (l : List Int) (w : World) (e : Ending) (w' : World) : Prop := ∃ v, e = .returned v ∧ w'.ownsRow w.heap.size 3 1 v l.length (l.map encI) ∧ Below w.heap.size w w'
theorem owns_mono {w : World} {base base' : Nat} {e : TypeId} {size : Nat} {v : Value} {n : Nat} {xs : List Value} (h : w.ownsRow base e size v n xs) (hb : base' ≤ base) : w.ownsRow base' e size v n xs :=
  ⟨h.1, h.2.imp id fun ⟨g, cap, cur, h1, h2, h3⟩ => ⟨g, cap, cur, h1, Nat.le_trans hb h2, h3⟩⟩
theorem own_onT {w w' : World} {base n size : Nat} {e : TypeId} {v : Value} {xs : List Value} (h : w.ownsRow base e size v n xs) (hb : Below w.heap.size w w') : w'.ownsRow base e size v n xs :=
  ⟨h.1, h.2.imp id fun ⟨g, cap, cur, h1, h2, h3, h4⟩ => ⟨g, cap, cur, h1, h2, (hb.block g (Array.getElem?_eq_some_iff.1 h3).1).trans h3, h4⟩⟩
theorem far_box {w : World} {base n size b : Nat} {e : TypeId} {v : Value} {xs : List Value} (h : w.ownsRow base e size v n xs) (hb : b < base) : some b ≠ v.ownBlock := fun e => by have := (own_lt h e.symm).1; omega
theorem atR_ok {r : Rl} (h : rchk r = 0) {y std : Int} (h1 : r.f ≤ y) (h2 : y ≤ r.t) (h3 : -50400 ≤ std) (h4 : std ≤ 50400) : atR r y std = begR r y std ∧ atE r y std = 0 := by
  have ho : atOK r y std = true := by unfold atOK inB; simp; omega
  unfold atR atE
  rw [if_pos ⟨h, ho⟩, if_pos h, if_pos ho]
  exact ⟨rfl, rfl⟩
set_option maxRecDepth 100000 in
set_option maxHeartbeats 8000000 in
theorem Twithin_c (r : Rl) (fr : Int) (x : Er) (w : World) (hL : Laid w) (hr : rchk r = 0) (h1 : -50400 ≤ x.std) (h2 : x.std ≤ 50400) (hs : r.s.size ≤ maxLen) :
    Calls Tryz.prog 32 #[r.v, .int .i64 fr, x.v] w fun e w' => riP (wiL r fr x.un x.std) w e w' := by
  have hbd := bnd_of (rchk_bnd hr)
  obtain ⟨i0, hi, hz0, hz1, hz2⟩ := info_parts info_int
  obtain ⟨N, hN⟩ : ∃ N, N = (r.t - r.f + 1).toNat := ⟨_, rfl⟩
  have hN60 : N ≤ 60 := by omega
  have hNt : r.t = r.f + (N : Int) - 1 := by omega
  have HNt := hideH hNt
  have hf1 : 1970 ≤ r.f := hbd.1
  have hf2 : r.f ≤ 2029 := by omega
  have ht2 : r.t ≤ 2029 := by omega
  have bx := two_boxes w (.cells r.cs 57) (.cells x.cs 50)
  obtain ⟨W0, hW0⟩ : ∃ W0, W0 = (w.alloc (.cells r.cs 57)).alloc (.cells x.cs 50) := ⟨_, rfl⟩
  rw [← hW0] at bx
  have HB0 := hideH bx.1
  have HR0 := hideH bx.2.1
  have HE0 := hideH bx.2.2
  have hsz0 : W0.heap.size = w.heap.size + 2 := by rw [hW0]; simp
  have HS0 := hideH hsz0
  have HL := hideH hL
  have HA : Hid (∀ (i : Nat) v, i < N → Below w.heap.size w v → Calls Tryz.prog 67 #[r.v, .int .i64 (r.f + (i : Int)), .int .i64 x.std] v fun e w' => e = .returned (.tuple #[.int .i64 (begR r (r.f + (i : Int)) x.std), .int .i64 0]) ∧ Below v.heap.size v w') := fun i v hiN hv => by
    have := At_c r (r.f + (i : Int)) x.std v (HL.out.on hv) hs
    rw [(atR_ok hr (by omega) (by omega) h1 h2).1, (atR_ok hr (by omega) (by omega) h1 h2).2] at this
    exact this
  have HV : Hid (wiL r fr x.un x.std = wiN r fr x.un x.std N) := by show _ = _; rw [hN]; rfl
  rw [HV.out]
  clear hL hbd bx hN hNt hsz0 HV hs hr
  go_enter Tryz.func32, Tryz.ntmps32
  simp only [Rl.cs, Er.cs] at hW0
  simp only [Rl.v, Er.v] at *
  go_wp2_with fail
  simp only [← hW0]
  clear hW0
  go_loopw [7, 8] (fun x7 x8 v => ∃ i : Nat, i ≤ N ∧ x8 = .int .i64 (r.f + (i : Int)) ∧ Hid (v.ownsRow (w.heap.size + 2) 3 1 x7 (wiN r fr x.un x.std i).length ((wiN r fr x.un x.std i).map encI)) ∧ Hid (Below w.heap.size w v) ∧ Hid (v.heap[w.heap.size]? = some (.cells r.cs 57)) ∧ Hid (v.heap[w.heap.size + 1]? = some (.cells x.cs 50))) (fun _ x8 _ => (r.f + (N : Int) - intOf x8).toNat)
  case atStart => exact ⟨0, Nat.zero_le _, by simp, World.ownsRow_nil _ _ _ _, HB0, HR0, HE0⟩
  case round =>
    obtain ⟨i, hiN, rfl, QO, QW, QR, QE⟩ := hrel
    obtain ⟨a0, a1, a2, a3, a4, a5, a6, a7, a8⟩ := rbox_of QR.out
    obtain ⟨e0, e1, e2, e3, e4⟩ := ebox_of QE.out
    by_cases hlt : i < N
    · have hle : r.f + (i : Int) ≤ r.t := by have := HNt.out; omega
      have HA1 := hideH (fun v hv => HA.out i v hlt hv)
      have hwl := wiN_len r fr x.un x.std i
      have HWs := hideH (wiN_succ r fr x.un x.std i)
      obtain ⟨B, hB⟩ : ∃ B, B = begR r (r.f + (i : Int)) x.std := ⟨_, rfl⟩
      rw [← hB] at HA1 HWs
      clear hB
      go_wp2_with fail
      refine (HA1.out _ QW.out).mono ?_
      rintro e w1 ⟨rfl, hw⟩
      have H1 := hideH (bthen QW.out hw)
      have O1 := hideH (own_onT QO.out hw)
      have R1 := hideH (heap_on QR.out hw)
      have E1 := hideH (heap_on QE.out hw)
      clear hw a0 a1 a2 a3 a4 a5 a6 a7 a8 e0 e1 e2 e3 e4 HA1
      obtain ⟨e0, e1, e2, e3, e4⟩ := ebox_of E1.out
      by_cases q : fr < B ∧ B < x.un
      · have HE2 : Hid (wiN r fr x.un x.std (i + 1) = wiN r fr x.un x.std i ++ [B]) := by show _ = _; rw [HWs.out, if_pos q]
        have q1 := q.1
        have q2 := q.2
        have bs := (Below.refl _ w1).alloc (Nat.le_refl _) (.cells #[.int .i64 B] 3)
        have O2 := hideH (own_onT O1.out bs)
        have B2 := hideH (bthen H1.out bs)
        have R2 := hideH (heap_on R1.out bs)
        have E2 := hideH (heap_on E1.out bs)
        have hsz : w.heap.size + 2 ≤ w1.heap.size := (Array.getElem?_eq_some_iff.1 E1.out).1
        clear bs q HWs
        go_wp2_with (at_builtin; refine wpList_append_lies _ rfl _ _ 62 rfl (w.heap.size + 2) 3 i0 (.int .i64 0) 1 8 Tryz.underlying62 hi hz0 hz1 hz2 rfl (by decide) _ _ _ rfl O2.out ⟨w1.heap.size, 0, none⟩ 1 1 [.int .i64 B] rfl rfl (cell_one_new _ _ _) (by simp [Value.oneCell']) (by decide) (by unfold maxLen; omega) (by omega) (by simp; omega) _ rfl ?_; intro g5 q5 w5 hown5 hgrow5 hat5 hl5)
        have O5 : Hid (w5.ownsRow (w.heap.size + 2) 3 1 (.slice (some ⟨g5, 0, none⟩) ((wiN r fr x.un x.std i).length + 1) q5) (wiN r fr x.un x.std (i + 1)).length ((wiN r fr x.un x.std (i + 1)).map encI)) := by
          show World.ownsRow _ _ _ _ _ _ _
          rw [HE2.out, List.map_append, List.length_append]
          exact hown5
        have B5 : Hid (Below w.heap.size w w5) := B2.out.grown hgrow5 (by have := B2.out.size; omega) (fun q hq => by have := (own_lt O2.out hq).1; omega)
        have R5 := hideH (heap_grown R2.out hgrow5 (far_box O2.out (by omega)))
        have E5 := hideH (heap_grown E2.out hgrow5 (far_box O2.out (by omega)))
        clear hown5 hgrow5 hat5 hl5 O2 B2 R2 E2
        go_roundw
        case rel => exact ⟨i + 1, by omega, by go_num, O5, B5, R5, E5⟩
        case measure => simp [intOf]; omega
      · have HE2 : Hid (w1.ownsRow (w.heap.size + 2) 3 1 u7 (wiN r fr x.un x.std (i + 1)).length ((wiN r fr x.un x.std (i + 1)).map encI)) := by
          show World.ownsRow _ _ _ _ _ _ _
          rw [HWs.out, if_neg q, List.append_nil]
          exact O1.out
        have qq : (¬ (fr < B)) ∨ ((fr < B) ∧ ¬ (B < x.un)) := by omega
        clear q HWs
        rcases qq with q1 | ⟨q1, q2⟩
        all_goals
          go_wp2_with fail
          go_roundw
          case rel => exact ⟨i + 1, by omega, by go_num, HE2, H1, R1, E1⟩
          case measure => simp [intOf]; omega
    · obtain rfl : i = N := by omega
      have hle : ¬ (r.f + (i : Int) ≤ r.t) := by have := HNt.out; omega
      go_wp2_with fail
      go_ret
      unfold riP
      exact ⟨_, rfl, owns_mono QO.out (by omega), QW.out⟩
end Go.Proofs.YtdffopkljomipaaGreatDoor
