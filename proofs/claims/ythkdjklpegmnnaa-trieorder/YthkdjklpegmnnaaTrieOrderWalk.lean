/- The walk of the statement TrieOrder. -/
import Derived.Test.YthkdjklpegmnnaaTrieQ
import Derived.SizedLaws
import Derived.Deep.AppendLies
namespace Go.Proofs.Ythkdjklpegmnnaa.Tri
open Go Go.RowKit Go.Maps
set_option linter.unusedVariables false

/-- two words in each other's place -/
def swp (ss : Nat → ByteArray) (a b : Nat) (j : Nat) : ByteArray := if j = b then ss a else if j = a then ss b else ss j
theorem swp_mem {ss : Nat → ByteArray} {n a b : Nat} (ha : a < n) (hb : b < n) (p : List UInt8) : (∃ j, j < n ∧ (ss j).data.toList = p) ↔ (∃ j, j < n ∧ (swp ss a b j).data.toList = p) := by
  constructor
  · rintro ⟨j, hj, e⟩
    by_cases h1 : j = a
    · exact ⟨b, hb, by unfold swp; rw [if_pos rfl, ← h1]; exact e⟩
    · by_cases h2 : j = b
      · refine ⟨a, ha, ?_⟩
        unfold swp
        by_cases h3 : a = b
        · rw [if_pos h3, h3, ← h2]; exact e
        · rw [if_neg h3, if_pos rfl, ← h2]; exact e
      · exact ⟨j, hj, by unfold swp; rw [if_neg h2, if_neg h1]; exact e⟩
  · rintro ⟨j, hj, e⟩
    unfold swp at e
    split at e
    · exact ⟨a, ha, e⟩
    · split at e
      · exact ⟨b, hb, e⟩
      · exact ⟨j, hj, e⟩
theorem wo_iff {n : Nat} (ss : Nat → ByteArray) (p : List UInt8) : (∃ j, j < n ∧ wo (wl n ss) j = p) ↔ (∃ j, j < n ∧ (ss j).data.toList = p) :=
  ⟨fun ⟨j, h, e⟩ => ⟨j, h, by rw [← wo_wl h]; exact e⟩, fun ⟨j, h, e⟩ => ⟨j, h, by rw [wo_wl h]; exact e⟩⟩
theorem swp_fw {ss : Nat → ByteArray} {n a b : Nat} (ha : a < n) (hb : b < n) (p : List UInt8) : 0 ≤ fwW n ss p ↔ 0 ≤ fwW n (swp ss a b) p := by
  rw [fw_iff, fw_iff, wo_iff, wo_iff, swp_mem ha hb]
theorem swp_ok {ss : Nat → ByteArray} {n a b : Nat} (ha : a < n) (hb : b < n) (h0 : bldE n ss = 0) : bldE n (swp ss a b) = 0 := by
  obtain ⟨h1, h2⟩ := bldE_zero h0
  refine bldE_ok h1 fun j hj => ?_
  unfold swp
  split
  · exact h2 a ha
  · split
    · exact h2 b hb
    · exact h2 j hj
theorem swp_long {ss : Nat → ByteArray} {n a b : Nat} (ha : a < n) (hb : b < n) (h0 : bldE n ss = 0) (s : ByteArray) : (longR (trI n ss) s).2 = (longR (trI n (swp ss a b)) s).2 := by
  have f := long_facts h0 s
  have g := long_facts (swp_ok ha hb h0) s
  have f1 := f.at_
  have g1 := g.at_
  have key : ∀ m, fwW n ss (s.data.toList.take m) = -1 ↔ fwW n (swp ss a b) (s.data.toList.take m) = -1 := fun m => by
    have h1 := swp_fw (ss := ss) ha hb (s.data.toList.take m)
    have h2 : -1 ≤ fwW n ss (s.data.toList.take m) := fw_ge _ _ _
    have h3 : -1 ≤ fwW n (swp ss a b) (s.data.toList.take m) := fw_ge _ _ _
    constructor
    · intro h
      have : ¬ 0 ≤ fwW n ss (s.data.toList.take m) := by omega
      have := mt h1.2 this
      omega
    · intro h
      have : ¬ 0 ≤ fwW n (swp ss a b) (s.data.toList.take m) := by omega
      have := mt h1.1 this
      omega
  rcases Nat.lt_trichotomy (longR (trI n ss) s).2 (longR (trI n (swp ss a b)) s).2 with h | h | h
  · have h2 := (key _).1 (f.more _ h g.le)
    rw [← g1] at h2
    have := g.iff.1 h2
    omega
  · exact h
  · have h2 := (key _).2 (g.more _ h f.le)
    rw [← f1] at h2
    have := f.iff.1 h2
    omega
theorem swp_len {ss : Nat → ByteArray} {n a b : Nat} (ha : a < n) (hb : b < n) : (trI n ss).length = (trI n (swp ss a b)).length :=
  len_same fun p => by rw [wo_iff, wo_iff, swp_mem ha hb]
theorem info_str : (Try.prog.info? 9).map (fun i => (i.zero, i.size, i.bytes)) = some (some (.string ⟨#[]⟩), 1, 16) := by kernel_rfl
def srow (ss : Nat → ByteArray) (n : Nat) : List Value := (List.range n).map fun j => .string (ss j)
theorem srow_swap (ss : Nat → ByteArray) {n a b : Nat} (ha : a < n) (hb : b < n) : ((srow ss n).set a (.string (ss b))).set b (.string (ss a)) = srow (swp ss a b) n := by
  apply List.ext_getElem?
  intro j
  rw [List.getElem?_set, List.getElem?_set]
  unfold srow swp
  simp only [List.length_set, List.length_map, List.length_range, List.getElem?_map]
  by_cases hj : j < n
  · rw [List.getElem?_range hj]
    simp only [Option.map_some]
    by_cases h1 : b = j
    · subst h1
      simp [hj]
    · by_cases h2 : a = j
      · subst h2
        simp [h1, hj, Ne.symm h1]
      · simp [h1, h2, Ne.symm h1, Ne.symm h2]
  · rw [if_neg (by omega), if_neg (by omega), List.getElem?_eq_none (by simpa using hj)]
    rfl
theorem own_txa {w : World} {base g cap n : Nat} {ss : Nat → ByteArray} (h : w.ownsRow base 9 1 (.slice (some ⟨g, 0, none⟩) n cap) n (srow ss n)) : TxA w (some ⟨g, 0, none⟩) n ss :=
  .inr ⟨g, 0, rfl, fun j hj => by rw [Nat.zero_add, h.cellAt j (by omega)]; simp [srow, hj]⟩
theorem choose_natA (c : Int) (n : Nat) (hn : 0 < n) (hc : -9223372036854775808 ≤ c) (hc2 : c ≤ 9223372036854775807) :
    ∃ k : Nat, k < n ∧ ∀ w, Calls Try.prog 19 #[.int .i64 c, .int .i64 n] w fun e w' => e = .returned (.int .i64 k) ∧ w' = w := by
  have := cho_bd c n (by omega)
  refine ⟨(cho c n).toNat, by omega, fun w => ?_⟩
  rw [show (((cho c n).toNat : Nat) : Int) = cho c n by omega]
  exact choose_any c n w (by omega) hc hc2
set_option maxRecDepth 100000 in
set_option maxHeartbeats 8000000 in
theorem TrieOrder_w (a : Option Addr) (n c : Nat) (ss : Nat → ByteArray) (s : ByteArray) (i j : Int) (w : World) (hn : n ≤ maxLen) (hP : TxA w a n ss) (hf : ∀ j, j < n → (ss j).size ≤ maxLen) (hsz : s.size ≤ reachBytes) (hi : -9223372036854775808 ≤ i ∧ i ≤ 9223372036854775807) (hj : -9223372036854775808 ≤ j ∧ j ≤ 9223372036854775807) :
    Calls Try.prog 6 #[.slice a n c, .string s, .int .i64 i, .int .i64 j] w fun e w' => e = .returned (.bool true) ∧ Below w.heap.size w w' := by
  have HBg := hideH (fun v => trieBegun_c v)
  have HP := hideH hP
  have hsm : s.size ≤ maxLen := by have := reachBytes_lt; unfold maxLen; omega
  clear hsz
  by_cases h0 : bldE n ss = 0
  · have HB := hideH (Build_ok a n c ss w hn hP hf h0)
    rcases Nat.eq_zero_or_pos n with hn0 | hn0
    · subst hn0
      clear h0 hP hf hn
      go_enter Try.func6, Try.ntmps6
      go_wp2_with fail
      refine HB.out.mono ?_
      rintro e w1 ⟨ta, tc, rfl, htr, hw1⟩
      have H1 := hideH hw1
      clear htr hw1
      go_wp2_with fail
      refine (HBg.out _).mono ?_
      rintro e w2 ⟨rfl, hw2⟩
      go_wp2_with fail
      go_ret
      exact ⟨rfl, bthen H1.out hw2⟩
    · obtain ⟨i0, hi0, hz0, hz1, hz2⟩ := info_parts info_str
      obtain ⟨x, hx, hcx⟩ := choose_natA i n hn0 hi.1 hi.2
      obtain ⟨y, hy, hcy⟩ := choose_natA j n hn0 hj.1 hj.2
      have HCX := hideH hcx
      have HCY := hideH hcy
      have h1 := swp_ok hx hy h0
      have hn40 := (bldE_zero h0).1
      have HB2 := hideH (fun aa cc v (h : TxA v aa n (swp ss x y)) => Build_ok aa n cc (swp ss x y) v hn h (fun q hq => by have := (okW_sz ((bldE_zero h1).2 q hq)).2; unfold maxLen; omega) h1)
      have HFi := hideH (fun ta tc v (h : TrL v ta (trI n ss)) => Find_c ta tc (trI n ss) s v hsm (bld_fitT h0) h)
      have HFj := hideH (fun ta tc v (h : TrL v ta (trI n (swp ss x y))) => Find_c ta tc (trI n (swp ss x y)) s v hsm (bld_fitT h1) h)
      have HLi := hideH (fun ta tc v (h : TrL v ta (trI n ss)) => Longest_c ta tc (trI n ss) s v hsm (bld_fitT h0) h)
      have HLj := hideH (fun ta tc v (h : TrL v ta (trI n (swp ss x y))) => Longest_c ta tc (trI n (swp ss x y)) s v hsm (bld_fitT h1) h)
      rw [tchk_yes (bld_okT h0), fnd_fw h0] at HFi
      rw [tchk_yes (bld_okT h1), fnd_fw h1] at HFj
      rw [tchk_yes (bld_okT h0), swp_long hx hy h0] at HLi
      rw [tchk_yes (bld_okT h1)] at HLj
      rw [← swp_len hx hy] at HB2 HFj HLj
      have HSg := hideH (swp_fw (ss := ss) hx hy s.data.toList)
      have HSw := hideH (srow_swap ss hx hy)
      generalize fwW n ss s.data.toList = k1 at *
      generalize fwW n (swp ss x y) s.data.toList = k2 at *
      generalize (longR (trI n ss) s).1 = u1 at *
      generalize (longR (trI n (swp ss x y)) s).1 = u2 at *
      generalize (longR (trI n (swp ss x y)) s).2 = u3 at *
      obtain ⟨tl, htl⟩ : ∃ tl, tl = (trI n ss).length := ⟨_, rfl⟩
      rw [← htl] at HB HB2 HFi HFj HLi HLj
      clear htl hcx hcy h1 h0 hP hf hn hi hj
      generalize trI n ss = t1 at *
      generalize trI n (swp ss x y) = t2 at *
      have hn0b : ((n : Int) == 0) = false := by simp; omega
      have hxi : (x : Int) < (n : Int) := by omega
      have hyi : (y : Int) < (n : Int) := by omega
      go_enter Try.func6, Try.ntmps6
      go_wp2_with fail
      refine HB.out.mono ?_
      rintro e w1 ⟨ta, tc, rfl, htr, hw1⟩
      have R1 := hideH htr
      have H1 := hideH hw1
      have P1 := hideH (HP.out.on hw1)
      clear htr hw1 HB
      rcases P1.out with hz | ⟨bb, off, rfl, hcs⟩
      · omega
      have HCs := hideH hcs
      have hbb : bb < w1.heap.size := cell_lt (hcs 0 (by omega))
      clear hcs
      have HBa := hideH ((Below.refl w1.heap.size w1).alloc (Nat.le_refl _) (.cells #[] 9))
      have O1 : Hid ((w1.alloc (.cells #[] 9)).ownsRow w1.heap.size 9 1 (.slice (some ⟨w1.heap.size, 0, none⟩) 0 0) 0 []) := World.ownsRow_lit (base := w1.heap.size) (size := 1) w1 #[] 0 (Nat.le_refl _) (by unfold maxLen; omega) rfl
      have HNw : Hid (∀ q u, (srow ss n)[q]? = some u → (w1.alloc (.cells #[] 9)).cell? ((⟨bb, off, none⟩ : Addr).add q) = some u) := fun q u hq => by
        rw [Addr.add_lit]
        unfold srow at hq
        rw [List.getElem?_map] at hq
        cases hr : (List.range n)[q]? with
        | none => rw [hr] at hq; cases hq
        | some r =>
          obtain ⟨e1, e2⟩ := List.getElem?_eq_some_iff.1 hr
          simp at e1 e2
          subst e2
          rw [hr] at hq
          simp at hq
          subst hq
          exact cell_on (HCs.out q e1) HBa.out
      have HLn : Hid ((srow ss n).length = n * 1) := by show _ = _; simp [srow]
      have HO1 : Hid (∀ u ∈ srow ss n, u.oneCell' = true) := fun u hu => by
        unfold srow at hu
        obtain ⟨r, _, rfl⟩ := List.mem_map.1 hu
        rfl
      have HBs : Hid (w1.heap.size ≤ (w1.alloc (.cells #[] 9)).heap.size) := HBa.out.size
      go_wp2_with fail
      refine (HCX.out _).mono ?_
      rintro e w1 ⟨rfl, rfl⟩
      go_wp2_with fail
      refine (HCY.out _).mono ?_
      rintro e w1 ⟨rfl, rfl⟩
      go_wp2_with (at_builtin; refine wpList_append_lies _ rfl _ _ 22 rfl w1.heap.size 9 i0 _ 1 16 Try.underlying22 hi0 hz0 hz1 hz2 rfl (by decide) (.slice (some ⟨w1.heap.size, 0, none⟩) 0 0) 0 [] rfl O1.out ⟨bb, off, none⟩ n c (srow ss n) rfl HLn.out HNw.out HO1.out hn0 (by unfold maxLen; omega) (by omega) HBs.out _ rfl ?_; intro g4 q4 w3 hown hgrow hat hl4; refine Hid.out ?_)
      refine hideH ?_
      have W3 := hideH (HBa.out.grown hgrow HBs.out (fun k hk => by
        obtain rfl : w1.heap.size = k := by simpa [Value.ownBlock] using hk
        exact Nat.le_refl _))
      have O3 : Hid (w3.ownsRow w1.heap.size 9 1 (.slice (some ⟨g4, 0, none⟩) n q4) n (srow ss n)) := by
        have := hown
        rw [Nat.zero_add, List.nil_append] at this
        exact this
      have hg4 : w1.heap.size ≤ g4 := (own_lt O3.out rfl).1
      clear hown hgrow hat hl4
      have hne : ¬ (bb = g4) := by omega
      have hne2 : ¬ (g4 = bb) := by omega
      have cy := cell_on (HCs.out y hy) W3.out
      have cx := cell_on (HCs.out x hx) W3.out
      have gx := O3.out.cellAt x (by omega)
      have gy := O3.out.cellAt y (by omega)
      have fx := O3.out.frozenAt x
      have fy := O3.out.frozenAt y
      rw [show (srow ss n)[x]? = some (.string (ss x)) by simp [srow, hx]] at gx
      rw [show (srow ss n)[y]? = some (.string (ss y)) by simp [srow, hy]] at gy
      obtain ⟨s1, s2⟩ := O3.out.stored x (.string (ss y))
      obtain ⟨s3, s4⟩ := s1.stored y (.string (ss x))
      rw [HSw.out] at s3
      have T5 := hideH (own_txa s3)
      have B5 := hideH ((W3.out.setCell (p := ⟨g4, x, none⟩) hg4 (.string (ss y))).setCell (p := ⟨g4, y, none⟩) hg4 (.string (ss x)))
      clear s1 s2 s3 s4
      refine Hid.out ?_
      refine hideH ?_
      have HK : Hid (∀ W5, W5 = (w3.setCell ⟨g4, x, none⟩ (.string (ss y))).setCell ⟨g4, y, none⟩ (.string (ss x)) → TxA W5 (some ⟨g4, 0, none⟩) n (swp ss x y) ∧ Below w1.heap.size w1 W5) := fun W5 e => by rw [e]; exact ⟨T5.out, B5.out⟩
      have hdec : (0 ≤ k1 ∧ 0 ≤ k2) ∨ (¬ 0 ≤ k1 ∧ ¬ 0 ≤ k2) := by
        by_cases h : 0 ≤ k1
        · exact .inl ⟨h, HSg.out.1 h⟩
        · exact .inr ⟨h, fun h2 => h (HSg.out.2 h2)⟩
      clear HSg HSw HNw HLn HO1 O1
      by_cases hxy : x = y
      all_goals
        first
        | subst hxy
        | (have hyx : ¬ (y = x) := fun h => hxy h.symm)
        go_wp2_with fail
        refine (HB2.out _ _ _ T5.out).mono ?_
        rintro e w6 ⟨ua, uc, rfl, htr, hw6⟩
        have R6 := hideH (R1.out.on (bthen B5.out hw6))
        have U6 := hideH htr
        have H6 := hideH (bthen (bthen H1.out B5.out) hw6)
        clear htr hw6 cx cy gx gy fx fy
        go_wp2_with fail
        refine (HFi.out _ _ _ R6.out).mono ?_
        rintro e w7 ⟨rfl, hw7⟩
        have R7 := hideH (R6.out.on hw7)
        have U7 := hideH (U6.out.on hw7)
        have H7 := hideH (bthen H6.out hw7)
        clear hw7 R6 U6 H6
        go_wp2_with fail
        refine (HFj.out _ _ _ U7.out).mono ?_
        rintro e w8 ⟨rfl, hw8⟩
        have R8 := hideH (R7.out.on hw8)
        have U8 := hideH (U7.out.on hw8)
        have H8 := hideH (bthen H7.out hw8)
        clear hw8 R7 U7 H7
        go_wp2_with fail
        refine (HLi.out _ _ _ R8.out).mono ?_
        rintro e w9 ⟨rfl, hw9⟩
        have U9 := hideH (U8.out.on hw9)
        have H9 := hideH (bthen H8.out hw9)
        clear hw9 R8 U8 H8
        go_wp2_with fail
        refine (HLj.out _ _ _ U9.out).mono ?_
        rintro e w10 ⟨rfl, hw10⟩
        have H10 := hideH (bthen H9.out hw10)
        clear hw10 U9 H9
        go_wp2_with fail
        refine (HBg.out _).mono ?_
        rintro e w11 ⟨rfl, hw11⟩
        rcases hdec with ⟨h1, h2⟩ | ⟨h1, h2⟩
        all_goals
          go_wp2_with fail
          go_ret
          exact ⟨ret_bool (by first | (simp; done) | (simp; omega)), bthen H10.out hw11⟩
  · have HB := hideH (Build_no a n c ss w hn hP hf h0)
    have hne : (bldE n ss != 0) = true := by rw [bne_iff_ne]; exact h0
    generalize bldE n ss = be at *
    clear h0 hP hf hn
    go_enter Try.func6, Try.ntmps6
    go_wp2_with fail
    refine HB.out.mono ?_
    rintro e w1 ⟨rfl, hw1⟩
    have H1 := hideH hw1
    clear hw1
    go_wp2_with fail
    refine (HBg.out _).mono ?_
    rintro e w2 ⟨rfl, hw2⟩
    go_wp2_with fail
    go_ret
    exact ⟨rfl, bthen H1.out hw2⟩
end Go.Proofs.Ythkdjklpegmnnaa.Tri
