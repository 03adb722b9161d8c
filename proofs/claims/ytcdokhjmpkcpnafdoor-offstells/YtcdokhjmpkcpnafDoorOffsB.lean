/- Contracts of package offs: Show, guess, Read. -/
import Derived.Test.YtcdokhjmpkcpnafDoorOffsA
import Derived.Test.YtcdokhjmpkcpnafDoorRepOne
import Derived.WalkSmall
namespace Go.Proofs.YtcdokhjmpkcpnafDoor
open Go Go.RowKit
set_option linter.unusedVariables false

/-- the shape of a style -/
abbrev shS (st : Int) : Value := shV (Ofs.zz st) (Ofs.aa st) (Ofs.bb st) (Ofs.brB st)
abbrev shZ : Value := shV [] [] [] false
theorem find_sh (st : Int) : Instr.findNow (.int .i64) (.int .i64 st) shEs.toList 0 = some (if st = 1 then some (0, sh1) else if st = 2 then some (1, sh2) else if st = 3 then some (2, sh3) else if st = 4 then some (3, sh4) else none) := by
  by_cases h1 : st = 1
  · subst h1; rfl
  by_cases h2 : st = 2
  · subst h2; rfl
  by_cases h3 : st = 3
  · subst h3; rfl
  by_cases h4 : st = 4
  · subst h4; rfl
  rw [if_neg h1, if_neg h2, if_neg h3, if_neg h4]
  have e1 : (st == 1) = false := beq_eq_false_iff_ne.2 h1
  have e2 : (st == 2) = false := beq_eq_false_iff_ne.2 h2
  have e3 : (st == 3) = false := beq_eq_false_iff_ne.2 h3
  have e4 : (st == 4) = false := beq_eq_false_iff_ne.2 h4
  simp [shEs, Instr.findNow, Instr.sameNow, e1, e2, e3, e4]
theorem look_yes {st : Int} (h : Ofs.isSt st = true) (w : World) (B : Nat) (hB : w.heap[B]? = some (.map shEs 4)) :
    (Instr.lookup 34 (.map (some B)) (.int .i64 st) true).run Tryd.prog w = .ok (.tuple #[shS st, .bool true]) w := by
  have hz : (zeroValue 32).run Tryd.prog w = .ok shZ w := Tryd.zeroValue32 w
  rw [look_int Tryd.underlying34 Tryd.underlying3 hB hz (find_sh st)]
  rcases Ofs.st_cases h with rfl | rfl | rfl | rfl <;> rfl
theorem look_no {st : Int} (h : Ofs.isSt st = false) (w : World) (B : Nat) (hB : w.heap[B]? = some (.map shEs 4)) :
    (Instr.lookup 34 (.map (some B)) (.int .i64 st) true).run Tryd.prog w = .ok (.tuple #[shZ, .bool false]) w := by
  have hz : (zeroValue 32).run Tryd.prog w = .ok shZ w := Tryd.zeroValue32 w
  rw [look_int Tryd.underlying34 Tryd.underlying3 hB hz (find_sh st)]
  have : ¬ (1 ≤ st ∧ st ≤ 4) := by unfold Ofs.isSt at h; simpa using h
  rw [if_neg (by omega), if_neg (by omega), if_neg (by omega), if_neg (by omega)]
  rfl
theorem aa_len (st : Int) : (Ofs.aa st).length ≤ 3 := by unfold Ofs.aa; split; · simp
                                                         split <;> simp
theorem bb_len (st : Int) : (Ofs.bb st).length ≤ 1 := by unfold Ofs.bb; split <;> simp
/-- what Show answers -/
def shwT (st n : Int) : List UInt8 := if Ofs.isSt st = true ∧ Ofs.offB n = true then Ofs.sh st n else []
def shwE (st n : Int) : Int := if Ofs.isSt st = true then (if Ofs.offB n = true then 0 else 3) else 8
set_option maxHeartbeats 4000000 in
theorem Show_c (st n : Int) (w : World) : Calls Tryd.prog 6 #[.int .i64 st, .int .i64 n] w fun e w' => e = .returned (.tuple #[.string ⟨(shwT st n).toArray⟩, .int .i64 (shwE st n)]) ∧ Below w.heap.size w w' := by
  cases hs : Ofs.isSt st
  · have HT : Hid (shwT st n = []) := by show _ = _; unfold shwT; simp [hs]
    have HE : Hid (shwE st n = 8) := by show _ = _; unfold shwE; simp [hs]
    have HL := hideO (fun v B hB => look_no hs v B hB)
    clear hs
    go_enter Tryd.func6, Tryd.ntmps6
    go_wp2_with fail
    refine (shapes_c _).mono ?_
    rintro e w1 ⟨rfl, b1, h1⟩
    have hl := HL.out w1 w.heap.size b1
    have H1 := hideO h1
    clear b1 h1 HL
    go_wp2_with fail
    go_ret2
    refine ⟨by rw [HT.out, HE.out]; rfl, ?_⟩
    exact H1.out.alloc H1.out.size _
  · have HL := hideO (fun v B hB => look_yes hs v B hB)
    have ha := aa_len st
    have hb := bb_len st
    cases ho : Ofs.offB n
    · have HT : Hid (shwT st n = []) := by show _ = _; unfold shwT; simp [ho]
      have HE : Hid (shwE st n = 3) := by show _ = _; unfold shwE; simp [hs, ho]
      have HO := hideO (fun v => isOffset_c n v)
      rw [ho] at HO
      clear hs ho
      go_enter Tryd.func6, Tryd.ntmps6
      go_wp2_with fail
      refine (shapes_c _).mono ?_
      rintro e w1 ⟨rfl, b1, h1⟩
      have hl := HL.out w1 w.heap.size b1
      have H1 := hideO h1
      clear b1 h1 HL
      go_wp2_with (go_at_call 12; refine (HO.out _).mono ?_; rintro e w2 ⟨rfl, rfl⟩)
      go_ret2
      refine ⟨by rw [HT.out, HE.out]; rfl, ?_⟩
      exact H1.out.alloc H1.out.size _
    · have HT : Hid (shwT st n = Ofs.sh st n) := by show _ = _; unfold shwT; simp [hs, ho]
      have HE : Hid (shwE st n = 0) := by show _ = _; unfold shwE; simp [hs, ho]
      have HO := hideO (fun v => isOffset_c n v)
      rw [ho] at HO
      have HS := hideO (fun v => show_c (Ofs.zz st) (Ofs.aa st) (Ofs.bb st) (Ofs.brB st) n ho (by omega) (by omega) v)
      clear hs ho
      go_enter Tryd.func6, Tryd.ntmps6
      go_wp2_with fail
      refine (shapes_c _).mono ?_
      rintro e w1 ⟨rfl, b1, h1⟩
      have hl := HL.out w1 w.heap.size b1
      have H1 := hideO (h1.alloc h1.size (.cells #[.string ⟨(Ofs.zz st).toArray⟩, .string ⟨(Ofs.aa st).toArray⟩, .string ⟨(Ofs.bb st).toArray⟩, .bool (Ofs.brB st)] 32))
      clear b1 h1 HL
      go_wp2_with (first
        | (go_at_call 12; refine (HO.out _).mono ?_; rintro e w2 ⟨rfl, rfl⟩)
        | (go_at_call 13; refine (HS.out _).mono ?_; rintro e w3 ⟨rfl, hw3⟩))
      go_ret2
      refine ⟨by rw [HT.out, HE.out]; rfl, ?_⟩
      exact bthenO H1.out hw3

theorem gES : Tryd.prog.globalNamed "strconv.ErrSyntax" = some 1 := by kernel_rfl
theorem gER : Tryd.prog.globalNamed "strconv.ErrRange" = some 2 := by kernel_rfl
/-- the variables of strconv's errors hold something -/
def EV (w : World) : Prop := (∃ tp p, w.var? Tryd.prog "strconv.ErrSyntax" = some #[.iface tp p]) ∧ (∃ tp p, w.var? Tryd.prog "strconv.ErrRange" = some #[.iface tp p]) ∧ ∃ m, w.cell? ⟨0, 0, none⟩ = some (.int .i64 m)
theorem var_on {w w' : World} {n : String} {g : Nat} {cs : Array Value} (hg : Tryd.prog.globalNamed n = some g) (hv : w.var? Tryd.prog n = some cs) (hb : Below w.heap.size w w') : w'.var? Tryd.prog n = some cs := by
  refine var?_below hb hg ?_ hv
  unfold World.var? at hv
  rw [hg] at hv
  simp only [Option.bind_some] at hv
  rcases Nat.lt_or_ge g w.heap.size with h | h
  · exact h
  · rw [Array.getElem?_eq_none h] at hv; cases hv
theorem EV.on {w w' : World} (h : EV w) (hb : Below w.heap.size w w') : EV w' := by
  obtain ⟨⟨t1, p1, a1⟩, ⟨t2, p2, a2⟩, m, a3⟩ := h
  exact ⟨⟨t1, p1, var_on gES a1 hb⟩, ⟨t2, p2, var_on gER a2 hb⟩, m, cellO a3 hb⟩
def gW (v : Int) : Int := wrap64 (wrap64 (v.tdiv 100 * 3600) + wrap64 (v.tmod 100 * 60))
theorem Atoi_c (s : ByteArray) (w : World) (hE : EV w) (hs : s.size ≤ 281474976710656) : Calls Tryd.prog 22 #[.string s] w fun e w' => ∃ x, e = .returned (.tuple #[.int .i64 (Ofs.num s.data.toList), x]) ∧ Below w.heap.size w w' := by
  obtain ⟨⟨t1, p1, a1⟩, ⟨t2, p2, a2⟩, _⟩ := hE
  rcases h : Lib.atoiAll s.data.toList with v | _ | _
  · refine (Tryd.strconv_Atoi_ok s (by omega) v h w).mono ?_
    rintro e w' ⟨rfl, hw⟩
    refine ⟨.nilIface, by unfold Ofs.num; rw [h], ?_⟩
    rcases hw with rfl | ⟨t, rfl⟩
    · exact Below.refl _ _
    · exact Lib.bytesWorld_below _ _ _
  · refine (Tryd.strconv_Atoi_syntax_var s hs h t1 p1 w a1).mono ?_
    rintro e w' ⟨N, rfl, _, _, hw⟩
    exact ⟨_, by unfold Ofs.num; rw [h], hw⟩
  · refine (Tryd.strconv_Atoi_range_var s hs h t2 p2 w a2).mono ?_
    rintro e w' ⟨N, rfl, _, _, hw⟩
    exact ⟨_, by unfold Ofs.num; rw [h], hw⟩
theorem num_bd (l : List UInt8) : -9223372036854775808 ≤ Ofs.num l ∧ Ofs.num l ≤ 9223372036854775807 := by
  unfold Ofs.num
  split
  · exact Lib.atoiAll_bounds (by assumption)
  · exact Lib.atoiSat_bounds _
  · decide
theorem Rep_c (d : List UInt8) (b : List UInt8) (w : World) (hE : EV w) (hd : d.length ≤ 140737488355328) (hb : b = [] ∨ b = [58]) :
    Calls Tryd.prog 23 #[.string ⟨d.toArray⟩, .string ⟨b.toArray⟩, .string ⟨#[]⟩, .int .i64 1] w fun e w' => e = .returned (.string ⟨(Ofs.dig3 b d).toArray⟩) ∧ Below w.heap.size w w' := by
  obtain ⟨_, _, m, a3⟩ := hE
  have hsz : (⟨d.toArray⟩ : ByteArray).size = d.length := by simp [ByteArray.size]
  rcases hb with rfl | rfl
  · refine (Tryd.strings_Replace_none ⟨d.toArray⟩ ⟨#[]⟩ ⟨#[]⟩ 1 w (.inl rfl)).mono ?_
    rintro e w' ⟨rfl, rfl⟩
    exact ⟨rfl, Below.refl _ _⟩
  · refine (Replace1_c ⟨d.toArray⟩ w (by rw [hsz]; omega)).mono ?_
    rintro e w' ⟨rfl, hw⟩
    exact ⟨rfl, hw⟩
theorem trim_len (s a : List UInt8) : (Lib.trimPrefix s a).length ≤ s.length := by
  unfold Lib.trimPrefix
  split
  · simp
  · exact Nat.le_refl _
theorem dig2_len (br : Bool) (d : List UInt8) : (Ofs.dig2 br d).length ≤ d.length + 2 := by
  unfold Ofs.dig2
  split
  · simp
  · omega
theorem dig3_len (b d : List UInt8) (hb : b = [] ∨ b = [58]) : (Ofs.dig3 b d).length ≤ d.length := by
  rcases hb with rfl | rfl
  · exact Nat.le_refl _
  · show (Lib.replace d [58] [] 1).length ≤ _
    unfold Lib.replace
    rw [if_neg (by decide)]
    have key : ∀ k s, (Lib.replaceK [58] [] k s).length ≤ s.length := by
      intro k
      induction k with
      | zero => intro s; exact Nat.le_refl _
      | succ k ih =>
        intro s
        unfold Lib.replaceK
        split
        · exact Nat.le_refl _
        · have := ih (s.drop ((Lib.index s [58]).toNat + [58].length))
          simp only [List.append_nil, List.length_append, List.length_take]
          simp only [List.length_drop] at this
          omega
    exact key _ _
set_option maxHeartbeats 4000000 in
theorem guess_c (z a b : List UInt8) (br : Bool) (s : List UInt8) (hs : s.length ≤ 140737488351232) (hb : b = [] ∨ b = [58]) (hbr : br = true → b = [58]) (w : World) (hE : EV w) :
    Calls Tryd.prog 14 #[shV z a b br, .string ⟨s.toArray⟩] w fun e w' => e = .returned (.int .i64 (gW (Ofs.num (Ofs.dig3 b (Ofs.dig2 br (Ofs.dig1 a s)))))) ∧ Below w.heap.size w w' := by
  have HB := hideO ((Below.refl _ w).alloc (Nat.le_refl _) (.cells #[.string ⟨z.toArray⟩, .string ⟨a.toArray⟩, .string ⟨b.toArray⟩, .bool br] 32))
  have hT := fun v => Tryd.strings_TrimPrefix ⟨s.toArray⟩ ⟨a.toArray⟩ v
  have hl1 := trim_len s a
  have e1 : Ofs.dig1 a s = Lib.trimPrefix s a := rfl
  have HT : Hid (∀ v, Calls Tryd.prog 20 #[.string ⟨s.toArray⟩, .string ⟨a.toArray⟩] v fun e w' => e = .returned (.string ⟨(Ofs.dig1 a s).toArray⟩) ∧ w' = v) := hT
  rw [← e1] at hl1
  clear hT e1
  generalize Ofs.dig1 a s = d1 at *
  have hl2 := dig2_len br d1
  have hl3 := dig3_len b (Ofs.dig2 br d1) hb
  have HR := hideO (fun v (hv : EV v) => Rep_c (Ofs.dig2 br d1) b v hv (by omega) hb)
  have HA := hideO (fun v (hv : EV v) => Atoi_c ⟨(Ofs.dig3 b (Ofs.dig2 br d1)).toArray⟩ v hv (by show (Ofs.dig3 b (Ofs.dig2 br d1)).toArray.size ≤ _; simp; omega))
  have hnb := num_bd (Ofs.dig3 b (Ofs.dig2 br d1))
  have HE2 := hideO (hE.on HB.out)
  clear hE
  have Hend : Hid (∀ (e : Ending) (w2 : World), (∃ x, e = .returned (.tuple #[.int .i64 (Ofs.num (Ofs.dig3 b (Ofs.dig2 br d1))), x])) → True) := fun _ _ _ => trivial
  cases br
  · have e2 : Ofs.dig2 false d1 = d1 := by unfold Ofs.dig2; simp
    rw [e2] at HR HA hnb ⊢
    generalize hX : Ofs.dig3 b d1 = d3 at *
    have HA2 : Hid (∀ v, EV v → Calls Tryd.prog 22 #[.string ⟨d3.toArray⟩] v fun e w' => ∃ x, e = .returned (.tuple #[.int .i64 (Ofs.num d3), x]) ∧ Below v.heap.size v w') := HA.out
    clear HA hX Hend hl2 hl3 e2
    generalize Ofs.num d3 = nv at *
    go_enter Tryd.func14, Tryd.ntmps14
    go_wp2_with (first
      | (go_at_call 20; refine (HT.out _).mono ?_; rintro e w1 ⟨rfl, rfl⟩)
      | (go_at_call 23; refine (HR.out _ HE2.out).mono ?_; rintro e w2 ⟨rfl, hw2⟩; have HE3 := hideO (HE2.out.on hw2))
      | (go_at_call 22; refine (HA2.out _ HE3.out).mono ?_; rintro e w3 ⟨x, rfl, hw3⟩))
    go_ret
    exact ⟨rfl, bthenO (bthenO HB.out hw2) hw3⟩
  · obtain rfl := hbr rfl
    have HCo := hideO (fun v => Tryd.strings_Contains_one ⟨d1.toArray⟩ 58 v)
    have HCo : Hid (∀ v, Calls Tryd.prog 21 #[.string ⟨d1.toArray⟩, .string ⟨#[58]⟩] v fun e w' => e = .returned (.bool (decide (0 ≤ Lib.indexByte d1 58))) ∧ w' = v) := HCo
    by_cases hc : 0 ≤ Lib.indexByte d1 58
    · have e2 : Ofs.dig2 true d1 = d1 := by unfold Ofs.dig2; simp [hc]
      rw [e2] at HR HA hnb ⊢
      rw [decide_eq_true hc] at HCo
      generalize hX : Ofs.dig3 [58] d1 = d3 at *
      have HA2 : Hid (∀ v, EV v → Calls Tryd.prog 22 #[.string ⟨d3.toArray⟩] v fun e w' => ∃ x, e = .returned (.tuple #[.int .i64 (Ofs.num d3), x]) ∧ Below v.heap.size v w') := HA.out
      clear HA hX Hend hl2 hl3 e2 hc
      generalize Ofs.num d3 = nv at *
      go_enter Tryd.func14, Tryd.ntmps14
      go_wp2_with (first
        | (go_at_call 20; refine (HT.out _).mono ?_; rintro e w1 ⟨rfl, rfl⟩)
        | (go_at_call 21; refine (HCo.out _).mono ?_; rintro e w1 ⟨rfl, rfl⟩)
        | (go_at_call 23; refine (HR.out _ HE2.out).mono ?_; rintro e w2 ⟨rfl, hw2⟩; have HE3 := hideO (HE2.out.on hw2))
        | (go_at_call 22; refine (HA2.out _ HE3.out).mono ?_; rintro e w3 ⟨x, rfl, hw3⟩))
      go_ret
      exact ⟨rfl, bthenO (bthenO HB.out hw2) hw3⟩
    · have e2 : Ofs.dig2 true d1 = d1 ++ [48, 48] := by unfold Ofs.dig2; simp [hc]
      rw [e2] at HR HA hnb ⊢
      rw [decide_eq_false hc] at HCo
      have HR2 : Hid (∀ v, EV v → Calls Tryd.prog 23 #[.string ((⟨d1.toArray⟩ : ByteArray) ++ ⟨#[48, 48]⟩), .string ⟨#[58]⟩, .string ⟨#[]⟩, .int .i64 1] v fun e w' => e = .returned (.string ⟨(Ofs.dig3 [58] (d1 ++ [48, 48])).toArray⟩) ∧ Below v.heap.size v w') := fun v hv => by
        have := HR.out v hv
        rw [← bappL] at this
        exact this
      generalize hX : Ofs.dig3 [58] (d1 ++ [48, 48]) = d3 at *
      have HA2 : Hid (∀ v, EV v → Calls Tryd.prog 22 #[.string ⟨d3.toArray⟩] v fun e w' => ∃ x, e = .returned (.tuple #[.int .i64 (Ofs.num d3), x]) ∧ Below v.heap.size v w') := HA.out
      clear HA HR hX Hend hl2 hl3 e2 hc
      generalize Ofs.num d3 = nv at *
      go_enter Tryd.func14, Tryd.ntmps14
      go_wp2_with (first
        | (go_at_call 20; refine (HT.out _).mono ?_; rintro e w1 ⟨rfl, rfl⟩)
        | (go_at_call 21; refine (HCo.out _).mono ?_; rintro e w1 ⟨rfl, rfl⟩)
        | (go_at_call 23; refine (HR2.out _ HE2.out).mono ?_; rintro e w2 ⟨rfl, hw2⟩; have HE3 := hideO (HE2.out.on hw2))
        | (go_at_call 22; refine (HA2.out _ HE3.out).mono ?_; rintro e w3 ⟨x, rfl, hw3⟩))
      go_ret
      exact ⟨rfl, bthenO (bthenO HB.out hw2) hw3⟩
/-- the guess of a style -/
def gs (st : Int) (s : List UInt8) : Int := gW (Ofs.num (Ofs.digs st s))
def rdN (st : Int) (s : List UInt8) : Int := if Ofs.isSt st = true ∧ Ofs.offB (gs st s) = true ∧ Ofs.sh st (gs st s) = s then gs st s else 0
def rdE (st : Int) (s : List UInt8) : Int := if Ofs.isSt st = true then (if Ofs.offB (gs st s) = true ∧ Ofs.sh st (gs st s) = s then 0 else 1) else 8
set_option maxHeartbeats 4000000 in
theorem Read_c (st : Int) (s : List UInt8) (hlen : s.length ≤ 140737488351232) (w : World) (hE : EV w) : Calls Tryd.prog 7 #[.int .i64 st, .string ⟨s.toArray⟩] w fun e w' => e = .returned (.tuple #[.int .i64 (rdN st s), .int .i64 (rdE st s)]) ∧ Below w.heap.size w w' := by
  have HEV : Hid (∀ v, Below w.heap.size w v → EV v) := fun v hv => hE.on hv
  clear hE
  cases hs : Ofs.isSt st
  · have HT : Hid (rdN st s = 0) := by show _ = _; unfold rdN; simp [hs]
    have HE : Hid (rdE st s = 8) := by show _ = _; unfold rdE; simp [hs]
    have HL := hideO (fun v B hB => look_no hs v B hB)
    clear hs
    go_enter Tryd.func7, Tryd.ntmps7
    go_wp2_with fail
    refine (shapes_c _).mono ?_
    rintro e w1 ⟨rfl, b1, h1⟩
    have hl := HL.out w1 w.heap.size b1
    have H1 := hideO h1
    clear b1 h1 HL
    go_wp2_with fail
    go_ret2
    refine ⟨by rw [HT.out, HE.out]; rfl, ?_⟩
    exact H1.out.alloc H1.out.size _
  · have HL := hideO (fun v B hB => look_yes hs v B hB)
    have ha := aa_len st
    have hb := bb_len st
    have hbb : Ofs.bb st = [] ∨ Ofs.bb st = [58] := by unfold Ofs.bb; split <;> simp
    have hbr : Ofs.brB st = true → Ofs.bb st = [58] := by
      intro h
      have h3 : st = 3 := by simpa [Ofs.brB] using h
      subst h3; rfl
    have HG : Hid (∀ v, Below w.heap.size w v → Calls Tryd.prog 14 #[shS st, .string ⟨s.toArray⟩] v fun e w' => e = .returned (.int .i64 (gs st s)) ∧ Below v.heap.size v w') := fun v hv => guess_c (Ofs.zz st) (Ofs.aa st) (Ofs.bb st) (Ofs.brB st) s hlen hbb hbr v (HEV.out v hv)
    have HI := hideO (fun v => isOffset_c (gs st s) v)
    cases ho : Ofs.offB (gs st s)
    · have HT : Hid (rdN st s = 0) := by show _ = _; unfold rdN; simp [ho]
      have HE : Hid (rdE st s = 1) := by show _ = _; unfold rdE; simp [hs, ho]
      rw [ho] at HI
      clear hs ho hbb hbr
      generalize gs st s = g at *
      go_enter Tryd.func7, Tryd.ntmps7
      go_wp2_with fail
      refine (shapes_c _).mono ?_
      rintro e w1 ⟨rfl, b1, h1⟩
      have hl := HL.out w1 w.heap.size b1
      have H1 := hideO (h1.alloc h1.size (.cells #[.string ⟨(Ofs.zz st).toArray⟩, .string ⟨(Ofs.aa st).toArray⟩, .string ⟨(Ofs.bb st).toArray⟩, .bool (Ofs.brB st)] 32))
      clear b1 h1 HL
      go_wp2_with (first
        | (go_at_call 14; refine (HG.out _ H1.out).mono ?_; rintro e w2 ⟨rfl, hw2⟩)
        | (go_at_call 12; refine (HI.out _).mono ?_; rintro e w3 ⟨rfl, rfl⟩))
      go_ret2
      exact ⟨by rw [HT.out, HE.out]; rfl, bthenO H1.out hw2⟩
    · have HS := hideO (fun v => show_c (Ofs.zz st) (Ofs.aa st) (Ofs.bb st) (Ofs.brB st) (gs st s) ho (by omega) (by omega) v)
      have HS : Hid (∀ v, Calls Tryd.prog 13 #[shS st, .int .i64 (gs st s)] v fun e w' => e = .returned (.string ⟨(Ofs.sh st (gs st s)).toArray⟩) ∧ Below v.heap.size v w') := HS
      rw [ho] at HI
      by_cases he : Ofs.sh st (gs st s) = s
      · have HT : Hid (rdN st s = gs st s) := by show _ = _; unfold rdN; rw [if_pos ⟨hs, ho, he⟩]
        have HE : Hid (rdE st s = 0) := by show _ = _; unfold rdE; rw [if_pos hs, if_pos ⟨ho, he⟩]
        rw [he] at HS
        clear hs ho hbb hbr he
        generalize gs st s = g at *
        go_enter Tryd.func7, Tryd.ntmps7
        go_wp2_with fail
        refine (shapes_c _).mono ?_
        rintro e w1 ⟨rfl, b1, h1⟩
        have hl := HL.out w1 w.heap.size b1
        have H1 := hideO (h1.alloc h1.size (.cells #[.string ⟨(Ofs.zz st).toArray⟩, .string ⟨(Ofs.aa st).toArray⟩, .string ⟨(Ofs.bb st).toArray⟩, .bool (Ofs.brB st)] 32))
        obtain ⟨c0, c1, c2, c3⟩ := cells4 w1 (.string ⟨(Ofs.zz st).toArray⟩) (.string ⟨(Ofs.aa st).toArray⟩) (.string ⟨(Ofs.bb st).toArray⟩) (.bool (Ofs.brB st)) 32
        clear b1 h1 HL
        go_wp2_with (first
          | (go_at_call 14; refine (HG.out _ H1.out).mono ?_; rintro e w2 ⟨rfl, hw2⟩; have d0 := cellO c0 hw2; have d1 := cellO c1 hw2; have d2 := cellO c2 hw2; have d3 := cellO c3 hw2)
          | (go_at_call 12; refine (HI.out _).mono ?_; rintro e w3 ⟨rfl, rfl⟩)
          | (go_at_call 13; refine (HS.out _).mono ?_; rintro e w4 ⟨rfl, hw4⟩))
        go_ret2
        exact ⟨by rw [HT.out, HE.out]; rfl, bthenO (bthenO H1.out hw2) hw4⟩
      · have HT : Hid (rdN st s = 0) := by show _ = _; unfold rdN; rw [if_neg (fun h => he h.2.2)]
        have HE : Hid (rdE st s = 1) := by show _ = _; unfold rdE; rw [if_pos hs, if_neg (fun h => he h.2)]
        have hq : (Ofs.sh st (gs st s) == s) = false := beq_eq_false_iff_ne.2 he
        clear hs ho hbb hbr
        generalize Ofs.sh st (gs st s) = u at *
        generalize gs st s = g at *
        go_enter Tryd.func7, Tryd.ntmps7
        go_wp2_with fail
        refine (shapes_c _).mono ?_
        rintro e w1 ⟨rfl, b1, h1⟩
        have hl := HL.out w1 w.heap.size b1
        have H1 := hideO (h1.alloc h1.size (.cells #[.string ⟨(Ofs.zz st).toArray⟩, .string ⟨(Ofs.aa st).toArray⟩, .string ⟨(Ofs.bb st).toArray⟩, .bool (Ofs.brB st)] 32))
        obtain ⟨c0, c1, c2, c3⟩ := cells4 w1 (.string ⟨(Ofs.zz st).toArray⟩) (.string ⟨(Ofs.aa st).toArray⟩) (.string ⟨(Ofs.bb st).toArray⟩) (.bool (Ofs.brB st)) 32
        clear b1 h1 HL
        go_wp2_with (first
          | (go_at_call 14; refine (HG.out _ H1.out).mono ?_; rintro e w2 ⟨rfl, hw2⟩; have d0 := cellO c0 hw2; have d1 := cellO c1 hw2; have d2 := cellO c2 hw2; have d3 := cellO c3 hw2)
          | (go_at_call 12; refine (HI.out _).mono ?_; rintro e w3 ⟨rfl, rfl⟩)
          | (go_at_call 13; refine (HS.out _).mono ?_; rintro e w4 ⟨rfl, hw4⟩))
        go_ret2
        exact ⟨by rw [HT.out, HE.out]; rfl, bthenO (bthenO H1.out hw2) hw4⟩
end Go.Proofs.YtcdokhjmpkcpnafDoor
