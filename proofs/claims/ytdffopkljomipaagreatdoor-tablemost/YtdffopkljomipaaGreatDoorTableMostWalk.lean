/- The walk of the statement TableMost. -/
import Derived.Test.YtdffopkljomipaaGreatDoorTableR
import Derived.Test.YtdffopkljomipaaGreatDoorTableE
import Derived.Test.YtdffopkljomipaaGreatDoorDataOAll
import Derived.Deep.QuietTactic
import Derived.BigQuiet
import Derived.Deep.CutRange
import Derived.Deep.RegionHeld3
namespace Go.Proofs.YtdffopkljomipaaGreatDoor
open Go Go.RowKit Go.Maps
set_option linter.unusedVariables false

/-- in how many years the first j rules begin -/
def mrN (rs : Nat → Rl) : Nat → Int
  | 0 => 0
  | j + 1 => mrN rs j + ((rs j).t - (rs j).f + 1)
/-- how many turns the first m eras may give -/
def msN (D : Dt) (k : Nat) : Nat → Int
  | 0 => 0
  | m + 1 => msN D k m + 1 + (if 0 ≤ ((D.zs k).es m).set then mrN (D.ss ((D.zs k).es m).set.toNat).rs (D.ss ((D.zs k).es m).set.toNat).n else 0)
theorem mr_len {D : Dt} {fr : Int} {x : Er} : ∀ m, (∀ i, i < m → rchk ((D.ss x.set.toNat).rs i) = 0) → ((ruN D fr x m).length : Int) ≤ mrN (D.ss x.set.toNat).rs m ∧ 0 ≤ mrN (D.ss x.set.toNat).rs m ∧ mrN (D.ss x.set.toNat).rs m ≤ 60 * m
  | 0, _ => by simp [ruN, mrN]
  | m + 1, h => by
    obtain ⟨h1, h2, h3⟩ := mr_len (D := D) (fr := fr) (x := x) m (fun i hi => h i (by omega))
    have hb := bnd_of (rchk_bnd (h m (by omega)))
    have hw := wiN_len ((D.ss x.set.toNat).rs m) fr x.un x.std (((D.ss x.set.toNat).rs m).t - ((D.ss x.set.toNat).rs m).f + 1).toNat
    rw [ruN_succ, List.length_append]
    unfold mrN
    have he : (wiL ((D.ss x.set.toNat).rs m) fr x.un x.std).length = (wiN ((D.ss x.set.toNat).rs m) fr x.un x.std (((D.ss x.set.toNat).rs m).t - ((D.ss x.set.toNat).rs m).f + 1).toNat).length := rfl
    rw [he]
    omega
theorem ms_len {D : Dt} (hc : chkE D = 0) {k : Nat} (hk : k < D.nz) : ∀ m, m ≤ (D.zs k).n → ((tmN D k m).length : Int) ≤ msN D k m ∧ 0 ≤ msN D k m ∧ msN D k m ≤ 241 * m
  | 0, _ => by simp [tmN, msN]
  | m + 1, h => by
    obtain ⟨h1, h2, h3⟩ := ms_len hc hk m (by omega)
    have hb := ebd (chk_era hc hk (show m < (D.zs k).n by omega))
    rw [tmN_succ, List.length_append]
    have hl : (bgL D (frm (D.zs k).es m) ((D.zs k).es m)).length = (bgU D (frm (D.zs k).es m) ((D.zs k).es m)).length := by
      unfold bgL srtI
      rw [List.length_mergeSort]
    rw [hl]
    unfold msN bgU
    by_cases hs : 0 ≤ ((D.zs k).es m).set
    · rw [if_pos hs, if_pos hs]
      have hsn : ((D.zs k).es m).set.toNat < D.ns := by omega
      have h4 := ((chk_all hc).1.2.1 _ hsn).2
      obtain ⟨r1, r2, r3⟩ := mr_len (D := D) (fr := frm (D.zs k).es m) (x := (D.zs k).es m) (D.ss ((D.zs k).es m).set.toNat).n (fun i hi => chk_rule hc hsn hi)
      simp only [List.length_cons]
      omega
    · rw [if_neg hs, if_neg hs]
      simp only [List.length_cons, List.length_nil]
      omega
theorem cmp_most {D : Dt} (hc : chkE D = 0) {k : Nat} (hk : k < D.nz) : 1 ≤ (cmpT D k).length ∧ ((cmpT D k).length : Int) ≤ msN D k (D.zs k).n := by
  have h1 := (cmp_isT hc hk).1
  have h2 := Tab.push_len oeq (offR D k) (tmN D k (D.zs k).n) []
  have h3 := (ms_len hc hk _ (Nat.le_refl _)).1
  unfold cmpT at *
  simp only [List.length_nil] at h2
  omega
set_option maxRecDepth 100000 in
set_option maxHeartbeats 8000000 in
theorem TableMost_ok (D : Dt) (s : ByteArray) (w : World) (hL : Laid w) (hM : Mx w) (hD : DAt w D) (hF : D.fits) (hs : s.size ≤ maxLen) (h0 : zonE D s = 0) :
    Calls Tryz.prog 6 #[D.v, .string s] w fun e w' => e = .returned (.bool true) ∧ Below w.heap.size w w' := by
  have HL := hideH hL
  have HM := hideH hM
  have HD := hideH hD
  have HE : Hid (∀ v : World, Below w.heap.size w v → Env v D) := fun v h => ⟨HL.out.on h, HM.out.on h, HD.out.on h⟩
  obtain ⟨hc, k, hk, hkz⟩ := zon_ok h0
  have hzt := zone_told hc hkz
  have htu : ∀ (s : ByteArray), s.size ≤ maxLen → zonE D s = 0 → zonR D s = k → ∀ v, Below w.heap.size w v → Calls Tryz.prog 7 #[D.v, .string s] v fun e' v' => ∃ a c, e' = .returned (.tuple #[.slice a (cmpT D k).length c, .int .i64 0]) ∧ TuAt v' a (cmpT D k).length (tuF (cmpT D k)) ∧ (cmpT D k).length ≤ maxLen ∧ Below v.heap.size v v' := fun s hs h0 hk v hv => by
    refine (Compile_c D s v (HE.out v hv) hF hs).mono ?_
    rintro e' v' ⟨hb, ⟨_, k', x, hk', _, rfl, ho⟩ | ⟨h1, _⟩⟩
    · obtain rfl : k' = k := by omega
      obtain ⟨a, c, rfl, ht, hm⟩ := tu_own ho
      exact ⟨a, c, rfl, ht, hm, hb⟩
    · exact absurd h0 h1
  have HC := hideH (htu s hs h0 hk)
  have HC2 := hideH (htu (D.zs k).nm (hF.znm k hkz) hzt.2 hzt.1)
  have HZ : Hid (∀ v, Below w.heap.size w v → Calls Tryz.prog 15 #[D.v, .string s] v fun e w' => e = .returned (.tuple #[.int .i64 k, .int .i64 0]) ∧ Below v.heap.size v w') := fun v hv => by
    have := DZone_c D s v (HE.out v hv) hF hs
    rw [h0, hk] at this
    exact this
  have HT := hideH (fun v (hv : Below w.heap.size w v) => tableBegun_c v (HL.out.on hv) (HM.out.on hv))
  have hmo := cmp_most hc hkz
  obtain ⟨⟨g1, g2, g3⟩, _⟩ := chk_all hc
  have hn4 := (g3 k hkz).2
  have HMs := hideH (fun m (hm : m ≤ (D.zs k).n) => (ms_len hc hkz m hm).2)
  have HBd : Hid (∀ i, i < (D.zs k).n → -1 ≤ ((D.zs k).es i).set ∧ ((D.zs k).es i).set < D.ns) := fun i hi => by have := ebd (chk_era hc hkz hi); omega
  have HR4 : Hid (∀ j, j < D.ns → (D.ss j).n ≤ 4) := fun j hj => (g2 j hj).2
  have HRc : Hid (∀ j, j < D.ns → ∀ i, i < (D.ss j).n → rchk ((D.ss j).rs i) = 0) := fun j hj i hi => chk_rule hc hj hi
  have HMr : Hid (∀ j, j < D.ns → ∀ m, m ≤ (D.ss j).n → 0 ≤ mrN (D.ss j).rs m ∧ mrN (D.ss j).rs m ≤ 60 * m) := fun j hj m hm => by
    have := (mr_len (D := D) (fr := 0) (x := ⟨0, j, 0, ⟨#[]⟩, 0⟩) m (fun i hi => by simpa using chk_rule hc hj (by omega))).2
    simpa using this
  have HSu : Hid (∀ m, msN D k (m + 1) = msN D k m + 1 + (if 0 ≤ ((D.zs k).es m).set then mrN (D.ss ((D.zs k).es m).set.toNat).rs (D.ss ((D.zs k).es m).set.toNat).n else 0)) := fun m => rfl
  have HS0 : Hid (msN D k 0 = 0) := rfl
  have HEr := hideH (hD.eras k hkz)
  have HSs := hideH hD.sets
  have HRr := hideH hD.rules
  rcases hD.zones with h1 | ⟨b, off, hza, hcs⟩
  · omega
  have HZc := hideH (hcs k hkz)
  have hns := g1.1
  have hnz := g1.2.1
  obtain ⟨sa, hsa⟩ : ∃ x, x = D.sa := ⟨_, rfl⟩
  obtain ⟨ea, hea⟩ : ∃ x, x = (D.zs k).a := ⟨_, rfl⟩
  obtain ⟨n, hn⟩ : ∃ x, x = (D.zs k).n := ⟨_, rfl⟩
  obtain ⟨ms, hms⟩ : ∃ x, x = msN D k := ⟨_, rfl⟩
  obtain ⟨T, hT⟩ : ∃ x, x = (cmpT D k).length := ⟨_, rfl⟩
  have hv : D.v = .agg #[.slice sa D.ns D.sc, .slice (some ⟨b, off, none⟩) D.nz D.zc, .slice D.la D.nl D.lc] := by unfold Dt.v; rw [hza, hsa]
  rw [hv] at HC HC2 HZ ⊢
  rw [← hT] at HC HC2 hmo
  rw [← hms] at hmo HMs HSu HS0
  simp only [Zn.sl, ← hea, ← hn] at HZc
  rw [← hn] at hmo hn4 HMs HBd HEr
  rw [← hea] at HEr
  rw [← hsa] at HSs
  have hb0 := hideH ((Below.refl _ w).alloc (Nat.le_refl _) (.cells #[.slice sa D.ns D.sc, .slice (some ⟨b, off, none⟩) D.nz D.zc, .slice D.la D.nl D.lc] 26))
  have hc0 := hideH (World.alloc_heap_new w (.cells #[.slice sa D.ns D.sc, .slice (some ⟨b, off, none⟩) D.nz D.zc, .slice D.la D.nl D.lc] 26))
  clear hL hM hD hF hs h0 hc hk hzt htu g1 g2 g3 hza hcs hsa hea hn hms hT hv
  go_enter Tryz.func6, Tryz.ntmps6
  go_wp2_with fail
  refine (HC.out _ hb0.out).mono ?_
  rintro e w1 ⟨a1, c1, rfl, t1, hm, hw1⟩
  have H1 := hideH (bthen hb0.out hw1)
  have C1 := hideH (heap_on hc0.out hw1)
  have T1 := hideH t1
  clear hw1 hb0 hc0 t1
  obtain ⟨p0, p1, p2⟩ := cells3 C1.out
  go_wp2_with fail
  clear p0 p1 p2
  refine (HZ.out _ H1.out).mono ?_
  rintro e w2 ⟨rfl, hw2⟩
  have H2 := hideH (bthen H1.out hw2)
  have C2 := hideH (heap_on C1.out hw2)
  have T2 := hideH (T1.out.on hw2)
  clear hw2 H1 C1 T1
  obtain ⟨p0, p1, p2⟩ := cells3 C2.out
  have hkd : decide ((k : Int) < 0) = false := by simp
  have hkd2 : decide (D.nz ≤ k) = false := by simp; omega
  have hk0 : ¬ ((k : Int) < 0) := by omega
  have hkn : ¬ ((D.nz : Int) ≤ (k : Int)) := by omega
  go_wp2_with fail
  clear p0 p1 p2
  have Q0 : Hid (Below w.heap.size w w2 ∧ Below w2.heap.size w2 w2 ∧ w2.heap[w.heap.size]? = some (.cells #[.slice sa D.ns D.sc, .slice (some ⟨b, off, none⟩) D.nz D.zc, .slice D.la D.nl D.lc] 26)) := ⟨H2.out, Below.refl _ _, C2.out⟩
  go_loopw [9, 10] (fun x9 x10 W => ∃ (i : Nat), i ≤ n ∧ x9 = .int .i64 (ms i) ∧ x10 = .int .i64 i ∧ Hid (Below w.heap.size w W ∧ Below w2.heap.size w2 W ∧ W.heap[w.heap.size]? = some (.cells #[.slice sa D.ns D.sc, .slice (some ⟨b, off, none⟩) D.nz D.zc, .slice D.la D.nl D.lc] 26))) (fun _ x10 _ => n - (intOf x10).toNat)
  case atStart => exact ⟨0, Nat.zero_le _, by rw [HS0.out], rfl, Q0⟩
  case round =>
    obtain ⟨i, hi, rfl, rfl, Q1⟩ := hrel
    clear Q0
    obtain ⟨p0, p1, p2⟩ := cells3 Q1.out.2.2
    have z0 := cell_on HZc.out.1 Q1.out.1
    have z1 := cell_on HZc.out.2 Q1.out.1
    by_cases hlt : i < n
    · rcases HEr.out with hz | ⟨eb, eo, hea, hes⟩
      · omega
      subst hea
      have hbd := HBd.out i hlt
      have hsu := HSu.out i
      have e1 := cell_on (hes i hlt).2.1 Q1.out.1
      have hmsi := HMs.out i hi
      obtain ⟨xt, hxt⟩ : ∃ x, x = ((D.zs k).es i).set := ⟨_, rfl⟩
      rw [← hxt] at hbd hsu e1
      have hi0 : decide ((i : Int) < 0) = false := by simp
      have hin : decide (n ≤ i) = false := by simp; omega
      have hii : (i : Int) < (n : Int) := by omega
      obtain ⟨M, hMe⟩ : ∃ M, M = ms i := ⟨_, rfl⟩
      rw [← hMe] at hmsi hsu
      simp only [← hMe]
      clear hes hxt hMe
      by_cases hset : xt < 0
      · rw [if_neg (by omega)] at hsu
        have HSu2 := hideH hsu
        clear hsu
        go_wp2_with fail
        go_roundw
        case rel => exact ⟨i + 1, by omega, by rw [HSu2.out]; congr 1; omega, by go_num, Q1⟩
        case measure => simp [intOf]; omega
      · rw [if_pos (by omega)] at hsu
        obtain ⟨s', rfl⟩ : ∃ s' : Nat, xt = s' := ⟨xt.toNat, by omega⟩
        have hsn : s' < D.ns := by omega
        have hst : ((s' : Int)).toNat = s' := by omega
        rw [hst] at hsu
        have hsx : ¬ ((D.ns : Int) ≤ (s' : Int)) := by omega
        have hsi : (s' : Int) < (D.ns : Int) := by omega
        have hsd : decide (D.ns ≤ s') = false := by simp; omega
        have hsd0 : decide ((s' : Int) < 0) = false := by simp
        have HMrs := hideH (HMr.out s' hsn)
        have HRcs := hideH (HRc.out s' hsn)
        have hZ4 := HR4.out s' hsn
        have HRw := hideH (HRr.out s' hsn)
        rcases HSs.out with hz | ⟨sb, so, hsa, hss⟩
        · omega
        subst hsa
        have HSc := hideH (hss s' hsn).2
        have HSu2 := hideH hsu
        have HMn : Hid (∀ j, mrN (D.ss s').rs (j + 1) = mrN (D.ss s').rs j + (((D.ss s').rs j).t - ((D.ss s').rs j).f + 1)) := fun j => rfl
        have HM0 : Hid (mrN (D.ss s').rs 0 = 0) := rfl
        obtain ⟨mr, hmr⟩ : ∃ mr, mr = mrN (D.ss s').rs := ⟨_, rfl⟩
        rw [← hmr] at HMrs HSu2 HMn HM0
        obtain ⟨Z, hZ⟩ : ∃ Z, Z = D.ss s' := ⟨_, rfl⟩
        simp only [St.sl, ← hZ] at HMrs HRcs hZ4 HRw HSc HSu2 HMn
        clear hss hsu hmr hZ hst
        go_wp2_with fail
        clear p0 p1 p2 z0 z1 e1
        go_loopw [9, 12] (fun x9 x12 W => ∃ (j : Nat), j ≤ Z.n ∧ x9 = .int .i64 (M + 1 + mr j) ∧ x12 = .int .i64 j ∧ Hid (Below w.heap.size w W ∧ Below w2.heap.size w2 W ∧ W.heap[w.heap.size]? = some (.cells #[.slice (some ⟨sb, so, none⟩) D.ns D.sc, .slice (some ⟨b, off, none⟩) D.nz D.zc, .slice D.la D.nl D.lc] 26))) (fun _ x12 _ => Z.n - (intOf x12).toNat)
        case atStart => exact ⟨0, Nat.zero_le _, by rw [HM0.out]; congr 1; omega, rfl, Q1⟩
        case round =>
          obtain ⟨j, hj, rfl, rfl, Q2⟩ := hrel
          clear Q1
          obtain ⟨p0, p1, p2⟩ := cells3 Q2.out.2.2
          have s1 := cell_on HSc.out Q2.out.1
          by_cases hjl : j < Z.n
          · rcases HRw.out with hz | ⟨rb, ro, hra, hrow⟩
            · omega
            have hbd2 := bnd_of (rchk_bnd (HRcs.out j hjl))
            obtain ⟨f0, f1, -⟩ := (hrow j hjl).on Q2.out.1
            have hmn := HMn.out j
            have hmj := HMrs.out j hj
            obtain ⟨rf, hrf⟩ : ∃ x, x = (Z.rs j).f := ⟨_, rfl⟩
            obtain ⟨rt, hrt⟩ : ∃ x, x = (Z.rs j).t := ⟨_, rfl⟩
            rw [← hrf] at f0 hbd2 hmn
            rw [← hrt] at f1 hbd2 hmn
            obtain ⟨b1, b2, b3, -⟩ := hbd2
            obtain ⟨mj, hmje⟩ : ∃ x, x = mr j := ⟨_, rfl⟩
            rw [← hmje] at hmn hmj
            simp only [← hmje]
            have HMn2 := hideH hmn
            have hj0 : decide ((j : Int) < 0) = false := by simp
            have hjn : decide (Z.n ≤ j) = false := by simp; omega
            have hji : (j : Int) < (Z.n : Int) := by omega
            clear hrow hrf hrt hmn hmje
            go_wp2_with fail
            go_quiet (fail)
            have hmx : max 0 (min 2029 rt - max 1970 rf + 1) = rt - rf + 1 := by omega
            rw [hmx]
            have Q3 : Hid (Below w.heap.size w (wr.drewN nq) ∧ Below w2.heap.size w2 (wr.drewN nq) ∧ (wr.drewN nq).heap[w.heap.size]? = some (.cells #[.slice (some ⟨sb, so, none⟩) D.ns D.sc, .slice (some ⟨b, off, none⟩) D.nz D.zc, .slice D.la D.nl D.lc] 26)) := ⟨below_drewN Q2.out.1 _, below_drewN Q2.out.2.1 _, Q2.out.2.2⟩
            clear hmx p0 p1 p2 s1 f0 f1
            go_wp2_with fail
            try simp only [← hra]
            go_roundw
            case rel => exact ⟨j + 1, by omega, by rw [HMn2.out]; congr 1; omega, by go_num, Q3⟩
            case measure => simp [intOf]; omega
          · obtain rfl : j = Z.n := by omega
            have hji : ¬ ((Z.n : Int) < (Z.n : Int)) := by omega
            go_wp2_with fail
            go_roundw
            case rel => first | exact ⟨i + 1, by omega, by rw [HSu2.out], by omega⟩ | exact ⟨i + 1, by omega, by rw [HSu2.out], by go_num, Q2⟩
            case measure => simp [intOf]; omega
    · obtain rfl : n = i := by omega
      have hii : ¬ ((n : Int) < (n : Int)) := by omega
      have hln := HMs.out n (Nat.le_refl _)
      go_upto_region 18 with fail
      clear p0 p1 p2 z0 z1
      rename World => wx0
      have Q4 := hideH Q1.out.1
      have T4 := hideH (T2.out.on Q1.out.2.1)
      have C4 := hideH Q1.out.2.2
      clear Q1 T2
      go_cut [13, 14] from 118 to 128 (fun x13 x14 wx => ∃ a3 c3, x13 = .slice a3 T c3 ∧ x14 = .int .i64 0 ∧ Hid (TuAt wx a3 T (tuF (cmpT D k))) ∧ Hid (Below wx0.heap.size wx0 wx))
      case first =>
        obtain ⟨p0, p1, p2⟩ := cells3 C4.out
        have z0 := cell_on HZc.out.1 Q4.out
        try simp only at z0
        have KS : Hid (∀ v : World, Below wx0.heap.size wx0 v → v.cell? ⟨w.heap.size, 0, none⟩ = some (.slice sa D.ns D.sc) ∧ v.cell? ⟨w.heap.size, 1, none⟩ = some (.slice (some ⟨b, off, none⟩) D.nz D.zc) ∧ v.cell? ⟨w.heap.size, 2, none⟩ = some (.slice D.la D.nl D.lc) ∧ v.cell? ⟨b, off + k * 2, none⟩ = some (.string (D.zs k).nm)) := fun v hv => ⟨cell_on p0 hv, cell_on p1 hv, cell_on p2 hv, cell_on z0 hv⟩
        have BR := (Below.refl wx0.heap.size wx0).drew
        go_region_held3 (fun v => v.cell? ⟨w.heap.size, 0, none⟩ = some (.slice sa D.ns D.sc) ∧ v.cell? ⟨w.heap.size, 1, none⟩ = some (.slice (some ⟨b, off, none⟩) D.nz D.zc) ∧ v.cell? ⟨w.heap.size, 2, none⟩ = some (.slice D.la D.nl D.lc) ∧ v.cell? ⟨b, off + k * 2, none⟩ = some (.string (D.zs k).nm))
          (first | (exact KS.out _ BR) | (exact KS.out _ (bthen BR hw6)))
          (first | (go_at_call 7; refine (HC2.out _ (by exact Q4.out.drew)).mono ?_; rintro e w6 ⟨a3, c3, rfl, t6, -, hw6⟩))
        all_goals
          go_wp2_with fail
          go_meet
          case rel => exact ⟨a3, c3, rfl, rfl, t6, bthen BR hw6⟩
      case rest =>
        obtain ⟨a3, c3, rfl, rfl, U5, HW5⟩ := hcut
        rename World => w5
        have H5 := hideH (bthen Q4.out HW5.out)
        have T5 := hideH (T4.out.on HW5.out)
        clear Q4 T4 C4 HW5
        go_wp2_with fail
        refine (HT.out _ H5.out).mono ?_
        rintro e w7 ⟨rfl, hw7⟩
        have H7 := hideH (bthen H5.out hw7)
        have T7 := hideH (T5.out.on hw7)
        have U7 := hideH (U5.out.on hw7)
        clear hw7 H5 T5 U5
        have hT1 : (T : Int) ≤ ms n := hmo.2
        have hT2 : (1 : Int) ≤ (T : Int) := by omega
        go_wp2_with fail
        refine (SameTurns_c a1 a3 T c1 c3 _ _ hm T7.out U7.out).mono ?_
        rintro e w8 ⟨rfl, hw8⟩
        have H8 := hideH (bthen H7.out hw8)
        clear hw8 H7 T7 U7
        go_wp2_with fail
        go_ret
        exact ⟨rfl, H8.out⟩
set_option maxRecDepth 100000 in
set_option maxHeartbeats 4000000 in
theorem TableMost_no (D : Dt) (s : ByteArray) (w : World) (hL : Laid w) (hM : Mx w) (hD : DAt w D) (hF : D.fits) (hs : s.size ≤ maxLen) (h0 : zonE D s ≠ 0) :
    Calls Tryz.prog 6 #[D.v, .string s] w fun e w' => e = .returned (.bool true) ∧ Below w.heap.size w w' := by
  have HL := hideH hL
  have HM := hideH hM
  have HD := hideH hD
  have HE : Hid (∀ v : World, Below w.heap.size w v → Env v D) := fun v h => ⟨HL.out.on h, HM.out.on h, HD.out.on h⟩
  have HC := hideH (fun v (hv : Below w.heap.size w v) => Compile_no D s v (HE.out v hv) hF hs h0)
  have HZ := hideH (fun v (hv : Below w.heap.size w v) => DZone_c D s v (HE.out v hv) hF hs)
  have HT := hideH (fun v (hv : Below w.heap.size w v) => tableBegun_c v (HL.out.on hv) (HM.out.on hv))
  have hb0 := hideH ((Below.refl _ w).alloc (Nat.le_refl _) (.cells (dC D) 26))
  have hc0 := hideH (World.alloc_heap_new w (.cells (dC D) 26))
  have hne : (zonE D s != 0) = true := by rw [bne_iff_ne]; exact h0
  generalize zonE D s = E at HC HZ hne
  generalize zonR D s = Z at HZ
  clear hL hM hD hF hs h0
  go_enter Tryz.func6, Tryz.ntmps6
  go_wp2_with fail
  refine (HC.out _ hb0.out).mono ?_
  rintro e w1 ⟨rfl, hw1⟩
  have H1 := hideH (bthen hb0.out hw1)
  have C1 := hideH (heap_on hc0.out hw1)
  clear hw1 hb0 hc0
  obtain ⟨p0, p1, p2⟩ := cells3 C1.out
  go_wp2_with fail
  clear p0 p1 p2
  refine (HZ.out _ H1.out).mono ?_
  rintro e w2 ⟨rfl, hw2⟩
  have H2 := hideH (bthen H1.out hw2)
  clear hw2 H1 C1
  go_wp2_with fail
  refine (HT.out _ H2.out).mono ?_
  rintro e w3 ⟨rfl, hw3⟩
  have H3 := hideH (bthen H2.out hw3)
  clear hw3 H2
  go_wp2_with fail
  go_ret
  exact ⟨rfl, H3.out⟩
theorem TableMost_w (D : Dt) (s : ByteArray) (w : World) (hL : Laid w) (hM : Mx w) (hD : DAt w D) (hF : D.fits) (hs : s.size ≤ maxLen) :
    Calls Tryz.prog 6 #[D.v, .string s] w fun e w' => e = .returned (.bool true) ∧ Below w.heap.size w w' := by
  by_cases h0 : zonE D s = 0
  · exact TableMost_ok D s w hL hM hD hF hs h0
  · exact TableMost_no D s w hL hM hD hF hs h0
end Go.Proofs.YtdffopkljomipaaGreatDoor
