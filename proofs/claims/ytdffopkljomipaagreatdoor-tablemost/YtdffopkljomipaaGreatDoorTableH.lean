/- The contract of table.begins. -/
import Derived.Test.YtdffopkljomipaaGreatDoorTableG
namespace Go.Proofs.YtdffopkljomipaaGreatDoor
open Go Go.RowKit Go.Maps Go.Sort
set_option linter.unusedVariables false

theorem wp_append_rowT {P : Program} (w : World) {o : Oper} {a : Act} {K : Act → World → Prop} {Q : Exit → Act → World → Prop} (s x : Operand) (t : TypeId)
    (ho : o.op = .call { callee := .builtin .append, args := #[s, x], argTypes := #[t, t] })
    (base : Nat) (e : TypeId) (i : TypeInfo) (z : Value) (size bytes : Nat) (ht : P.underlying t = some (.slice e)) (hi : P.info? e = some i) (hz : i.zero = some z)
    (hsize : i.size = size) (hby : i.bytes = bytes) (hzs : z.cells.size = size) (hsz : 0 < size)
    (v : Value) (n : Nat) (xs : List Value) (hs : a.eval s = v) (hown : w.ownsRow base e size v n xs)
    (ao : Option Addr) (m c : Nat) (news : List Value) (hx : a.eval x = .slice ao m c) (hl : news.length = m * size) (hnews : m = 0 ∨ ∃ ad, ao = some ad ∧ ∀ j u, news[j]? = some u → w.cell? (ad.add j) = some u) (h1 : ∀ u ∈ news, u.oneCell' = true)
    (h63 : n + m ≤ maxLen) (hbytes : (n + m) * bytes ≤ 140737488355328) (hbase : base ≤ w.heap.size)
    (h : ∀ v' w', w'.ownsRow base e size v' (n + m) (xs ++ news) → w.grownBy w' v.ownBlock → (v'.ownBlock = v.ownBlock ∨ v'.ownBlock = some w.heap.size) → K (a.put o.dst v') w') :
    Oper.wp P o a w K Q := by
  have key : ∃ v' w', (Builtin.append_ #[t, t] o.type #[v, .slice ao m c]).run P w = .ok v' w' ∧ w'.ownsRow base e size v' (n + m) (xs ++ news) ∧ w.grownBy w' v.ownBlock ∧ (v'.ownBlock = v.ownBlock ∨ v'.ownBlock = some w.heap.size) := by
    have hnil : m = 0 → news = [] := fun h => by
      subst h
      cases news with
      | nil => rfl
      | cons => simp at hl
    cases ao with
    | none =>
      rcases hnews with rfl | ⟨ad, h0, _⟩
      · rw [hnil rfl]
        exact ⟨v, w, run_append_void base t o.type e i size c ht hi v n xs hown, by simpa using hown, ⟨rfl, rfl, rfl, Nat.le_refl _, fun _ _ _ => rfl⟩, .inl rfl⟩
      · cases h0
    | some ad =>
      have hn : ∀ j u, news[j]? = some u → w.cell? (ad.add j) = some u := by
        rcases hnews with rfl | ⟨ad', h0, h⟩
        · intro j u hj
          rw [hnil rfl] at hj
          simp at hj
        · cases h0; exact h
      obtain ⟨v', w', hr, h2, h3, _, h5⟩ := run_append_own_at (P := P) w base t o.type e i z size bytes ht hi hz hsize hby hzs hsz v n xs hown ad m c news hl hn h1 h63 hbytes hbase
      exact ⟨v', w', hr, h2, h3, h5⟩
  obtain ⟨v', w', hr, h2, h3, h4⟩ := key
  unfold Oper.wp execOp
  simp only [ho, resolve, invoke, builtin, Sem.run_bind, Sem.run_pure, Result.andThen_ok, List.map_toArray, List.map_cons, List.map_nil, hs, hx, hr]
  exact h v' w' h2 h3 h4
theorem wpList_append_rowT {P : Program} (w : World) {ops : Array Oper} {rest : List Oper} {o : Oper} {a : Act} {Q : Exit → Act → World → Prop} (hgd : o.guard = none) (s x : Operand) (t : TypeId)
    (ho : o.op = .call { callee := .builtin .append, args := #[s, x], argTypes := #[t, t] })
    (base : Nat) (e : TypeId) (i : TypeInfo) (z : Value) (size bytes : Nat) (ht : P.underlying t = some (.slice e)) (hi : P.info? e = some i) (hz : i.zero = some z)
    (hsize : i.size = size) (hby : i.bytes = bytes) (hzs : z.cells.size = size) (hsz : 0 < size)
    (v : Value) (n : Nat) (xs : List Value) (hs : a.eval s = v) (hown : w.ownsRow base e size v n xs)
    (ao : Option Addr) (m c : Nat) (news : List Value) (hx : a.eval x = .slice ao m c) (hl : news.length = m * size) (hnews : m = 0 ∨ ∃ ad, ao = some ad ∧ ∀ j u, news[j]? = some u → w.cell? (ad.add j) = some u) (h1 : ∀ u ∈ news, u.oneCell' = true)
    (h63 : n + m ≤ maxLen) (hbytes : (n + m) * bytes ≤ 140737488355328) (hbase : base ≤ w.heap.size)
    (h : ∀ v' w', w'.ownsRow base e size v' (n + m) (xs ++ news) → w.grownBy w' v.ownBlock → (v'.ownBlock = v.ownBlock ∨ v'.ownBlock = some w.heap.size) → wpList P ops Q rest (a.put o.dst v') w') : wpList P ops Q (o :: rest) a w :=
  wpList_plain hgd fun _ hK => wp_append_rowT w s x t ho base e i z size bytes ht hi hz hsize hby hzs hsz v n xs hs hown ao m c news hx hl hnews h1 h63 hbytes hbase fun v' w' h2 h3 h4 => hK _ _ (h v' w' h2 h3 h4)
theorem own_news {w : World} {base n : Nat} {e : TypeId} {v : Value} {xs : List Value} (h : w.ownsRow base e 1 v n xs) : ∃ a c, v = .slice a n c ∧ xs.length = n * 1 ∧ (n = 0 ∨ ∃ ad, a = some ad ∧ ∀ j u, xs[j]? = some u → w.cell? (ad.add j) = some u) := by
  have hl := h.1
  rcases h.2 with ⟨rfl, h0⟩ | ⟨g, cap, cur, rfl, hb, hg, hn, hm, hs, ht⟩
  · subst h0
    exact ⟨none, 0, rfl, hl, .inl rfl⟩
  · refine ⟨_, cap, rfl, hl, .inr ⟨_, rfl, fun j u hj => ?_⟩⟩
    have hjl : j < n * 1 := by have := (List.getElem?_eq_some_iff.1 hj).1; omega
    have hadd : (⟨g, 0, none⟩ : Addr).add j = ⟨g, j, none⟩ := by unfold Addr.add; split <;> simp_all
    rw [hadd, h.cellAt j hjl]
    exact hj
theorem ruN_succ (D : Dt) (fr : Int) (x : Er) (m : Nat) : ruN D fr x (m + 1) = ruN D fr x m ++ wiL ((D.ss x.set.toNat).rs m) fr x.un x.std := by
  unfold ruN
  rw [List.range_succ, List.flatMap_append]
  simp
theorem wiL_len {r : Rl} (h : rchk r = 0) (fr un std : Int) : (wiL r fr un std).length ≤ 60 := by
  have hb := bnd_of (rchk_bnd h)
  have := wiN_len r fr un std (r.t - r.f + 1).toNat
  unfold wiL
  omega
theorem ruN_len {D : Dt} {fr : Int} {x : Er} : ∀ m, (∀ i, i < m → rchk ((D.ss x.set.toNat).rs i) = 0) → (ruN D fr x m).length ≤ 60 * m
  | 0, _ => by simp [ruN]
  | m + 1, h => by
    have h1 := ruN_len (D := D) (fr := fr) (x := x) m (fun i hi => h i (by omega))
    have h2 := wiL_len (h m (by omega)) fr x.un x.std
    rw [ruN_succ, List.length_append]
    omega
theorem encI_one (l : List Int) : ∀ u ∈ l.map encI, u.oneCell' = true := by
  intro u hu
  obtain ⟨a, _, rfl⟩ := List.mem_map.1 hu
  rfl
set_option maxRecDepth 100000 in
set_option maxHeartbeats 8000000 in
theorem Tbegins_c (D : Dt) (fr : Int) (x : Er) (w : World) (hL : Laid w) (hD : DAt w D) (hF : D.fits) (hc : chkE D = 0) (h1 : -50400 ≤ x.std) (h2 : x.std ≤ 50400) (h3 : -1 ≤ x.set) (h4 : x.set < D.ns) :
    Calls Tryz.prog 17 #[.slice D.sa D.ns D.sc, .int .i64 fr, x.v] w fun e w' => riP (bgL D fr x) w e w' := by
  obtain ⟨i0, hi, hz0, hz1, hz2⟩ := info_parts info_int
  have bx := two_boxes w (.cells x.cs 50) (.cells #[.int .i64 fr] 3)
  obtain ⟨W0, hW0⟩ : ∃ W0, W0 = (w.alloc (.cells x.cs 50)).alloc (.cells #[.int .i64 fr] 3) := ⟨_, rfl⟩
  have O0 : Hid (W0.ownsRow (w.heap.size + 1) 3 1 (.slice (some ⟨w.heap.size + 1, 0, none⟩) 1 1) 1 [.int .i64 fr]) := by
    show World.ownsRow _ _ _ _ _ _ _
    have h := World.ownsRow_lit (base := w.heap.size + 1) (size := 1) (w.alloc (.cells x.cs 50)) #[.int .i64 fr] 1 (by simp) (by unfold maxLen; omega) rfl (e := 3)
    rw [World.size_alloc] at h
    rw [hW0]
    exact h
  rw [← hW0] at bx
  have HB0 := hideH bx.1
  have HE0 := hideH bx.2.1
  have HL := hideH hL
  have HD := hideH hD
  have hns := hF.ns
  unfold maxLen at hns
  simp only [Er.cs] at hW0
  obtain ⟨sd, st, sv, fm, un⟩ := x
  simp only at h1 h2 h3 h4
  by_cases hset : 0 ≤ st
  · obtain ⟨s, rfl⟩ : ∃ s : Nat, st = s := ⟨st.toNat, by omega⟩
    have hsn : s < D.ns := by omega
    have hst : ((s : Int)).toNat = s := by omega
    have hn4 := ((chk_all hc).1.2.1 s hsn).2
    have HRk : Hid (∀ i, i < (D.ss s).n → rchk ((D.ss s).rs i) = 0) := fun i hi => chk_rule hc hsn hi
    have HWi : Hid (∀ i v, i < (D.ss s).n → Below w.heap.size w v → Calls Tryz.prog 32 #[((D.ss s).rs i).v, .int .i64 fr, .agg #[.int .i64 sd, .int .i64 s, .int .i64 sv, .string fm, .int .i64 un]] v fun e w' => riP (wiL ((D.ss s).rs i) fr un sd) v e w') := fun i v hi hv =>
      Twithin_c ((D.ss s).rs i) fr ⟨sd, s, sv, fm, un⟩ v (HL.out.on hv) (HRk.out i hi) h1 h2 (hF.lt s hsn i hi)
    have HLn : Hid (∀ m, m ≤ (D.ss s).n → (ruN D fr ⟨sd, s, sv, fm, un⟩ m).length ≤ 60 * m) := fun m hm => ruN_len m (fun i hi => HRk.out i (by omega))
    have HW60 : Hid (∀ i, i < (D.ss s).n → (wiL ((D.ss s).rs i) fr un sd).length ≤ 60) := fun i hi => wiL_len (HRk.out i hi) _ _ _
    have HSu : Hid (∀ m, ruN D fr ⟨sd, s, sv, fm, un⟩ (m + 1) = ruN D fr ⟨sd, s, sv, fm, un⟩ m ++ wiL ((D.ss s).rs m) fr un sd) := fun m => ruN_succ D fr ⟨sd, s, sv, fm, un⟩ m
    have HBg : Hid (bgL D fr ⟨sd, s, sv, fm, un⟩ = srtI (fr :: ruN D fr ⟨sd, s, sv, fm, un⟩ (D.ss s).n)) := by show _ = _; unfold bgL bgU; rw [if_pos hset]; rfl
    have HR0 : Hid (ruN D fr ⟨sd, s, sv, fm, un⟩ 0 = []) := rfl
    rw [HBg.out]
    obtain ⟨ru, hru⟩ : ∃ ru : Nat → List Int, ru = ruN D fr ⟨sd, s, sv, fm, un⟩ := ⟨_, rfl⟩
    rw [← hru] at HLn HSu HR0 ⊢
    have hsi : (s : Int) < (D.ns : Int) := by omega
    have HA0 : Hid (∀ v, Below w.heap.size w v → ARow v (D.ss s).a (D.ss s).n (D.ss s).c (D.ss s).rs) := fun v hv => (HD.out.on hv).rules s hsn
    rcases (HD.out.on HB0.out).sets with h0 | ⟨b, off, hsa, hcs⟩
    · omega
    have d1 : W0.cell? ⟨b, off + s * 2 + 1, none⟩ = some (.slice (D.ss s).a (D.ss s).n (D.ss s).c) := (hcs s hsn).2
    obtain ⟨Z, hZ⟩ : ∃ Z, Z = D.ss s := ⟨_, rfl⟩
    rw [← hZ] at d1 hn4 HRk HWi HLn HW60 HSu HA0 ⊢
    clear hL hD hF hc bx hst HBg hcs hZ hru HD HL
    simp only at hW0
    rw [hW0] at d1
    simp only [hsa]
    go_enter Tryz.func17, Tryz.ntmps17
    go_wp2_with fail
    simp only [← hW0]
    clear d1
    go_loopw [7, 22] (fun x7 x22 v => ∃ i : Nat, i ≤ Z.n ∧ x22 = .int .i64 i ∧ Hid (v.ownsRow (w.heap.size + 1) 3 1 x7 (fr :: ru i).length ((fr :: ru i).map encI)) ∧ Hid (Below w.heap.size w v) ∧ Hid (v.heap[w.heap.size]? = some (.cells #[.int .i64 sd, .int .i64 s, .int .i64 sv, .string fm, .int .i64 un] 50))) (fun _ x22 _ => Z.n - (intOf x22).toNat)
    case atStart => exact ⟨0, Nat.zero_le _, rfl, by show World.ownsRow _ _ _ _ _ _ _; rw [HR0.out]; exact O0.out, HB0, HE0⟩
    case round =>
      obtain ⟨i, hiN, rfl, QO, QW, QE⟩ := hrel
      have hl1 := HLn.out i hiN
      by_cases hlt : i < Z.n
      · rcases HA0.out _ QW.out with h0 | ⟨rb, ro, hra, hrow⟩
        · omega
        obtain ⟨f0, f1, f2, f3, f4, f5, f6, f7, f8⟩ := hrow i hlt
        clear hrow
        have hii : (i : Int) < (Z.n : Int) := by omega
        have bz := (Below.refl _ wr).alloc (Nat.le_refl _) (.cells (Z.rs i).cs 57)
        have BZ := hideH (bthen QW.out bz)
        have OZ := hideH (own_onT QO.out bz)
        have EZ := hideH (heap_on QE.out bz)
        have hwi := HWi.out i _ hlt BZ.out
        have hrb := rbox_of (World.alloc_heap_new wr (.cells (Z.rs i).cs 57))
        have heb : ∀ o, o < 5 → (wr.alloc (.cells (Z.rs i).cs 57)).cell? ⟨w.heap.size, o, none⟩ = #[Value.int .i64 sd, .int .i64 s, .int .i64 sv, .string fm, .int .i64 un][o]? := fun o ho => by simp [World.cell?, EZ.out, ho]
        have g0 := heb 0 (by omega)
        have g1 := heb 1 (by omega)
        have g2 := heb 2 (by omega)
        have g3 := heb 3 (by omega)
        have g4 := heb 4 (by omega)
        simp only [Rl.cs, Rl.v] at hwi g0 g1 g2 g3 g4
        simp at g0 g1 g2 g3 g4
        have HW1 := hideH hwi
        have h60 := HW60.out i hlt
        have hs3 := QW.out.size
        have hwl : w.heap.size < wr.heap.size := (Array.getElem?_eq_some_iff.1 QE.out).1
        clear bz heb hwi hrb
        go_wp2_with fail
        refine HW1.out.mono ?_
        rintro e w3 ⟨v3, rfl, ho3, hw3⟩
        obtain ⟨a3, k3, rfl, hl3, hn3⟩ := own_news ho3
        have B3 := hideH (bthen BZ.out hw3)
        have O3 := hideH (own_onT OZ.out hw3)
        have E3 := hideH (heap_on EZ.out hw3)
        have N3 := hideH hn3
        have S3 : Hid (w.heap.size + 1 ≤ w3.heap.size) := (Array.getElem?_eq_some_iff.1 E3.out).1
        have hlen : (fr :: ru i).length = (ru i).length + 1 := rfl
        rw [hlen] at O3
        clear hw3 ho3 hn3 BZ OZ EZ HW1 f0 f1 f2 f3 f4 f5 f6 f7 f8 g0 g1 g2 g3 g4 hlen
        go_wp2_with (at_builtin; refine wpList_append_rowT _ rfl _ _ 62 rfl (w.heap.size + 1) 3 i0 (.int .i64 0) 1 8 Tryz.underlying62 hi hz0 hz1 hz2 rfl (by decide) _ _ _ rfl O3.out a3 _ k3 ((wiL (Z.rs i) fr un sd).map encI) rfl hl3 N3.out (encI_one _) (by unfold maxLen; omega) (by omega) S3.out ?_; intro v5 w5 hown5 hgrow5 hat5)
        have O5 : Hid (w5.ownsRow (w.heap.size + 1) 3 1 v5 (fr :: ru (i + 1)).length ((fr :: ru (i + 1)).map encI)) := by
          show World.ownsRow _ _ _ _ _ _ _
          have e : (fr :: ru (i + 1)) = (fr :: ru i) ++ wiL (Z.rs i) fr un sd := by rw [HSu.out]; rfl
          rw [e, List.map_append, List.length_append]
          exact hown5
        have B5 : Hid (Below w.heap.size w w5) := B3.out.grown hgrow5 (by have := B3.out.size; omega) (fun q hq => by have := (own_lt O3.out hq).1; omega)
        have E5 := hideH (heap_grown E3.out hgrow5 (far_box O3.out (by omega)))
        clear hown5 hgrow5 hat5 O3 B3 E3 N3 S3
        try simp only [← hra]
        go_roundw
        case rel => exact ⟨i + 1, by omega, by go_num, O5, B5, E5⟩
        case measure => simp [intOf]; omega
      · obtain rfl : i = Z.n := by omega
        have hii : ¬ ((Z.n : Int) < (Z.n : Int)) := by omega
        have HS := hideH (SortI_c u7 (fr :: ru Z.n) (w.heap.size + 1) wr QO.out (by simp only [List.length_cons]; omega))
        have HSl : Hid ((srtI (fr :: ru Z.n)).length = (fr :: ru Z.n).length) := List.length_mergeSort _
        go_wp2_with fail
        refine HS.out.mono ?_
        rintro e w2 ⟨rfl, hown, hgr⟩
        have B2 := hideH (QW.out.grown hgr (by have := QW.out.size; omega) (fun q hq => by have := (own_lt QO.out hq).1; omega))
        have O2 := hideH hown
        clear hown hgr
        go_wp2_with fail
        go_ret
        unfold riP
        exact ⟨_, rfl, by rw [HSl.out]; exact owns_mono O2.out (by omega), B2.out⟩
  · have HBg : Hid (bgL D fr ⟨sd, st, sv, fm, un⟩ = srtI [fr]) := by show _ = _; unfold bgL bgU; rw [if_neg hset]
    rw [HBg.out]
    have hst : st < 0 := by omega
    have HS := hideH (SortI_c (.slice (some ⟨w.heap.size + 1, 0, none⟩) 1 1) [fr] (w.heap.size + 1) W0 O0.out (by simp))
    have HSl : Hid ((srtI [fr]).length = 1) := List.length_mergeSort _
    clear hL hD hF hc bx HBg HD HL hset
    simp only at hW0
    rw [hW0] at HS
    go_enter Tryz.func17, Tryz.ntmps17
    go_wp2_with fail
    refine HS.out.mono ?_
    rintro e w2 ⟨rfl, hown, hgr⟩
    rw [← hW0] at hgr
    have B2 := hideH (HB0.out.grown hgr (by have := HB0.out.size; omega) (fun q hq => by have := (own_lt O0.out hq).1; omega))
    have O2 := hideH hown
    clear hown hgr HS
    go_wp2_with fail
    go_ret
    unfold riP
    exact ⟨_, rfl, by rw [HSl.out]; exact owns_mono O2.out (by omega), B2.out⟩
end Go.Proofs.YtdffopkljomipaaGreatDoor
