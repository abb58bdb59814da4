import PyProof.Rows.All
import Wide.All
import OpenK.AllK
import Wide.FinOn
import HandS.ForMost
import HandS.Walk
import HandS.IsInst
import HandS.WideBits
import HandS.RaiseMore
import HandS.Defaults
import PyProof.ReprRoads
import PyProof.ReprLen
import PyProof.StrLawsRepr
import HandS.EndBits
import PySem.Challenge.RW_backwater_k11_names
set_option Elab.async false
set_option linter.all false
set_option maxRecDepth 100000
namespace K11
open PySem PySem.Spec PyProof.Rows L2
/-! ### the text -/
def tp (i : Nat) : Stmt := PySem.Challenge.pw_backwater_k11_names.main.body.getD i (.Pass ⟨0, 0, 0, 0⟩)
abbrev sName : Stmt := tp 3
abbrev sPot : Stmt := tp 5
abbrev sDraw : Stmt := tp 6
abbrev sWord : Stmt := tp 7
abbrev sSign : Stmt := tp 8
abbrev sSpoilt : Stmt := tp 9
abbrev sOdd : Stmt := tp 10
abbrev sDrawn : Stmt := tp 11
abbrev sDue : Stmt := tp 12
abbrev sSame : Stmt := tp 13
abbrev sLaw : Stmt := tp 14
theorem scDraw : FnScope ["_law_pot_here", "_law_many", "_law_digit"] ["_law_pot_here", "_law_many"] (defScope sDraw) :=
  ⟨rfl, rfl, rfl, by decide +kernel, rfl, by decide +kernel, by decide +kernel⟩
theorem scPot : FnScope ["_law_script", "_law_k", "_law_cell"] ["_law_script", "_law_k"] (defScope sPot) :=
  ⟨rfl, rfl, rfl, by decide +kernel, rfl, by decide +kernel, by decide +kernel⟩
/-! ### the pot -/
def PotOk (a b : Int) : Prop := 0 ≤ a ∧ 0 ≤ b ∧ b < 4294967296
def PotAt (H : Hp) (p : Addr) : Prop := ∃ a b, H p = some (.lst [.int a, .int b]) ∧ PotOk a b
/-- all but the object at p stays -/
def Kp (p : Addr) (H H' : Hp) : Prop := ∀ b o, b ≠ p → H b = some o → H' b = some o
theorem Kp.trans {p : Addr} {H H1 H2 : Hp} (x : Kp p H H1) (y : Kp p H1 H2) : Kp p H H2 := fun b o n e => y b o n (x b o n e)
theorem Kp.refl (p : Addr) (H : Hp) : Kp p H H := fun _ _ _ e => e
theorem Kp.new {p q : Addr} {H : Hp} {o : HO} (h : H q = none) : Kp p H (upd H q o) := fun b u _ e => by
  rw [upd_ne (ne_of_none e h)]; exact e
theorem Kp.here {p : Addr} {H : Hp} {o : HO} : Kp p H (upd H p o) := fun b u n e => by
  rw [upd_ne n]; exact e
theorem same_new {H : Hp} {p : Addr} {o : HO} (h : H p = none) : Same H (upd H p o) := fun b x e => by
  rw [upd_ne (ne_of_none e h)]; exact e
theorem no_pylong {i j : Int} (h0 : 0 < j) (h1 : j < 1073741824) : CDivP i j := by
  refine ⟨h0, ?_⟩
  have hn : j.natAbs < 2 ^ 30 := by omega
  have hl : j.natAbs.log2 < 30 := by
    rw [Nat.log2_lt (by omega)]; exact hn
  have hd : j.natAbs.log2 / 30 = 0 := Nat.div_eq_of_lt hl
  unfold Builtin.divisionGoesByPylong
  simp only [hd]
  split <;> simp
section
variable {P : Program} {w : World} {K : PySem.W.Frag} {mg : Str → Option Value} {base : Heap}
/-! ### draw -/
def spDraw : Sp := fun vs H Q _ => ∃ (p : Addr) (m : Int), vs = [.ref p, .int m] ∧ PotAt H p ∧ 0 < m ∧ m < 1000 ∧
  ∀ d H', Kp p H H' → PotAt H' p → 0 ≤ d → d < m → Q (.int d) H'
theorem ok_draw {f : Addr} {fd : FuncData} {k : Nat} (F : Fun K "_law_draw" "_law_draw" sDraw f fd) (md : mg "divmod" = none) :
    FnOk P w K mg base CX0 (k + 1) f fd ["_law_pot_here", "_law_many"] spDraw := by
  refine F.ok scDraw (fun vs H Q E h => ?_) (fun cdv A outer s H vs Q E hr h => ?_)
  · obtain ⟨p, m, rfl, _⟩ := h
    rfl
  · obtain ⟨p, m, rfl, ⟨a, b, hp, ha, hb, hb2⟩, m0, m1, q⟩ := h
    refine ⟨_, pss_cons (ps_if (pt_cmpR op_gt (pe_ix ix_list (pv 0) pe_int (fun _ _ => rfl)) pe_int (nomark _))
        (pss_cons (ps_asg (pe_callB call_divmodW (by rfl) md (by decide +kernel) (pa_cons (pe_ix ix_list (pv 0) pe_int (fun _ _ => rfl)) (pa_cons (pv 1) pa_nil)))
            (pg_tup rfl (pgs_cons (pg_sub (pv 0) pe_int set_list) (pgs_cons (pg_name (i := 2) scDraw.nd rfl (.inl rfl)) pgs_nil))))
          (pss_one (ps_ret (pv 2)))) pss_nil)
      (pss_cons (ps_asg (pe_op op_mod (pe_op op_add (pe_op op_mul (pe_ix ix_list (pv 0) pe_int (fun _ _ => rfl)) pe_int) pe_int) pe_int) (pg_sub (pv 0) pe_int set_list))
      (pss_one (ps_ret (pe_op op_mod (pe_op op_fdiv (pe_op op_mod (pe_op op_mul (pe_ix ix_list (pv 0) pe_int (fun _ _ => rfl)) (pe_ix ix_list (pv 0) pe_int (fun _ _ => rfl))) pe_int) pe_int) (pv 1))))), ?_⟩
    have i0 : atI [V.int a, V.int b] 0 = some (.int a) := atI_nat (j := 0) rfl
    have i1 : atI [V.int a, V.int b] 1 = some (.int b) := atI_nat (j := 1) rfl
    refine ⟨.ref p, rfl, p, _, 0, _, rfl, rfl, SqL.of hp, i0, _, _, rfl, rfl, _, rfl, ite2 (fun e => ?_) (fun e => ?_)⟩
    · -- pot[0], digit = divmod(pot[0], many)
      refine ⟨.ref p, rfl, p, _, 0, _, rfl, rfl, SqL.of hp, i0, .int m, rfl, a, m, rfl, no_pylong m0 (by omega), fun T nT => ?_⟩
      have nTp : p ≠ T := ne_of_none hp nT
      have hp1 : (upd H T (.tup [.int (a / m), .int (a % m)])) p = some (.lst [.int a, .int b]) := by rw [upd_ne nTp]; exact hp
      refine ⟨T, [.int (a / m), .int (a % m)], rfl, .inl (.inl upd_same), rfl, .int (a / m), [.int (a % m)], rfl, ?_⟩
      refine ⟨.ref p, rfl, p, _, 0, 0, rfl, rfl, hp1, rfl, ?_⟩
      refine ⟨.int (a % m), [], rfl, rfl, .int (a % m), rfl, ?_⟩
      refine q (a % m) _ ((Kp.new nT).trans Kp.here) ⟨a / m, b, upd_same, Int.ediv_nonneg ha (by omega), hb, hb2⟩ (Int.emod_nonneg _ (by omega)) (Int.emod_lt_of_pos _ m0)
    · refine ⟨.ref p, rfl, p, _, 1, _, rfl, rfl, SqL.of hp, i1, b, 48271, rfl, rfl, .inr ⟨by decide, by decide⟩, _, _, rfl, rfl, _, _, rfl, rfl, (by show (0 : Int) < 2147483647; decide), ?_⟩
      refine ⟨.ref p, rfl, p, _, 1, 1, rfl, rfl, hp, rfl, ?_⟩
      obtain ⟨c, hc⟩ : ∃ c, c = (b * 48271 + 20011) % 2147483647 := ⟨_, rfl⟩
      have c0 : 0 ≤ c := by rw [hc]; exact Int.emod_nonneg _ (by decide)
      have c1 : c < 2147483647 := by rw [hc]; exact Int.emod_lt_of_pos _ (by decide)
      have j1 : atI [V.int a, V.int c] 1 = some (.int c) := atI_nat (j := 1) rfl
      have hp2 : (upd H p (.lst ([V.int a, V.int b].set 1 (.int ((b * 48271 + 20011) % 2147483647))))) p = some (.lst [.int a, .int c]) := by
        rw [upd_same, ← hc]; rfl
      refine ⟨.ref p, rfl, p, _, 1, _, rfl, rfl, SqL.of hp2, j1, .ref p, rfl, p, _, 1, _, rfl, rfl, SqL.of hp2, j1, c, c, rfl, rfl, .inl ⟨by omega, by omega⟩, ?_⟩
      refine ⟨_, _, rfl, rfl, (by show (0 : Int) < 2147483629; decide), _, _, rfl, rfl, ⟨by decide, by decide⟩, .int m, rfl, _, m, rfl, rfl, m0, ?_⟩
      exact q _ _ Kp.here ⟨a, c, hp2, ha, c0, by omega⟩ (Int.emod_nonneg _ (by omega)) (Int.emod_lt_of_pos _ m0)
end
end K11
namespace K11
open PySem PySem.Spec PyProof.Rows L2
theorem scWord : FnScope ["_law_pot_here", "_law_size", "_law_k"] ["_law_pot_here", "_law_size"] (defScope sWord) :=
  ⟨rfl, rfl, rfl, by decide +kernel, rfl, by decide +kernel, by decide +kernel⟩
theorem scSign : FnScope ["_law_pot_here", "_law_signs"] ["_law_pot_here"] (defScope sSign) :=
  ⟨rfl, rfl, rfl, by decide +kernel, rfl, by decide +kernel, by decide +kernel⟩
theorem scSpoilt : FnScope ["_law_pot_here", "_law_word_here", "_law_at", "_law_way"] ["_law_pot_here", "_law_word_here"] (defScope sSpoilt) :=
  ⟨rfl, rfl, rfl, by decide +kernel, rfl, by decide +kernel, by decide +kernel⟩
/-! ### texts -/
/-- a text of at most n signs, each of which has a small code -/
def Sm (n : Nat) (z : Str) : Prop := z.length ≤ n ∧ ∀ c ∈ z.cps.toList, c < 1000
theorem len_list (z : Str) : z.length = z.cps.toList.length := by
  show z.cps.size = _
  rw [Array.length_toList]
theorem sign_at {z : Str} {d : Int} (h0 : 0 ≤ d) (h1 : d < z.length) : ∃ c, atI z.cps.toList d = some c ∧ c ∈ z.cps.toList := by
  obtain ⟨j, rfl⟩ : ∃ j : Nat, d = (j : Int) := ⟨d.toNat, by omega⟩
  have hj : j < z.cps.toList.length := by rw [← len_list]; omega
  exact ⟨z.cps.toList[j], atI_nat (List.getElem?_eq_getElem hj), List.getElem_mem hj⟩
theorem sm_sign {c : Nat} (h : c < 1000) : Sm 1 ⟨#[c]⟩ := ⟨Nat.le_refl _, fun x hx => by
  have : x = c := by simpa using hx
  omega⟩
theorem sm_add {m n : Nat} {x y : Str} (hx : Sm m x) (hy : Sm n y) : Sm (m + n) (x ++ y) := by
  refine ⟨?_, fun c hc => ?_⟩
  · rw [strLen_append]
    have := hx.1
    have := hy.1
    omega
  · rw [Str.cps_append, Array.toList_append] at hc
    rcases List.mem_append.mp hc with e | e
    · exact hx.2 c e
    · exact hy.2 c e
theorem sm_cut {n : Nat} {z : Str} (h : Sm n z) (lo hi : Option Int) : Sm n (cutS z lo hi) := by
  refine ⟨?_, fun c hc => ?_⟩
  · rw [len_list]
    unfold cutS
    rw [List.toList_toArray, List.length_take, List.length_drop]
    have := h.1
    rw [len_list] at this
    omega
  · unfold cutS at hc
    rw [List.toList_toArray] at hc
    exact h.2 c (List.mem_of_mem_drop (List.mem_of_mem_take hc))
theorem sm_empty : Sm 0 Str.empty := ⟨Nat.le_refl _, fun c hc => by simp [Str.empty] at hc⟩
/-- pieces of one sign each, joined without anything between -/
theorem join_nil_list : ∀ ys : List Str, (Txt.join Str.empty ys).cps.toList = (ys.map (fun y => y.cps.toList)).flatten := by
  intro ys
  rw [TL.join_eq]
  induction ys with
  | nil => rfl
  | cons x r ih =>
    cases r with
    | nil => simp [Str.join]
    | cons y r =>
      show (x ++ Str.empty ++ Str.join Str.empty (y :: r)).cps.toList = _
      rw [Str.cps_append, Array.toList_append, ih, Str.cps_append, Array.toList_append]
      simp [Str.empty]
theorem sm_join {ys : List Str} (h : ∀ y ∈ ys, Sm 1 y) : Sm ys.length (Txt.join Str.empty ys) := by
  refine ⟨?_, ?_⟩
  · rw [len_list, join_nil_list]
    induction ys with
    | nil => exact Nat.le_refl _
    | cons x r ih =>
      have h1 := (h x List.mem_cons_self).1
      rw [len_list] at h1
      have := ih fun y hy => h y (List.mem_cons_of_mem _ hy)
      simp only [List.map_cons, List.flatten_cons, List.length_append, List.length_cons]
      omega
  · intro c hc
    rw [join_nil_list] at hc
    obtain ⟨l, hl, hm⟩ := List.mem_flatten.mp hc
    obtain ⟨y, hy, rfl⟩ := List.mem_map.mp hl
    exact (h y hy).2 c hm
theorem lens_one : ∀ {ys : List Str}, (∀ y ∈ ys, Sm 1 y) → (ys.map (·.length)).sum ≤ ys.length
  | [], _ => Nat.le_refl _
  | y :: r, h => by
    have h1 := (h y List.mem_cons_self).1
    have h2 := lens_one (ys := r) fun z hz => h z (List.mem_cons_of_mem _ hz)
    simp only [List.map_cons, List.sum_cons, List.length_cons]
    omega
section
variable {P : Program} {w : World} {K : PySem.W.Frag} {mg : Str → Option Value} {base : Heap}
/-! ### pot -/
def spPot (K : PySem.W.Frag) : Sp := fun vs H Q _ => ∃ (a : Addr) (ns : List Int) (k : Int), vs = [.ref a, .int k] ∧ SqL K H a (ns.map V.int) ∧ 0 ≤ k ∧ k < 100 ∧
  ∀ H' p, Same H H' → H p = none → PotAt H' p → Q (.ref p) H'
theorem ok_pot {f : Addr} {fd : FuncData} {k : Nat} (F : Fun K "_law_pot" "_law_pot" sPot f fd) (ml : mg "len" = none) (mm : mg "max" = none) (ma : mg "abs" = none) :
    FnOk P w K mg base CX0 (k + 1) f fd ["_law_script", "_law_k"] (spPot K) := by
  refine F.ok scPot (fun vs H Q E h => ?_) (fun cdv A outer s H vs Q E hr h => ?_)
  · obtain ⟨a, ns, k, rfl, _⟩ := h
    rfl
  · obtain ⟨a, ns, k, rfl, hS, k0, k1, q⟩ := h
    refine ⟨_, pss_cons (ps_set (i := 2) scPot.nd rfl (.inl rfl) (pe_ifExp (pt_cmpR op_lt (pv 1) (pe_callB call_len_seq (by rfl) ml PySem.boot_len (pa_cons (pv 0) pa_nil)) (nomark _)) (pe_ix ix_list (pv 0) (pv 1) (fun _ _ => rfl)) pe_int))
      (pss_one (ps_ret (pe_lst (pa_cons (pe_callB (call_max2 rfl) (by rfl) mm (by decide +kernel) (pa_cons pe_int (pa_cons (pe_op op_sub (pe_callB call_abs (by rfl) ma (by decide +kernel) (pa_cons (pv 2) pa_nil)) (pe_op op_pow pe_int pe_int)) pa_nil)))
        (pa_cons (pe_op op_add (pe_op op_add (pe_op op_mod (pe_callB call_abs (by rfl) ma (by decide +kernel) (pa_cons (pv 2) pa_nil)) pe_int) (pe_op op_mul pe_int (pv 1))) pe_int) pa_nil))))), ?_⟩
    have done : ∀ n : Int, ∀ σ, σ = [some (V.ref a), some (.int k), some (.int n)] → True := fun _ _ _ => trivial
    refine ⟨.int k, rfl, .ref a, rfl, a, _, rfl, .inl hS, k, _, rfl, rfl, _, rfl, ite2 (fun e => ?_) (fun e => ?_)⟩
    · have e' : k < ((ns.map V.int).length : Int) := of_decide_eq_true e
      rw [List.length_map] at e'
      obtain ⟨j, rfl⟩ : ∃ j : Nat, k = (j : Int) := ⟨k.toNat, by omega⟩
      have hj : j < ns.length := by omega
      have g : (ns.map V.int)[j]? = some (.int ns[j]) := by
        rw [List.getElem?_map, List.getElem?_eq_getElem hj]; rfl
      refine ⟨.ref a, rfl, .int j, rfl, a, _, j, _, rfl, rfl, hS, atI_nat g, ?_⟩
      refine ⟨.int ns[j], rfl, _, rfl, 10, 18, rfl, rfl, ⟨by decide, by decide, by decide⟩, _, _, rfl, rfl, _, _, rfl, ?_⟩
      refine ⟨.int ns[j], rfl, _, rfl, _, _, rfl, rfl, (by show (0 : Int) < 2147483587; decide), .int j, rfl, 131, _, rfl, rfl, .inl ⟨by decide, by decide⟩, _, _, rfl, rfl, _, _, rfl, rfl, ?_⟩
      refine ⟨by show 2 ≤ sizeLine; decide, fun p np => ?_⟩
      refine q _ p (same_new np) np ⟨_, _, upd_same, ?_, ?_, ?_⟩
      · show (0 : Int) ≤ if _ > (0 : Int) then _ else 0
        split <;> omega
      · have := Int.emod_nonneg (if ns[j] < 0 then -ns[j] else ns[j]) (show (2147483587 : Int) ≠ 0 by decide)
        omega
      · have := Int.emod_lt_of_pos (if ns[j] < 0 then -ns[j] else ns[j]) (show (0 : Int) < 2147483587 by decide)
        omega
    · refine ⟨.int 0, rfl, _, rfl, 10, 18, rfl, rfl, ⟨by decide, by decide, by decide⟩, _, _, rfl, rfl, _, _, rfl, ?_⟩
      refine ⟨.int 0, rfl, _, rfl, _, _, rfl, rfl, (by show (0 : Int) < 2147483587; decide), .int k, rfl, 131, _, rfl, rfl, .inl ⟨by decide, by decide⟩, _, _, rfl, rfl, _, _, rfl, rfl, ?_⟩
      refine ⟨by show 2 ≤ sizeLine; decide, fun p np => ?_⟩
      refine q _ p (same_new np) np ⟨_, _, upd_same, ?_, ?_, ?_⟩
      · decide
      · show (0 : Int) ≤ 0 + 131 * k + 7
        omega
      · show (0 : Int) + 131 * k + 7 < _
        omega
/-! ### a word -/
def spWord : Sp := fun vs H Q _ => ∃ (p : Addr) (n : Int), vs = [.ref p, .int n] ∧ PotAt H p ∧ 0 ≤ n ∧ n ≤ 12 ∧
  ∀ z H', Kp p H H' → PotAt H' p → Sm 12 z → Q (.str z) H'
theorem ok_word {f fD : Addr} {fd fdD : FuncData} (F : Fun K "_law_word" "_law_word" sWord f fd) (FD : Fun K "_law_draw" "_law_draw" sDraw fD fdD) (bD : Binds K fdD ["_law_pot_here", "_law_many"] [])
    (gD : mg "_law_draw" = some (.ref fD)) (md : mg "divmod" = none) (mr : mg "range" = none) : FnOk P w K mg base CX0 2 f fd ["_law_pot_here", "_law_size"] spWord := by
  have GD : FnOk P w K mg base CX0 1 fD fdD ["_law_pot_here", "_law_many"] spDraw := ok_draw FD md
  refine F.ok scWord (fun vs H Q E h => ?_) (fun cdv A outer s H vs Q E hr h => ?_)
  · obtain ⟨p, n, rfl, _⟩ := h
    rfl
  · obtain ⟨p, n, rfl, hP, n0, n1, q⟩ := h
    refine ⟨_, pss_one (ps_ret (pe_join pe_str (pe_lc (own := [("_law_k", 2)]) (g := gName 2) (tt := tYes) rfl scWord.nd (pi_range1 (by rfl) mr (pa_cons (pv 1) pa_nil))
      (blkOk_by (N := ["_law_pot_here", "_law_size", "_law_k"]) (sc := defScope sWord) (by decide +kernel)) (fun _ _ _ _ _ => pg_name (i := 2) scWord.nd rfl (Or.inl rfl)) (fun _ _ _ _ _ => pts_nil)
      (fun _ _ _ _ _ => pe_ix ix_str pe_str (pe_call GD hr (by rfl) gD FD.kp bD .nil pass0 (pa_cons (pv 0) (pa_cons pe_int pa_nil))) (fun _ _ => rfl))))), ?_⟩
    refine ⟨⟨_, rfl⟩, .int n, rfl, n, rfl, by omega, by omega, fun D nD => ?_⟩
    refine lc_it (n := n.toNat) walk_range (fun i H1 => ∃ ys : List Str, H1 D = some (.lst (ys.map V.str)) ∧ ys.length = i ∧ (∀ y ∈ ys, Sm 1 y) ∧ Kp p H H1 ∧ PotAt H1 p) ?_ (fun _ _ _ _ => trivial) ?_ ?_
    · obtain ⟨a, b, hp, hab⟩ := hP
      have hn : D ≠ p := fun e => by subst e; rw [hp] at nD; cases nD
      refine ⟨[], upd_same, rfl, fun y hy => absurd hy List.not_mem_nil, Kp.new nD, a, b, ?_, hab⟩
      rw [upd_ne (Ne.symm hn)]; exact hp
    · rintro i x H1 H2 hi ⟨ys, hD, hl, hy, kp, hP1⟩ ⟨rfl, rfl⟩
      refine ⟨rfl, .ref p, rfl, p, 26, rfl, hP1, by decide, by decide, fun d H3 k3 hP3 d0 d1 => ?_⟩
      obtain ⟨c, hc, hm⟩ := sign_at (z := "abcdefghijklmnopqrstuvwxyz") d0 (by show d < 26; exact d1)
      have hDp : D ≠ p := fun e => by
        obtain ⟨a, b, hp, _⟩ := hP1
        subst e
        rw [hp] at hD
        cases ys with
        | nil => cases hD
        | cons y r => simp at hD
      refine ⟨_, d, c, rfl, rfl, by decide, hc, _, k3 _ _ hDp hD, ?_, ys ++ [⟨#[c]⟩], ?_, ?_, ?_, ?_, ?_⟩
      · rw [List.length_map, hl]; exact small1000 (by omega)
      · rw [upd_same, List.map_append]; rfl
      · rw [List.length_append, hl]; rfl
      · intro y hy'
        rcases List.mem_append.mp hy' with e | e
        · exact hy y e
        · have : y = ⟨#[c]⟩ := by simpa using e
          subst this
          exact sm_sign (by
            have : ∀ c ∈ (Str.ofString "abcdefghijklmnopqrstuvwxyz").cps.toList, c < 1000 := by decide +kernel
            exact this c hm)
      · intro b o nb e
        by_cases hb : b = D
        · subst hb; rw [e] at nD; cases nD
        · rw [upd_ne hb]
          exact k3 b o nb (kp b o nb e)
      · obtain ⟨a', b', hp', hab'⟩ := hP3
        exact ⟨a', b', by rw [upd_ne (Ne.symm hDp)]; exact hp', hab'⟩
    · rintro H1 ⟨ys, hD, hl, hy, kp, hP1⟩
      have hs := sm_join hy
      have hl1 := lens_one hy
      refine ⟨_, D, ys, rfl, rfl, .inl (SqL.of hD), ?_, ?_⟩
      · show (ys.map (·.length)).sum + ys.length * 0 ≤ _
        omega
      · exact q _ _ kp hP1 ⟨Nat.le_trans hs.1 (by omega), hs.2⟩
end
end K11
namespace K11
open PySem PySem.Spec PyProof.Rows L2
theorem scOdd : FnScope ["_law_pot_here", "_law_word_here", "_law_some"] ["_law_pot_here", "_law_word_here"] (defScope sOdd) :=
  ⟨rfl, rfl, rfl, by decide +kernel, rfl, by decide +kernel, by decide +kernel⟩
theorem scDrawn : FnScope ["_law_pot_here", "_law_way", "_law_word_here"] ["_law_pot_here"] (defScope sDrawn) :=
  ⟨rfl, rfl, rfl, by decide +kernel, rfl, by decide +kernel, by decide +kernel⟩
theorem PotAt.new {H : Hp} {p q : Addr} {o : HO} (h : PotAt H p) (n : H q = none) : PotAt (upd H q o) p := by
  obtain ⟨a, b, hp, hab⟩ := h
  exact ⟨a, b, by rw [upd_ne (ne_of_none hp n)]; exact hp, hab⟩
theorem PotAt.ne {H : Hp} {p q : Addr} (h : PotAt H p) (n : H q = none) : q ≠ p := by
  obtain ⟨a, b, hp, hab⟩ := h
  exact Ne.symm (ne_of_none hp n)
theorem PotAt.put {H : Hp} {p q : Addr} {o : HO} (h : PotAt H p) (n : q ≠ p) : PotAt (upd H q o) p := by
  obtain ⟨a, b, hp, hab⟩ := h
  exact ⟨a, b, by rw [upd_ne (Ne.symm n)]; exact hp, hab⟩
/-- the other things, by the word that they hold -/
inductive Odd (H : Hp) (z : Str) : V → Prop
  | non : Odd H z .non
  | bl (b : Bool) : Odd H z (.bl b)
  | int (i : Int) (h : i.natAbs < 2 ^ 200) : Odd H z (.int i)
  | l0 (a : Addr) (h : H a = some (.lst [])) : Odd H z (.ref a)
  | l1 (a : Addr) (h : H a = some (.lst [.str z])) : Odd H z (.ref a)
  | l2 (a b : Addr) (h : H a = some (.lst [.ref b])) (g : H b = some (.lst [.str z])) : Odd H z (.ref a)
  | t0 (a : Addr) (h : H a = some (.tup [])) : Odd H z (.ref a)
  | t1 (a : Addr) (h : H a = some (.tup [.str z])) : Odd H z (.ref a)
  | t2 (a : Addr) (h : H a = some (.tup [.str z, .str z])) : Odd H z (.ref a)
  | d0 (a : Addr) (h : H a = some (.dK [])) : Odd H z (.ref a)
  | d1 (a : Addr) (h : H a = some (.dK [(Sum.inr z, .int 1)])) : Odd H z (.ref a)
theorem Odd.mono {H H' : Hp} {z : Str} {v : V} (h : Odd H z v) (s : Same H H') : Odd H' z v := by
  cases h with
  | non => exact .non
  | bl b => exact .bl b
  | int i h => exact .int i h
  | l0 a h => exact .l0 a (s _ _ h)
  | l1 a h => exact .l1 a (s _ _ h)
  | l2 a b h g => exact .l2 a b (s _ _ h) (s _ _ g)
  | t0 a h => exact .t0 a (s _ _ h)
  | t1 a h => exact .t1 a (s _ _ h)
  | t2 a h => exact .t2 a (s _ _ h)
  | d0 a h => exact .d0 a (s _ _ h)
  | d1 a h => exact .d1 a (s _ _ h)
/-- what is drawn -/
def Thing (H : Hp) (v : V) : Prop := (∃ z, v = .str z ∧ Sm 25 z) ∨ ∃ z, Sm 25 z ∧ Odd H z v
theorem Thing.mono {H H' : Hp} {v : V} (h : Thing H v) (s : Same H H') : Thing H' v := by
  rcases h with ⟨z, e, hz⟩ | ⟨z, hz, o⟩
  · exact .inl ⟨z, e, hz⟩
  · exact .inr ⟨z, hz, o.mono s⟩
theorem Sm.mono {m n : Nat} {z : Str} (h : Sm m z) (l : m ≤ n) : Sm n z := ⟨Nat.le_trans h.1 l, h.2⟩
theorem Sm.fits {n : Nat} {z : Str} (h : Sm n z) (l : n ≤ 1000) : z.length ≤ sizeLine := Nat.le_of_lt (small1000 (Nat.le_trans h.1 l))
theorem Sm.fits2 {n : Nat} {x y : Str} (h : Sm n (x ++ y)) (l : n ≤ 1000) : x.length + y.length ≤ sizeLine := by
  rw [← strLen_append]; exact h.fits l
def sgs : Str := " !#$&'()*+,-./0123456789:;<=>?@ABCDEFGHIJKLMNOPQRSTUVWXYZ[]^_`abcdefghijklmnopqrstuvwxyz{|}~\"\\\n"
theorem sgs_len : sgs.length = 95 := by decide +kernel
theorem sgs_small : ∀ c ∈ sgs.cps.toList, c < 1000 := by decide +kernel
section
variable {P : Program} {w : World} {K : PySem.W.Frag} {mg : Str → Option Value} {base : Heap}
def spSign : Sp := fun vs H Q _ => ∃ p : Addr, vs = [.ref p] ∧ PotAt H p ∧ ∀ z H', Kp p H H' → PotAt H' p → Sm 1 z → Q (.str z) H'
theorem ok_sign {f fD : Addr} {fd fdD : FuncData} (F : Fun K "_law_sign" "_law_sign" sSign f fd) (FD : Fun K "_law_draw" "_law_draw" sDraw fD fdD) (bD : Binds K fdD ["_law_pot_here", "_law_many"] [])
    (gD : mg "_law_draw" = some (.ref fD)) (md : mg "divmod" = none) (ml : mg "len" = none) : FnOk P w K mg base CX0 2 f fd ["_law_pot_here"] spSign := by
  have GD : FnOk P w K mg base CX0 1 fD fdD ["_law_pot_here", "_law_many"] spDraw := ok_draw FD md
  refine F.ok scSign (fun vs H Q E h => ?_) (fun cdv A outer s H vs Q E hr h => ?_)
  · obtain ⟨p, rfl, _⟩ := h
    rfl
  · obtain ⟨p, rfl, hP, q⟩ := h
    refine ⟨_, pss_cons (ps_set (i := 1) scSign.nd rfl (.inl rfl) pe_str) (pss_one (ps_ret (pe_ix ix_str (pv 1)
      (pe_call GD hr (by rfl) gD FD.kp bD .nil pass0 (pa_cons (pv 0) (pa_cons (pe_callB call_len_str (by rfl) ml PySem.boot_len (pa_cons (pv 1) pa_nil)) pa_nil))) (fun _ _ => rfl)))), ?_⟩
    refine ⟨.str sgs, rfl, .ref p, rfl, .str sgs, rfl, sgs, rfl, by rw [sgs_len]; decide, p, _, rfl, hP, by rw [sgs_len]; decide, by rw [sgs_len]; decide, fun d H1 k1 hP1 d0 d1 => ?_⟩
    obtain ⟨c, hc, hm⟩ := sign_at (z := sgs) d0 d1
    exact ⟨sgs, d, c, rfl, rfl, by rw [sgs_len]; decide, hc, q _ _ k1 hP1 (sm_sign (sgs_small c hm))⟩
def spSpoilt : Sp := fun vs H Q _ => ∃ (p : Addr) (z : Str), vs = [.ref p, .str z] ∧ PotAt H p ∧ Sm 12 z ∧ ∀ y H', Kp p H H' → PotAt H' p → Sm 25 y → Q (.str y) H'
theorem ok_spoilt {f fD fS : Addr} {fd fdD fdS : FuncData} (F : Fun K "_law_spoilt" "_law_spoilt" sSpoilt f fd) (FD : Fun K "_law_draw" "_law_draw" sDraw fD fdD) (bD : Binds K fdD ["_law_pot_here", "_law_many"] [])
    (FS : Fun K "_law_sign" "_law_sign" sSign fS fdS) (bS : Binds K fdS ["_law_pot_here"] []) (gS : mg "_law_sign" = some (.ref fS))
    (gD : mg "_law_draw" = some (.ref fD)) (md : mg "divmod" = none) (ml : mg "len" = none) : FnOk P w K mg base CX0 3 f fd ["_law_pot_here", "_law_word_here"] spSpoilt := by
  have GD : FnOk P w K mg base CX0 1 fD fdD ["_law_pot_here", "_law_many"] spDraw := ok_draw FD md
  have GS : FnOk P w K mg base CX0 2 fS fdS ["_law_pot_here"] spSign := ok_sign FS FD bD gD md ml
  refine F.ok scSpoilt (fun vs H Q E h => ?_) (fun cdv A outer s H vs Q E hr h => ?_)
  · obtain ⟨p, z, rfl, _⟩ := h
    rfl
  · obtain ⟨p, z, rfl, hP, hz, q⟩ := h
    have hr1 := hr.mono (show 1 ≤ 2 by decide)
    refine ⟨_, pss_cons (ps_set (i := 2) scSpoilt.nd rfl (.inl rfl) (pe_call GD hr1 (by rfl) gD FD.kp bD .nil pass0 (pa_cons (pv 0) (pa_cons (pe_op op_add (pe_callB call_len_str (by rfl) ml PySem.boot_len (pa_cons (pv 1) pa_nil)) pe_int) pa_nil))))
      (pss_cons (ps_set (i := 3) scSpoilt.nd rfl (.inl rfl) (pe_call GD hr1 (by rfl) gD FD.kp bD .nil pass0 (pa_cons (pv 0) (pa_cons pe_int pa_nil))))
      (pss_cons (ps_if (pt_cmpR op_eq (pv 3) pe_int (nomark _)) (pss_one (ps_ret (pe_op op_add_str (pe_op op_add_str (pe_slice sl_str (pv 1) po_none (po_some (pv 2))) (pe_call GS hr (by rfl) gS FS.kp bS .nil pass0 (pa_cons (pv 0) pa_nil))) (pe_slice sl_str (pv 1) (po_some (pv 2)) po_none)))) pss_nil)
      (pss_cons (ps_if (pt_cmpR op_eq (pv 3) pe_int (nomark _)) (pss_one (ps_ret (pe_op op_add_str (pe_op op_add_str (pe_slice sl_str (pv 1) po_none (po_some (pv 2))) (pe_call GS hr (by rfl) gS FS.kp bS .nil pass0 (pa_cons (pv 0) pa_nil))) (pe_slice sl_str (pv 1) (po_some (pe_op op_add (pv 2) pe_int)) po_none)))) pss_nil)
      (pss_one (ps_ret (pe_op op_add_str (pe_slice sl_str (pv 1) po_none (po_some (pv 2))) (pe_slice sl_str (pv 1) (po_some (pe_op op_add (pv 2) pe_int)) po_none))))))), ?_⟩
    have hf := hz.fits (by decide)
    refine ⟨.ref p, rfl, .str z, rfl, z, rfl, hf, _, 1, rfl, rfl, p, _, rfl, hP, by omega, by have := hz.1; omega, fun d H1 k1 hP1 d0 d1 => ?_⟩
    refine ⟨.ref p, rfl, p, 3, rfl, hP1, by decide, by decide, fun e H2 k2 hP2 e0 e1 => ?_⟩
    have k12 := k1.trans k2
    refine ⟨.int e, rfl, rfl, _, rfl, ite2 (fun c => ?_) (fun c => ?_)⟩
    · refine ⟨.str z, rfl, .int d, rfl, d, rfl, z, rfl, hf, .ref p, rfl, p, rfl, hP2, fun y H3 k3 hP3 hy => ?_⟩
      have a1 := sm_add (sm_cut hz none (some d)) hy
      have a2 := sm_add a1 (sm_cut hz (some d) none)
      refine ⟨_, _, rfl, rfl, a1.fits2 (by decide), .str z, rfl, .int d, rfl, d, rfl, z, rfl, hf, _, _, rfl, rfl, a2.fits2 (by decide), ?_⟩
      exact q _ _ (k12.trans k3) hP3 a2
    · refine ⟨.int e, rfl, rfl, _, rfl, ite2 (fun c => ?_) (fun c => ?_)⟩
      · refine ⟨.str z, rfl, .int d, rfl, d, rfl, z, rfl, hf, .ref p, rfl, p, rfl, hP2, fun y H3 k3 hP3 hy => ?_⟩
        have a1 := sm_add (sm_cut hz none (some d)) hy
        have a2 := sm_add a1 (sm_cut hz (some (d + 1)) none)
        refine ⟨_, _, rfl, rfl, a1.fits2 (by decide), .str z, rfl, .int d, rfl, d, 1, rfl, rfl, d + 1, rfl, z, rfl, hf, _, _, rfl, rfl, a2.fits2 (by decide), ?_⟩
        exact q _ _ (k12.trans k3) hP3 a2
      · have a2 := sm_add (sm_cut hz none (some d)) (sm_cut hz (some (d + 1)) none)
        refine ⟨.str z, rfl, .int d, rfl, d, rfl, z, rfl, hf, .str z, rfl, .int d, rfl, d, 1, rfl, rfl, d + 1, rfl, z, rfl, hf, _, _, rfl, rfl, a2.fits2 (by decide), ?_⟩
        exact q _ _ k12 hP2 (a2.mono (by decide))
def spOdd : Sp := fun vs H Q _ => ∃ (p : Addr) (z : Str), vs = [.ref p, .str z] ∧ PotAt H p ∧ Sm 12 z ∧ ∀ v H', Kp p H H' → PotAt H' p → Odd H' z v → Q v H'
theorem ok_odd {f fD : Addr} {fd fdD : FuncData} (F : Fun K "_law_odd" "_law_odd" sOdd f fd) (FD : Fun K "_law_draw" "_law_draw" sDraw fD fdD) (bD : Binds K fdD ["_law_pot_here", "_law_many"] [])
    (gD : mg "_law_draw" = some (.ref fD)) (md : mg "divmod" = none) (ml : mg "len" = none) : FnOk P w K mg base CX0 2 f fd ["_law_pot_here", "_law_word_here"] spOdd := by
  have GD : FnOk P w K mg base CX0 1 fD fdD ["_law_pot_here", "_law_many"] spDraw := ok_draw FD md
  refine F.ok scOdd (fun vs H Q E h => ?_) (fun cdv A outer s H vs Q E hr h => ?_)
  · obtain ⟨p, z, rfl, _⟩ := h
    rfl
  · obtain ⟨p, z, rfl, hP, hz, q⟩ := h
    refine ⟨_, pss_cons (ps_set (i := 2) scOdd.nd rfl (.inl rfl) (pe_lst (pa_cons pe_non (pa_cons pe_bl (pa_cons pe_bl (pa_cons pe_int (pa_cons pe_int (pa_cons (pe_un un_neg pe_int) (pa_cons (pe_op op_pow pe_int pe_int)
        (pa_cons (pe_lst pa_nil) (pa_cons (pe_tup pa_nil) (pa_cons pe_dnewK (pa_cons (pe_lst (pa_cons (pv 1) pa_nil)) (pa_cons (pe_tup (pa_cons (pv 1) pa_nil))
        (pa_cons (pe_disp (pps_cons (pv 1) pe_int pps_nil) (by rfl) (by rfl) (fun z => by cases z) (by decide))
        (pa_cons (pe_lst (pa_cons (pe_lst (pa_cons (pv 1) pa_nil)) pa_nil)) (pa_cons (pe_tup (pa_cons (pv 1) (pa_cons (pv 1) pa_nil))) pa_nil)))))))))))))))))
      (pss_one (ps_ret (pe_ix ix_list (pv 2) (pe_call GD hr (by rfl) gD FD.kp bD .nil pass0 (pa_cons (pv 0) (pa_cons (pe_callB call_len_seq (by rfl) ml PySem.boot_len (pa_cons (pv 2) pa_nil)) pa_nil))) (fun _ _ => rfl)))), ?_⟩
    have sl : ∀ n : Nat, n ≤ 1000 → n ≤ sizeLine := fun n h => Nat.le_of_lt (small1000 h)
    refine ⟨1, rfl, 10, 39, rfl, rfl, ⟨by decide, by decide, by decide⟩, Nat.zero_le _, fun p1 n1 => ?_⟩
    refine ⟨Nat.zero_le _, fun p2 n2 => ?_⟩
    refine fun p3 n3 => ?_
    refine ⟨.str z, rfl, sl 1 (by decide), fun p4 n4 => ?_⟩
    refine ⟨.str z, rfl, sl 1 (by decide), fun p5 n5 => ?_⟩
    refine fun p6 n6 => ?_
    refine ⟨.str z, rfl, upd_same, [(Sum.inr z, .int 1)], rfl, (by show 1 ≤ 15; decide), ?_⟩
    refine ⟨.str z, rfl, sl 1 (by decide), fun p7 n7 => ?_⟩
    refine ⟨sl 1 (by decide), fun p8 n8 => ?_⟩
    refine ⟨.str z, rfl, .str z, rfl, sl 2 (by decide), fun p9 n9 => ?_⟩
    refine ⟨sl 15 (by decide), fun L nL => ?_⟩
    have S1 : Same H _ := same_new (o := .lst []) n1
    have S2 := same_new (o := .tup []) n2
    have S3 := same_new (o := .dK []) n3
    have S4 := same_new (o := .lst [.str z]) n4
    have S5 := same_new (o := .tup [.str z]) n5
    have S6 := (same_new (o := .dK []) n6)
    have P1 := hP.new (o := .lst []) n1
    have P2 := P1.new (o := .tup []) n2
    have P3 := P2.new (o := .dK []) n3
    have P4 := P3.new (o := .lst [.str z]) n4
    have P5 := P4.new (o := .tup [.str z]) n5
    have P6 := (P5.new (o := .dK []) n6).put (o := .dK (mergeK [] [(Sum.inr z, .int 1)])) (P5.ne n6)
    have S6' : Same _ _ := fun b x e => (show (upd (upd _ p6 (.dK [])) p6 (.dK (mergeK [] [(Sum.inr z, .int 1)]))) b = some x by
      have nb : b ≠ p6 := ne_of_none e n6
      rw [upd_ne nb, upd_ne nb]; exact e)
    have S7 := same_new (o := .lst [.str z]) n7
    have P7 := P6.new (o := .lst [.str z]) n7
    have S8 := same_new (o := .lst [.ref p7]) n8
    have P8 := P7.new (o := .lst [.ref p7]) n8
    have S9 := same_new (o := .tup [.str z, .str z]) n9
    have P9 := P8.new (o := .tup [.str z, .str z]) n9
    obtain ⟨its, hits⟩ : ∃ its : List V, its = [V.non, V.bl true, V.bl false, V.int 0, V.int 1, V.int (-1), V.int (10 ^ 39), V.ref p1, V.ref p2, V.ref p3, V.ref p4, V.ref p5, V.ref p6, V.ref p8, V.ref p9] := ⟨_, rfl⟩
    have SL := same_new (o := .lst its) nL
    have PL := P9.new (o := .lst its) nL
    have S89 := S8.trans (S9.trans SL)
    have S79 := S7.trans S89
    have S69 := S6'.trans S79
    have S59 := S5.trans S69
    have S49 := S4.trans S59
    have S39 := S3.trans S49
    have S29 := S2.trans S39
    have lL : its.length = 15 := by rw [hits]; rfl
    have kH : ∀ {b : Addr} {o : HO}, H b = some o → _ := fun {b o} e => S29 b o (S1 b o e)
    rw [show ([V.non, V.bl true, V.bl false, V.int 0, V.int 1, (fun (i : Int) => V.int (-i)) 1,
          (fun (i j : Int) => V.int (i ^ j.toNat)) 10 39, V.ref p1, V.ref p2, V.ref p3, V.ref p4, V.ref p5, V.ref p6, V.ref p8,
          V.ref p9] : List V) = its by rw [hits]; rfl]
    refine ⟨.ref L, rfl, .ref p, rfl, .ref L, rfl, L, its, rfl, .inl (SqL.of upd_same), p, _, rfl, PL, by rw [lL]; decide, by rw [lL]; decide, fun d H2 k2 hP2 d0 d1 => ?_⟩
    rw [lL] at d1
    obtain ⟨j, rfl⟩ : ∃ j : Nat, d = (j : Int) := ⟨d.toNat, by omega⟩
    have hj : j < its.length := by omega
    refine ⟨L, its, _, its[j], rfl, rfl, SqL.of (k2 L _ (P9.ne nL) upd_same), atI_nat (List.getElem?_eq_getElem hj), q _ _ (fun b o nb e => k2 b o nb (kH e)) hP2 ?_⟩
    have all : ∀ v ∈ its, Odd H2 z v := by
      intro v hv
      rw [hits] at hv
      simp only [List.mem_cons, List.not_mem_nil, or_false] at hv
      rcases hv with rfl | rfl | rfl | rfl | rfl | rfl | rfl | rfl | rfl | rfl | rfl | rfl | rfl | rfl | rfl
      · exact .non
      · exact .bl _
      · exact .bl _
      · exact .int _ (by decide)
      · exact .int _ (by decide)
      · exact .int _ (by decide)
      · exact .int _ (by decide)
      · exact .l0 _ (k2 _ _ (hP.ne n1) (S29 _ _ upd_same))
      · exact .t0 _ (k2 _ _ (P1.ne n2) (S39 _ _ upd_same))
      · exact .d0 _ (k2 _ _ (P2.ne n3) (S49 _ _ upd_same))
      · exact .l1 _ (k2 _ _ (P3.ne n4) (S59 _ _ upd_same))
      · exact .t1 _ (k2 _ _ (P4.ne n5) (S69 _ _ upd_same))
      · exact .d1 _ (k2 _ _ (P5.ne n6) (S79 _ _ upd_same))
      · exact .l2 _ p7 (k2 _ _ (P7.ne n8) ((S9.trans SL) _ _ upd_same)) (k2 _ _ (P6.ne n7) (S89 _ _ upd_same))
      · exact .t2 _ (k2 _ _ (P8.ne n9) (SL _ _ upd_same))
    exact all _ (List.getElem_mem hj)
end
end K11
namespace K11
open PySem PySem.Spec PyProof.Rows L2
theorem scName : FnScope ["thing", "letter"] ["thing"] (defScope sName) :=
  ⟨rfl, rfl, rfl, by decide +kernel, rfl, by decide +kernel, by decide +kernel⟩
theorem scDue : FnScope ["_law_some", "_law_sign_here"] ["_law_some"] (defScope sDue) :=
  ⟨rfl, rfl, rfl, by decide +kernel, rfl, by decide +kernel, by decide +kernel⟩
theorem scSame : FnScope ["_law_found", "_law_due"] ["_law_found", "_law_due"] (defScope sSame) :=
  ⟨rfl, rfl, rfl, by decide +kernel, rfl, by decide +kernel, by decide +kernel⟩
def abc : Str := "abcdefghijklmnopqrstuvwxyz"
/-- whether a text is a name -/
def nameB (z : Str) : Bool := decide (1 ≤ z.length ∧ z.length ≤ 8) && z.cps.toList.all fun c => decide (c ∈ abc.cps.toList)
def nm : V → Bool
  | .str z => nameB z
  | _ => false
theorem Thing.ty {K : PySem.W.Frag} {H : Hp} {v : V} (h : Thing H v) : (∃ z, v = .str z ∧ Sm 25 z) ∨ ∃ T, TyOf K H v (.type T) ∧ kitB T "str" = some false ∧ nm v = false := by
  rcases h with h | ⟨z, hz, o⟩
  · exact .inl h
  · refine .inr ?_
    cases o with
    | non => exact ⟨_, .non, by decide +kernel, rfl⟩
    | bl b => exact ⟨_, .bl b, by decide +kernel, rfl⟩
    | int i h => exact ⟨_, .int i, by decide +kernel, rfl⟩
    | l0 a h => exact ⟨_, .lst h, by decide +kernel, rfl⟩
    | l1 a h => exact ⟨_, .lst h, by decide +kernel, rfl⟩
    | l2 a b h g => exact ⟨_, .lst h, by decide +kernel, rfl⟩
    | t0 a h => exact ⟨_, .tup h, by decide +kernel, rfl⟩
    | t1 a h => exact ⟨_, .tup h, by decide +kernel, rfl⟩
    | t2 a h => exact ⟨_, .tup h, by decide +kernel, rfl⟩
    | d0 a h => exact ⟨_, .dK h, by decide +kernel, rfl⟩
    | d1 a h => exact ⟨_, .dK h, by decide +kernel, rfl⟩
section
variable {P : Program} {w : World} {K : PySem.W.Frag} {mg : Str → Option Value} {base : Heap}
def spDrawn : Sp := fun vs H Q _ => ∃ p : Addr, vs = [.ref p] ∧ PotAt H p ∧ ∀ v H', Kp p H H' → Thing H' v → Q v H'
theorem ok_drawn {f fD fS fW fO fT : Addr} {fd fdD fdS fdW fdO fdT : FuncData} (F : Fun K "_law_drawn" "_law_drawn" sDrawn f fd) (FD : Fun K "_law_draw" "_law_draw" sDraw fD fdD) (bD : Binds K fdD ["_law_pot_here", "_law_many"] [])
    (FS : Fun K "_law_sign" "_law_sign" sSign fS fdS) (bS : Binds K fdS ["_law_pot_here"] []) (gS : mg "_law_sign" = some (.ref fS))
    (FW : Fun K "_law_word" "_law_word" sWord fW fdW) (bW : Binds K fdW ["_law_pot_here", "_law_size"] []) (gW : mg "_law_word" = some (.ref fW))
    (FO : Fun K "_law_odd" "_law_odd" sOdd fO fdO) (bO : Binds K fdO ["_law_pot_here", "_law_word_here"] []) (gO : mg "_law_odd" = some (.ref fO))
    (FT : Fun K "_law_spoilt" "_law_spoilt" sSpoilt fT fdT) (bT : Binds K fdT ["_law_pot_here", "_law_word_here"] []) (gT : mg "_law_spoilt" = some (.ref fT))
    (gD : mg "_law_draw" = some (.ref fD)) (md : mg "divmod" = none) (ml : mg "len" = none) (mr : mg "range" = none) : FnOk P w K mg base CX0 4 f fd ["_law_pot_here"] spDrawn := by
  have GD : FnOk P w K mg base CX0 1 fD fdD ["_law_pot_here", "_law_many"] spDraw := ok_draw FD md
  have GW : FnOk P w K mg base CX0 2 fW fdW ["_law_pot_here", "_law_size"] spWord := ok_word FW FD bD gD md mr
  have GO : FnOk P w K mg base CX0 2 fO fdO ["_law_pot_here", "_law_word_here"] spOdd := ok_odd FO FD bD gD md ml
  have GT : FnOk P w K mg base CX0 3 fT fdT ["_law_pot_here", "_law_word_here"] spSpoilt := ok_spoilt FT FD bD FS bS gS gD md ml
  refine F.ok scDrawn (fun vs H Q E h => ?_) (fun cdv A outer s H vs Q E hr h => ?_)
  · obtain ⟨p, rfl, _⟩ := h
    rfl
  · obtain ⟨p, rfl, hP, q⟩ := h
    have hr1 := hr.mono (show 1 ≤ 3 by decide)
    have hr2 := hr.mono (show 2 ≤ 3 by decide)
    refine ⟨_, pss_cons (ps_set (i := 1) scDrawn.nd rfl (.inl rfl) (pe_call GD hr1 (by rfl) gD FD.kp bD .nil pass0 (pa_cons (pv 0) (pa_cons pe_int pa_nil))))
      (pss_cons (ps_set (i := 2) scDrawn.nd rfl (.inl rfl) (pe_call GW hr2 (by rfl) gW FW.kp bW .nil pass0 (pa_cons (pv 0) (pa_cons (pe_ix ix_list
        (pe_lst (pa_cons (pe_op op_add pe_int (pe_call GD hr1 (by rfl) gD FD.kp bD .nil pass0 (pa_cons (pv 0) (pa_cons pe_int pa_nil)))) (pa_cons (pe_call GD hr1 (by rfl) gD FD.kp bD .nil pass0 (pa_cons (pv 0) (pa_cons pe_int pa_nil))) pa_nil)))
        (pe_call GD hr1 (by rfl) gD FD.kp bD .nil pass0 (pa_cons (pv 0) (pa_cons pe_int pa_nil))) (fun _ _ => rfl)) pa_nil))))
      (pss_cons (ps_if (pt_cmpR op_eq (pv 1) pe_int (nomark _)) (pss_one (ps_ret (pe_call GT hr (by rfl) gT FT.kp bT .nil pass0 (pa_cons (pv 0) (pa_cons (pv 2) pa_nil))))) pss_nil)
      (pss_cons (ps_if (pt_cmpR op_eq (pv 1) pe_int (nomark _)) (pss_one (ps_ret (pe_call GO hr2 (by rfl) gO FO.kp bO .nil pass0 (pa_cons (pv 0) (pa_cons (pv 2) pa_nil))))) pss_nil)
      (pss_one (ps_ret (pv 2)))))), ?_⟩
    refine ⟨.ref p, rfl, p, 4, rfl, hP, by decide, by decide, fun d H1 k1 hP1 d0 d1 => ?_⟩
    refine ⟨.ref p, rfl, .ref p, rfl, p, 8, rfl, hP1, by decide, by decide, fun e H2 k2 hP2 e0 e1 => ?_⟩
    refine ⟨1, e, rfl, rfl, .ref p, rfl, p, 12, rfl, hP2, by decide, by decide, fun g H3 k3 hP3 g0 g1 => ?_⟩
    refine ⟨by show 2 ≤ sizeLine; decide, fun L nL => ?_⟩
    refine ⟨.ref p, rfl, p, 2, rfl, hP3.new nL, by decide, by decide, fun i H4 k4 hP4 i0 i1 => ?_⟩
    have hL : H4 L = some (.lst [.int (1 + e), .int g]) := k4 L _ (hP3.ne nL) upd_same
    have kk : Kp p H H4 := k1.trans (k2.trans (k3.trans ((Kp.new nL).trans k4)))
    obtain ⟨n, hn, n0, n1⟩ : ∃ n, atI [V.int (1 + e), V.int g] i = some (.int n) ∧ 0 ≤ n ∧ n ≤ 12 := by
      by_cases hi : i = 0
      · subst hi
        exact ⟨1 + e, atI_nat (j := 0) rfl, by omega, by omega⟩
      · have : i = 1 := by omega
        subst this
        exact ⟨g, atI_nat (j := 1) rfl, by omega, by omega⟩
    refine ⟨L, _, i, _, rfl, rfl, SqL.of hL, hn, p, n, rfl, hP4, n0, n1, fun z H5 k5 hP5 hz => ?_⟩
    refine ⟨.int d, rfl, rfl, _, rfl, ite2 (fun c => ?_) (fun c => ?_)⟩
    · exact ⟨.ref p, rfl, .str z, rfl, p, z, rfl, hP5, hz, fun y H6 k6 hP6 hy => q _ _ (kk.trans (k5.trans k6)) (.inl ⟨y, rfl, hy⟩)⟩
    · refine ⟨.int d, rfl, rfl, _, rfl, ite2 (fun c => ?_) (fun c => ?_)⟩
      · exact ⟨.ref p, rfl, .str z, rfl, p, z, rfl, hP5, hz, fun v H6 k6 hP6 ho => q _ _ (kk.trans (k5.trans k6)) (.inr ⟨z, hz.mono (by decide), ho⟩)⟩
      · exact ⟨.str z, rfl, q _ _ (kk.trans k5) (.inl ⟨z, rfl, hz.mono (by decide)⟩)⟩
/-! ### is_name -/
def spName : Sp := fun vs H Q _ => ∃ v : V, vs = [v] ∧ Thing H v ∧ ∀ H', Same H H' → Q (.bl (nm v)) H'
theorem ok_name {f : Addr} {fd : FuncData} {k : Nat} {tm tl : Tok} (F : Fun K "is_name" "is_name" sName f fd) (mi : mg "isinstance" = none) (ms : mg "str" = none) (ml : mg "len" = none) (ma : mg "all" = none)
    (gM : mg "MOST_LETTERS" = some (.int 8 tm)) (gL : mg "LETTERS" = some (.str abc tl)) : FnOk P w K mg base CX0 (k + 1) f fd ["thing"] spName := by
  refine F.ok scName (fun vs H Q E h => ?_) (fun cdv A outer s H vs Q E hr h => ?_)
  · obtain ⟨v, rfl, _⟩ := h
    rfl
  · obtain ⟨v, rfl, hT, q⟩ := h
    refine ⟨_, pss_cons (ps_if (PW.pt (pw_or (pt_not (pt_val (pe_callB call_isi (by rfl) mi (by decide +kernel) (pa_cons (pv 0) (pa_cons (pe_bltn (v := .ty "str") (by rfl) ms (by decide +kernel) rfl) pa_nil)))))
        (pw_or1 (pt_not (pt_chain op_le op_le pe_int (pe_callB call_len_str (by rfl) ml PySem.boot_len (pa_cons (pv 0) pa_nil)) (pe_glob (v := .int 8) rfl gM ⟨_, rfl⟩)))))) (pss_one (ps_ret pe_bl)) pss_nil)
      (pss_one (ps_ret (pe_callB (cr_all rfl) (by rfl) ma (by decide +kernel) (pa_cons (pe_lc (own := [("letter", 1)]) (g := gName 1) (tt := tYes) rfl scName.nd (pi_str (pv 0))
        (blkOk_by (N := ["thing", "letter"]) (sc := defScope sName) (by decide +kernel)) (fun _ _ _ _ _ => pg_name (i := 1) scName.nd rfl (Or.inl rfl)) (fun _ _ _ _ _ => pts_nil)
        (fun _ _ _ _ _ => pe_cmpR op_in_sign (pv 1) (pe_glob (v := .str abc) rfl gL ⟨_, rfl⟩) (by rfl))) pa_nil)))), ?_⟩
    rcases hT.ty (K := K) with ⟨z, rfl, hz⟩ | ⟨T, ty, kb, e⟩
    · refine ⟨.str z, rfl, .str z, .ty "str", .type "str", .type "str", true, rfl, .ty _, .base (.str z), kit_ty (by decide +kernel), true, rfl, ?_⟩
      refine iteF ?_
      have hf := hz.fits (by decide)
      have no : ¬ (1 ≤ z.length ∧ z.length ≤ 8) → nm (.str z) = false := fun h => by
        show nameB z = false
        unfold nameB
        rw [decide_eq_false h]; rfl
      refine ⟨.str z, rfl, z, rfl, hf, 1, _, rfl, rfl, _, rfl, ite2 (fun c1 => ?_) (fun c1 => ?_)⟩
      · refine ⟨_, _, rfl, rfl, _, rfl, ite2 (fun c2 => ?_) (fun c2 => ?_)⟩
        · have c3 : ¬ ((z.length : Int) ≤ 8) := fun e => by rw [decide_eq_true e] at c2; cases c2
          have := q H (Same.refl H)
          rw [no (by omega)] at this
          exact this
        · have c1' := of_decide_eq_true c1
          have c3 : (z.length : Int) ≤ 8 := by
            by_cases e : (z.length : Int) ≤ 8
            · exact e
            · rw [decide_eq_false e] at c2; exact absurd rfl c2
          refine ⟨.str z, rfl, z, rfl, fun D nD => ?_⟩
          refine lc_it walk_str (fun i H1 => ∃ bs : List Bool, H1 D = some (.lst (bs.map V.bl)) ∧ bs = (z.cps.toList.take i).map (fun c => decide (c ∈ abc.cps.toList)) ∧ Same H H1) ?_ (fun _ _ _ _ => trivial) ?_ ?_
          · exact ⟨[], upd_same, rfl, same_new nD⟩
          · rintro i x H1 H2 hi ⟨bs, hD, hb, sm⟩ ⟨rfl, c, hc, rfl⟩
            have hc' : z.cps.toList[i]? = some c := by rw [Array.getElem?_toList]; exact hc
            refine ⟨rfl, .str ⟨#[c]⟩, rfl, c, abc, rfl, rfl, _, hD, ?_, bs ++ [decide (c ∈ abc.cps.toList)], ?_, ?_, ?_⟩
            · rw [List.length_map, hb, List.length_map, List.length_take]
              exact small1000 (by have := hz.1; rw [len_list] at this; omega)
            · rw [upd_same, List.map_append]; rfl
            · rw [hb, List.take_add_one, hc', List.map_append]; rfl
            · exact fun b o e => by
                have nb : b ≠ D := ne_of_none e nD
                rw [upd_ne nb]; exact sm b o e
          · rintro H1 ⟨bs, hD, hb, sm⟩
            refine ⟨D, bs, rfl, SqL.of hD, ?_⟩
            have e : bs.all id = nm (.str z) := by
              show _ = nameB z
              unfold nameB
              rw [decide_eq_true (show 1 ≤ z.length ∧ z.length ≤ 8 by omega), hb, List.take_of_length_le (by rw [Array.length_toList]; exact Nat.le_refl _), List.all_map]
              rfl
            rw [e]
            exact q H1 sm
      · refine ⟨false, rfl, iteT ?_⟩
        have c3 : ¬ ((1 : Int) ≤ (z.length : Int)) := fun e => c1 (decide_eq_true e)
        have := q H (Same.refl H)
        rw [no (by omega)] at this
        exact this
    · refine ⟨v, rfl, v, .ty "str", .type T, .type "str", false, rfl, .ty _, .base ty, kit_ty kb, false, rfl, ?_⟩
      refine iteT (iteT ?_)
      have := q H (Same.refl H)
      rw [e] at this
      exact this
/-! ### what is due -/
theorem eqv_nil (ys : List Str) : PyData.eqv (.list (ys.map .str)) (.list []) = ys.isEmpty := by
  cases ys <;> rfl
theorem ok_sign1 {c : Nat} (h : c < 1000) : PyData.strOk ⟨#[c]⟩ = true := by
  unfold PyData.strOk
  simp
  omega
theorem lay_strs : ∀ ys : List Str, (∀ y ∈ ys, PyData.strOk y = true) → PyData.canLayAll0 (ys.map .str) = true
  | [], _ => rfl
  | y :: r, h => by
    show (PyData.canLay0 (.str y) && PyData.canLayAll0 (r.map .str)) = true
    rw [lay_strs r fun z hz => h z (List.mem_cons_of_mem _ hz)]
    show (PyData.strOk y && true) = true
    rw [h y List.mem_cons_self]; rfl
theorem depth_strs : ∀ ys : List Str, PyData.depthAll (ys.map .str) = 0
  | [] => rfl
  | y :: r => by
    show max (PyData.depth (.str y)) (PyData.depthAll (r.map .str)) = 0
    rw [depth_strs r]; rfl
theorem shaped_strs {ys : List Str} (h : ∀ y ∈ ys, PyData.strOk y = true) : SeqAt.shaped (.list (ys.map .str)) = true := by
  unfold SeqAt.shaped
  rw [show PyData.canLay0 (.list (ys.map .str)) = true by
    show PyData.canLayAll0 _ = true
    exact lay_strs ys h]
  rw [show PyData.depth (.list (ys.map .str)) = 1 by
    show PyData.depthAll _ + 1 = 1
    rw [depth_strs]]
  rfl
theorem dp_strs {K : PySem.W.Frag} {H : Hp} : ∀ ys : List Str, DpAll K H (ys.map V.str) (ys.map PyData.str)
  | [] => .nil
  | y :: r => .cons (.str y) (dp_strs r)
theorem filt_empty (p : Nat → Bool) (l : List Nat) : ((l.filter fun c => !p c).map (fun c => (⟨#[c]⟩ : Str))).isEmpty = l.all p := by
  induction l with
  | nil => rfl
  | cons c r ih =>
    rw [List.filter_cons, List.all_cons]
    cases h : p c with
    | true => simpa using ih
    | false => rfl
def spDue (K : PySem.W.Frag) : Sp := fun vs H Q _ => ∃ v : V, vs = [v] ∧ Thing H v ∧ ∀ H', Same H H' → Q (.bl (nm v)) H'
theorem ok_due {f : Addr} {fd : FuncData} {k : Nat} (F : Fun K "_law_is_name" "_law_is_name" sDue f fd) (mi : mg "isinstance" = none) (ms : mg "str" = none) (ml : mg "len" = none) :
    FnOk P w K mg base CX0 (k + 1) f fd ["_law_some"] (spDue K) := by
  refine F.ok scDue (fun vs H Q E h => ?_) (fun cdv A outer s H vs Q E hr h => ?_)
  · obtain ⟨v, rfl, _⟩ := h
    rfl
  · obtain ⟨v, rfl, hT, q⟩ := h
    refine ⟨_, pss_cons (ps_if (PW.pt (pw_or (pt_not (pt_val (pe_callB call_isi (by rfl) mi (by decide +kernel) (pa_cons (pv 0) (pa_cons (pe_bltn (v := .ty "str") (by rfl) ms (by decide +kernel) rfl) pa_nil)))))
        (pw_or1 (pt_not (pt_chain op_le op_le pe_int (pe_callB call_len_str (by rfl) ml PySem.boot_len (pa_cons (pv 0) pa_nil)) pe_int))))) (pss_one (ps_ret pe_bl)) pss_nil)
      (pss_one (ps_ret (pe_cmpR (op_eqD hr.units) (pe_lc (own := [("_law_sign_here", 1)]) (g := gName 1) rfl scDue.nd (pi_str (pv 0))
        (blkOk_by (N := ["_law_some", "_law_sign_here"]) (sc := defScope sDue) (by decide +kernel)) (fun _ _ _ _ _ => pg_name (i := 1) scDue.nd rfl (Or.inl rfl))
        (fun _ _ _ _ _ => pts_one (pt_cmpR op_notIn_sign (pv 1) pe_str (by rfl))) (fun _ _ _ _ _ => pv 1)) (pe_lst pa_nil) (nomark _)))), ?_⟩
    rcases hT.ty (K := K) with ⟨z, rfl, hz⟩ | ⟨T, ty, kb, e⟩
    · refine ⟨.str z, rfl, .str z, .ty "str", .type "str", .type "str", true, rfl, .ty _, .base (.str z), kit_ty (by decide +kernel), true, rfl, ?_⟩
      refine iteF ?_
      have hf := hz.fits (by decide)
      have no : ¬ (1 ≤ z.length ∧ z.length ≤ 8) → nm (.str z) = false := fun h => by
        show nameB z = false
        unfold nameB
        rw [decide_eq_false h]; rfl
      refine ⟨.str z, rfl, z, rfl, hf, 1, _, rfl, rfl, _, rfl, ite2 (fun c1 => ?_) (fun c1 => ?_)⟩
      · refine ⟨_, _, rfl, rfl, _, rfl, ite2 (fun c2 => ?_) (fun c2 => ?_)⟩
        · have c3 : ¬ ((z.length : Int) ≤ 8) := fun e => by rw [decide_eq_true e] at c2; cases c2
          have := q H (Same.refl H)
          rw [no (by omega)] at this
          exact this
        · have c1' := of_decide_eq_true c1
          have c3 : (z.length : Int) ≤ 8 := by
            by_cases e : (z.length : Int) ≤ 8
            · exact e
            · rw [decide_eq_false e] at c2; exact absurd rfl c2
          refine ⟨.str z, rfl, z, rfl, fun D nD => ?_⟩
          refine lc_it walk_str (fun i H1 => ∃ ys : List Str, H1 D = some (.lst (ys.map V.str)) ∧ ys = ((z.cps.toList.take i).filter (fun c => !decide (c ∈ abc.cps.toList))).map (fun c => (⟨#[c]⟩ : Str)) ∧ Same H H1) ?_ (fun _ _ _ _ => trivial) ?_ ?_
          · exact ⟨[], upd_same, rfl, same_new nD⟩
          · rintro i x H1 H2 hi ⟨ys, hD, hb, sm⟩ ⟨rfl, c, hc, rfl⟩
            have hc' : z.cps.toList[i]? = some c := by rw [Array.getElem?_toList]; exact hc
            refine ⟨rfl, .str ⟨#[c]⟩, rfl, c, abc, rfl, rfl, _, rfl, ite2 (fun t => ?_) (fun t => ?_)⟩
            · refine ⟨.str ⟨#[c]⟩, rfl, _, hD, ?_, ys ++ [⟨#[c]⟩], ?_, ?_, ?_⟩
              · rw [List.length_map, hb, List.length_map]
                have h1 := List.length_filter_le (fun c => !decide (c ∈ abc.cps.toList)) (z.cps.toList.take i)
                rw [List.length_take] at h1
                exact small1000 (by have := hz.1; rw [len_list] at this; omega)
              · rw [upd_same, List.map_append]; rfl
              · rw [hb, List.take_add_one, hc', List.filter_append, List.map_append]
                show _ = _ ++ List.map _ (List.filter _ [c])
                rw [List.filter_cons, if_pos t]; rfl
              · exact fun b o e => by
                  have nb : b ≠ D := ne_of_none e nD
                  rw [upd_ne nb]; exact sm b o e
            · refine ⟨ys, hD, ?_, sm⟩
              rw [hb, List.take_add_one, hc', List.filter_append, List.map_append]
              show _ = _ ++ List.map _ (List.filter _ [c])
              rw [List.filter_cons, if_neg t]
              simp
          · rintro H1 ⟨ys, hD, hb, sm⟩
            refine ⟨Nat.zero_le _, fun p np => ?_⟩
            have np' : D ≠ p := ne_of_none hD np
            have hlen : ys.length ≤ 60 := by
              rw [hb, List.length_map]
              have h1 := List.length_filter_le (fun c => !decide (c ∈ abc.cps.toList)) (z.cps.toList.take z.cps.size)
              rw [List.length_take] at h1
              have := hz.1
              rw [len_list] at this
              omega
            refine ⟨.list (ys.map .str), .list [], .lst (SqL.of (by rw [upd_ne np']; exact hD)) (dp_strs ys), .lst (SqL.of upd_same) .nil, ?_, by decide, ?_⟩
            · exact shaped_strs fun y hy => by
                rw [hb] at hy
                obtain ⟨c, hc, rfl⟩ := List.mem_map.mp hy
                exact ok_sign1 (hz.2 c (List.mem_of_mem_take ((List.mem_filter.mp hc).1)))
            · rw [eqv_nil, hb, List.take_of_length_le (by rw [Array.length_toList]; exact Nat.le_refl _), filt_empty]
              have e : z.cps.toList.all (fun c => decide (c ∈ abc.cps.toList)) = nm (.str z) := by
                show _ = nameB z
                unfold nameB
                rw [decide_eq_true (show 1 ≤ z.length ∧ z.length ≤ 8 by omega)]; rfl
              rw [e]
              exact q _ (sm.trans (same_new np))
      · refine ⟨false, rfl, iteT ?_⟩
        have c3 : ¬ ((1 : Int) ≤ (z.length : Int)) := fun e => c1 (decide_eq_true e)
        have := q H (Same.refl H)
        rw [no (by omega)] at this
        exact this
    · refine ⟨v, rfl, v, .ty "str", .type T, .type "str", false, rfl, .ty _, .base ty, kit_ty kb, false, rfl, ?_⟩
      refine iteT (iteT ?_)
      have := q H (Same.refl H)
      rw [e] at this
      exact this
/-! ### alike -/
def spSame : Sp := fun vs H Q _ => ∃ b : Bool, vs = [.bl b, .bl b] ∧ Q (.bl true) H
theorem ok_same {f : Addr} {fd : FuncData} {k : Nat} (F : Fun K "_law_same" "_law_same" sSame f fd) (mi : mg "isinstance" = none) (mb : mg "bool" = none) :
    FnOk P w K mg base CX0 (k + 1) f fd ["_law_found", "_law_due"] spSame := by
  refine F.ok scSame (fun vs H Q E h => ?_) (fun cdv A outer s H vs Q E hr h => ?_)
  · obtain ⟨b, rfl, _⟩ := h
    rfl
  · obtain ⟨b, rfl, q⟩ := h
    refine ⟨_, pss_one (ps_ret (pe_and (pe_callB call_isi (by rfl) mi (by decide +kernel) (pa_cons (pv 0) (pa_cons (pe_bltn (v := .ty "bool") (by rfl) mb (by decide +kernel) rfl) pa_nil))) (pe_one (pe_cmpR op_eq (pv 0) (pv 1) (nomark _))))), ?_⟩
    refine ⟨.bl b, rfl, .bl b, .ty "bool", .type "bool", .type "bool", true, rfl, .ty _, .base (.bl b), kit_ty (by decide +kernel), true, rfl, iteT ?_⟩
    refine ⟨.bl b, rfl, .bl b, rfl, rfl, ?_⟩
    rw [decide_eq_true rfl]
    exact q
end
end K11
namespace K11
open PySem PySem.Spec PyProof.Rows L2
/-! ### what is shown of a thing -/
inductive Dt (H : Hp) : V → PyData → Prop
  | str (z : Str) (h : Sm 25 z) : Dt H (.str z) (.str z)
  | non : Dt H .non .none
  | bl (b : Bool) : Dt H (.bl b) (.bool b)
  | int (i : Int) (h : i.natAbs < 2 ^ 200) : Dt H (.int i) (.int i)
  | l0 (a : Addr) (h : H a = some (.lst [])) : Dt H (.ref a) (.list [])
  | l1 (a : Addr) (z : Str) (s : Sm 25 z) (h : H a = some (.lst [.str z])) : Dt H (.ref a) (.list [.str z])
  | l2 (a b : Addr) (z : Str) (s : Sm 25 z) (h : H a = some (.lst [.ref b])) (g : H b = some (.lst [.str z])) : Dt H (.ref a) (.list [.list [.str z]])
  | t0 (a : Addr) (h : H a = some (.tup [])) : Dt H (.ref a) (.tuple [])
  | t1 (a : Addr) (z : Str) (s : Sm 25 z) (h : H a = some (.tup [.str z])) : Dt H (.ref a) (.tuple [.str z])
  | t2 (a : Addr) (z : Str) (s : Sm 25 z) (h : H a = some (.tup [.str z, .str z])) : Dt H (.ref a) (.tuple [.str z, .str z])
  | d0 (a : Addr) (h : H a = some (.dK [])) : Dt H (.ref a) (.dict [])
  | d1 (a : Addr) (z : Str) (s : Sm 25 z) (h : H a = some (.dK [(Sum.inr z, .int 1)])) : Dt H (.ref a) (.dict [(.str z, .int 1)])
theorem Thing.dt {H : Hp} {v : V} (h : Thing H v) : ∃ d, Dt H v d := by
  rcases h with ⟨z, rfl, hz⟩ | ⟨z, hz, o⟩
  · exact ⟨_, .str z hz⟩
  · cases o with
    | non => exact ⟨_, .non⟩
    | bl b => exact ⟨_, .bl b⟩
    | int i h => exact ⟨_, .int i h⟩
    | l0 a h => exact ⟨_, .l0 a h⟩
    | l1 a h => exact ⟨_, .l1 a z hz h⟩
    | l2 a b h g => exact ⟨_, .l2 a b z hz h g⟩
    | t0 a h => exact ⟨_, .t0 a h⟩
    | t1 a h => exact ⟨_, .t1 a z hz h⟩
    | t2 a h => exact ⟨_, .t2 a z hz h⟩
    | d0 a h => exact ⟨_, .d0 a h⟩
    | d1 a h => exact ⟨_, .d1 a z hz h⟩
theorem Dt.mono {H H' : Hp} {v : V} {d : PyData} (h : Dt H v d) (s : Same H H') : Dt H' v d := by
  cases h with
  | str z h => exact .str z h
  | non => exact .non
  | bl b => exact .bl b
  | int i h => exact .int i h
  | l0 a h => exact .l0 a (s _ _ h)
  | l1 a z k h => exact .l1 a z k (s _ _ h)
  | l2 a b z k h g => exact .l2 a b z k (s _ _ h) (s _ _ g)
  | t0 a h => exact .t0 a (s _ _ h)
  | t1 a z k h => exact .t1 a z k (s _ _ h)
  | t2 a z k h => exact .t2 a z k (s _ _ h)
  | d0 a h => exact .d0 a (s _ _ h)
  | d1 a z k h => exact .d1 a z k (s _ _ h)
theorem Sm.repr {n : Nat} {z : Str} (h : Sm n z) : (reprText z).length ≤ 10 * n + 2 := by
  have h1 := StrLaws.reprText_len z fun c hc => Nat.lt_trans (h.2 c hc) (by decide)
  have h2 := h.1
  omega
theorem line1000 {n : Nat} (h : n ≤ 1000) : n ≤ sizeLine := Nat.le_of_lt (small1000 h)
section
variable {X : Cx}
theorem sh1 (z : Str) (h : Sm 25 z) : (PyData.shown (.list [.str z])).length ≤ 260 := by
  have h1 := h.repr
  have h2 := listText_len_le [reprText z]
  simp only [List.map_cons, List.map_nil, List.sum_cons, List.sum_nil, List.length_cons, List.length_nil] at h2
  show (listText [reprText z]).length ≤ 260
  omega
theorem call_repr (hg : X.A.guards = some []) (hu : X.A.units + 64 < cLine) :
    CallR X (.builtin "repr") (fun xs H Q => ∃ v d, xs = [v] ∧ Dt H v d ∧ Q (.str d.shown) H) := by
  intro pins s σ H xs us Q I r h
  obtain ⟨v, d, rfl, dt, q⟩ := h
  obtain ⟨u, rfl, ru⟩ : ∃ u, us = [u] ∧ RelV v u := by
    cases r with
    | cons r1 r2 =>
      cases r2
      exact ⟨_, rfl, r1⟩
  have fin : ∀ (a : Addr) (e : PyData) (as : List Addr), v = .ref a → d = e → Reads s.heap (.ref a) e as → e.showable = true → (e.hasDict = true → sysModules ∉ as) → e.depth ≤ 5 → e.shown.length ≤ 1000 →
      wpAny (model X.prog X.w) X.A (call (.builtin "repr") [u]) (EP X pins σ Q) X.xe s := by
    intro a e as ev ed rd sh hs hd hl
    subst ev
    subst ed
    cases (show u = Value.ref a from ru)
    exact repr_of_reads' rd sh hs hg (by omega) (fun _ _ k => k) (fun h' t tk hk => ⟨.str _, H, I.kept hk, ⟨_, rfl⟩, q⟩) (line1000 hl)
  have lists : ∀ (a : Addr) (e : PyData), v = .ref a → d = e → Dp X.K H v e → e.showable = true → e.hasDict = false → e.depth ≤ 5 → e.shown.length ≤ 1000 →
      wpAny (model X.prog X.w) X.A (call (.builtin "repr") [u]) (EP X pins σ Q) X.xe s := by
    intro a e ev ed dp sh hs hd hl
    obtain ⟨as, rd⟩ := Dp.reads I e v u dp ru
    subst ev
    cases (show u = Value.ref a from ru)
    exact fin a e as rfl ed rd sh (PyData.noDict_hsm hs) hd hl
  cases dt with
  | str z h =>
    obtain ⟨t, rfl⟩ := (show ∃ t, u = Value.str z t from ru)
    exact PySem.P.repr_of_str ⟨.str _, H, I.tok _, ⟨_, rfl⟩, q⟩ (line1000 (by have := h.repr; omega))
  | non =>
    cases (show u = Value.none from ru)
    exact PySem.P.repr_of_none ⟨.str _, H, I.tok _, ⟨_, rfl⟩, q⟩
  | bl b =>
    cases (show u = Value.bool b from ru)
    exact PySem.P.repr_of_bool ⟨.str _, H, I.tok _, ⟨_, rfl⟩, q⟩
  | int i h =>
    obtain ⟨t, rfl⟩ := (show ∃ t, u = Value.int i t from ru)
    refine PySem.P.repr_of_int ?_ ⟨.str _, H, I.tok _, ⟨_, rfl⟩, q⟩
    by_cases e : i.natAbs = 0
    · rw [e]; decide
    · exact Nat.lt_trans ((Nat.log2_lt e).mpr h) (by decide)
  | l0 a h => exact lists a _ rfl rfl (.lst (SqL.of h) .nil) rfl rfl (by decide) (by decide)
  | l1 a z k h => exact lists a _ rfl rfl (.lst (SqL.of h) (.cons (.str z) .nil)) rfl rfl (by show max 0 0 + 1 ≤ 5; decide) (Nat.le_trans (sh1 z k) (by decide))
  | l2 a b z k h g =>
    refine lists a _ rfl rfl (.lst (SqL.of h) (.cons (.lst (SqL.of g) (.cons (.str z) .nil)) .nil)) rfl rfl (by show max (max 0 0 + 1) 0 + 1 ≤ 5; decide) ?_
    have h1 := sh1 z k
    have h2 := listText_len_le [PyData.shown (.list [.str z])]
    simp only [List.map_cons, List.map_nil, List.sum_cons, List.sum_nil, List.length_cons, List.length_nil] at h2
    show (listText [PyData.shown (.list [.str z])]).length ≤ 1000
    omega
  | t0 a h => exact lists a _ rfl rfl (.tup (SqT.of h) .nil) rfl rfl (by decide) (by decide)
  | t1 a z k h =>
    refine lists a _ rfl rfl (.tup (SqT.of h) (.cons (.str z) .nil)) rfl rfl (by show max 0 0 + 1 ≤ 5; decide) ?_
    have h1 := k.repr
    have h2 := tupleText_len_le [reprText z]
    simp only [List.map_cons, List.map_nil, List.sum_cons, List.sum_nil, List.length_cons, List.length_nil] at h2
    show (tupleText [reprText z]).length ≤ 1000
    omega
  | t2 a z k h =>
    refine lists a _ rfl rfl (.tup (SqT.of h) (.cons (.str z) (.cons (.str z) .nil))) rfl rfl (by show max 0 (max 0 0) + 1 ≤ 5; decide) ?_
    have h1 := k.repr
    have h2 := tupleText_len_le [reprText z, reprText z]
    simp only [List.map_cons, List.map_nil, List.sum_cons, List.sum_nil, List.length_cons, List.length_nil] at h2
    show (tupleText [reprText z, reprText z]).length ≤ 1000
    omega
  | d0 a h =>
    obtain ⟨_, ns, vs, kv, o, es, ep, ho, hx, hd, _, hp, _⟩ := (show ObjOk X.prog X.w H s.heap a (.dK []) from I.hok a _ h)
    cases kv
    have he : es.toList = [] := by
      generalize es.toList = l at hp
      cases hp
      rfl
    have rd : Reads s.heap (.ref a) (.dict []) _ := Reads.dict (kvs := []) ho hx.1 hd (by rw [he]; exact .nil) (by rw [he]; exact .nil)
    refine fin a _ _ rfl rfl rd rfl (fun _ hm => ?_) (by decide) (by decide)
    have : sysModules = a := by simpa using hm
    rw [this] at ns
    simp at ns
  | d1 a z k h =>
    obtain ⟨_, ns, vs, kv, o, es, ep, ho, hx, hd, ko, hp, hnd⟩ := (show ObjOk X.prog X.w H s.heap a (.dK [(Sum.inr z, .int 1)]) from I.hok a _ h)
    cases kv with
    | cons k1 k2 =>
      cases k2
      rename_i kv1
      obtain ⟨key, val⟩ := kv1
      obtain ⟨e1, t1, e2⟩ := k1
      have e1' : Sum.inr z = key := e1
      have e2' : val = Value.int 1 t1 := e2
      subst e1'
      subst e2'
      obtain ⟨l, hl⟩ : ∃ l, l = es.toList := ⟨_, rfl⟩
      rw [← hl] at hp
      cases hp with
      | cons c1 c2 c3 =>
        cases c3
        rename_i e
        have c1' : keyIs (Sum.inr z) e.key = true := c1
        rcases keyIs_shape c1' with ⟨i, t, q1, _⟩ | ⟨x, t, q1, q2⟩
        · cases q1
        · cases q1
          have c2' : e.val = Value.int 1 t1 := c2
          have rd : Reads s.heap (.ref a) (.dict [(.str z, .int 1)]) _ := Reads.dict (kvs := [(.str z, .int 1)]) ho hx.1 hd
            (by rw [← hl]; show ReadsAll _ [e.key] [.str z] _; rw [q2]; exact .cons (.str z t) .nil) (by rw [← hl]; show ReadsAll _ [e.val] [.int 1] _; rw [c2']; exact .cons (.int 1 t1) .nil)
          refine fin a _ _ rfl rfl rd (by rfl) (fun _ hm => ?_) (by show max (max 0 0) 0 + 1 ≤ 5; decide) ?_
          · have : sysModules = a := by simpa using hm
            rw [this] at ns
            simp at ns
          · have h1 := k.repr
            have h2 := dictText_len_le [reprText z ++ ": " ++ PyData.shown (.int 1)]
            simp only [List.map_cons, List.map_nil, List.sum_cons, List.sum_nil, List.length_cons, List.length_nil] at h2
            rw [strLen_append, strLen_append] at h2
            have h3 : (PyData.shown (.int 1)).length = 1 := by decide +kernel
            have h4 : (Str.ofString ": ").length = 2 := by decide +kernel
            show (dictText [reprText z ++ ": " ++ PyData.shown (.int 1)]).length ≤ 1000
            omega
/-- f(k = v), by name alone -/
theorem pe_kw {CX : CXT} {k : Nat} {f : Addr} {fd : FuncData} {ps ks : List Str} {sp : Sp} {E : XK} {x : Str} {p pos : Pos} {kws : List Keyword} {tk : TA} {g : List Value → List Value → List Value} {gV : List V → List V → List V}
    (F : FnOk X.prog X.w X.K X.mg X.base CX k f fd ps sp) (hr : Room k X.A) (hg : Gl X x) (hm : X.mg x = some (.ref f)) (hk : PySem.W.keepIn X.K (.ref f) = true) (hb : KBn X.K fd ps 0 ks g gV) (hx : Passes CX X E) (hkw : PK X kws tk)
    (hall : (backToKw pos (keywordEach kws X.env)).all (·.1.isSome) = true := by rfl)
    (hks : (backToKw pos (keywordEach kws X.env)).filterMap (·.1) = ks := by rfl)
    (hdb : (x == ("__debug__" : Str)) = false := by decide)
    (hpl : ((backTo pos (starEach [] X.env)).any (·.1) || (backToKw pos (keywordEach kws X.env)).any (·.1.isNone)) = false := by rfl) :
    PE X (.Call (.Name x p) [] kws pos) (tCallN 0 ks.length sp gV E tNil tk) := by
  refine ⟨fun pn s σ H Q I h => wpAny_Call_Name_kw (ld_glob I hg hm ?_ hdb)⟩
  refine PySem.W.callWith_KW0 (h₀ := X.base) I.ok.mod.kin hk hall ?_ hpl
  refine thn (hkw.run pos pn s σ H _ I h) fun ws s2 hh => ?_
  obtain ⟨zs, H2, I2, rz, _, l2, q2⟩ := hh
  rw [hks]
  exact ⟨I2.kIn, run_fnN (us := []) (vs := []) F hr hb hx I2 .nil rz rfl l2 q2⟩
end
section
variable {K : PySem.W.Frag}
theorem kw_name {f : Addr} {fd : FuncData} (F : Fun K "is_name" "is_name" sName f fd) : KBn K fd ["thing"] 0 ["thing"] (fun us ws => us ++ ws) (fun vs zs => vs ++ zs) := by
  obtain ⟨oc, od, kV, doc, pm, an, cdv, ct, osl, rfl, lk, hcd⟩ := F.ex
  refine ⟨fun s us ws _ l1 l2 => ?_, fun r1 r2 => r1.append r2⟩
  match us, l1, ws, l2 with
  | [], _, [v], _ => exact .of_eq rfl
end
end K11
namespace K11
open PySem PySem.Spec PyProof.Rows L2
/-! ### a def run where what stands around is known -/
section
variable {P : Program} {w : World} {K : PySem.W.Frag} {mg : Str → Option Value} {base : Heap}
theorem run_here {x qual : Str} {st : Stmt} {f : Addr} {fd : FuncData} {N ps : List Str} {k : Nat} (F : Fun K x qual st f fd) (S : FnScope N ps (defScope st)) (A : Around)
    {outer : List Env} {s : Shared} {H : Hp} {args : Args} {us : List Value} {vs : List V} {Q : VK} {E : XK}
    (body : ∀ cdv : Value, Room k (A.deeper (envOfC qual (defScope st) s.heap.objs.size f cdv)) →
      ∃ t, PSs (cxOf CX0 P w K mg base N qual (defScope st) f cdv A outer s H E).nox (defBody st) t ∧ t ⟨fun _ H' => Q .non H', Q, fun _ _ => False, fun _ _ => False⟩ (L2.start N vs) H)
    (hr : Room (k + 1) A) (e0 : Env0 P w K mg base A outer s H) (hb : BindsTo s fd args (ps.zip us)) (r : Vals vs us) (hl : vs.length = ps.length) :
    codeAny (model P w) A (.call (.ref f) args) (CR CX0 outer P w H s Q E) s := by
  obtain ⟨oc, od, kV, doc, pm, an, cdv, ct, osl, rfl, lk, hcd⟩ := F.ex
  have X1 : K.In s.heap := e0.mod.kin.keeps (fun b o e => (e0.bs b o e).1)
  have X2 : s.heap.NoLimit := e0.mod.nolimit.keeps (fun b o e => (e0.bs b o e).1)
  refine codeAny_call_function hr.depth (X1 _ _ lk) rfl S.co S.gen rfl
    (PySem.W.codeRec_of X1 hcd) (hb _ _ _ _ ?_)
  refine wpAny_newFunctionEnv_cells S.kind ?_ (fun env he s1 y => ?_)
  · rintro ⟨n, v⟩ hy
    rcases S.par n (List.of_mem_zip hy).1 with z | z
    · exact Or.inl z
    · exact Or.inr ⟨z, PySem.W.cellsFrom_some _ _ _ (Or.inl z)⟩
  · subst he
    refine ⟨X2.keeps y.toInCall.keep, codeAny_func ?_⟩
    obtain ⟨t, ht, hq⟩ := body cdv (hr.deeper _)
    have I : Inv (cxOf CX0 P w K mg base N qual (defScope st) f cdv A outer s H E) [] (L2.start N vs) H s1 :=
      inv_start S hr.hd e0 hl r y
    refine wpAny_mono ((PSs.nox ht).run [] s1 (L2.start N vs) H _ I hq) ?_ (fun _ _ z => z)
    intro fl s' hs
    cases fl with
    | ret u =>
      obtain ⟨v, σ', H', J, rv, q⟩ := hs
      exact ⟨v, H', J.os, J.bare, J.base, J.hok, rv, q⟩
    | next =>
      obtain ⟨σ', H', J, q⟩ := hs
      exact ⟨.non, H', J.os, J.bare, J.base, J.hok, rfl, q⟩
    | brk =>
      obtain ⟨_, _, _, q⟩ := hs
      exact (show False from q).elim
    | cont =>
      obtain ⟨_, _, _, q⟩ := hs
      exact (show False from q).elim
/-! ### the law -/
theorem scLaw : FnScope ["_law_script", "_law_k", "_law_some", "_law_kept", "_law_due", "_law_found"] ["_law_script"] (defScope sLaw) :=
  ⟨rfl, rfl, rfl, by decide +kernel, rfl, by decide +kernel, by decide +kernel⟩
theorem run_law {f fP fDn fDu fN fSm : Addr} {fd fdP fdDn fdDu fdN fdSm : FuncData} (F : Fun K "law" "law" sLaw f fd)
    (FP : Fun K "_law_pot" "_law_pot" sPot fP fdP) (GP : FnOk P w K mg base CX0 1 fP fdP ["_law_script", "_law_k"] (spPot K)) (bP : Binds K fdP ["_law_script", "_law_k"] []) (gP : mg "_law_pot" = some (.ref fP))
    (FDn : Fun K "_law_drawn" "_law_drawn" sDrawn fDn fdDn) (GDn : FnOk P w K mg base CX0 4 fDn fdDn ["_law_pot_here"] spDrawn) (bDn : Binds K fdDn ["_law_pot_here"] []) (gDn : mg "_law_drawn" = some (.ref fDn))
    (FDu : Fun K "_law_is_name" "_law_is_name" sDue fDu fdDu) (GDu : FnOk P w K mg base CX0 1 fDu fdDu ["_law_some"] (spDue K)) (bDu : Binds K fdDu ["_law_some"] []) (gDu : mg "_law_is_name" = some (.ref fDu))
    (FN : Fun K "is_name" "is_name" sName fN fdN) (GN : FnOk P w K mg base CX0 1 fN fdN ["thing"] spName) (bN : Binds K fdN ["thing"] []) (gN : mg "is_name" = some (.ref fN))
    (FSm : Fun K "_law_same" "_law_same" sSame fSm fdSm) (GSm : FnOk P w K mg base CX0 1 fSm fdSm ["_law_found", "_law_due"] spSame) (bSm : Binds K fdSm ["_law_found", "_law_due"] []) (gSm : mg "_law_same" = some (.ref fSm))
    (mr : mg "range" = none) (mm : mg "max" = none) (mn : mg "min" = none) (ml : mg "len" = none) (mp : mg "repr" = none) (ma : mg "all" = none)
    {s : Shared} {H : Hp} {a : Addr} {ns : List Int} (hl : ns.length ≤ 63) (e0 : Env0 P w K mg base callerA [] s H) (hS : SqL K H a (ns.map V.int)) (hb : BindsTo s fd ⟨[.ref a], []⟩ [("_law_script", .ref a)]) :
    codeAny (model P w) callerA (.call (.ref f) ⟨[.ref a], []⟩) (CR CX0 [] P w H s (fun v _ => v = .bl true) E0) s := by
  refine run_here (k := 4) (us := [.ref a]) (vs := [.ref a]) F scLaw callerA (fun cdv hr => ?_) ⟨rfl, by decide, by decide⟩ e0 hb (.cons rfl .nil) rfl
  have hr1 := hr.mono (show 1 ≤ 4 by decide)
  have hg : (callerA.deeper (envOfC "law" (defScope sLaw) s.heap.objs.size f cdv)).guards = some [] := rfl
  refine ⟨_, pss_cons (ps_for PassesOwn.never rfl (pi_range1 (by rfl) mr (pa_cons (pe_callB (call_max2 rfl) (by rfl) mm (by decide +kernel) (pa_cons pe_int (pa_cons
        (pe_callB (call_min2 rfl) (by rfl) mn (by decide +kernel) (pa_cons pe_int (pa_cons (pe_callB call_len_seq (by rfl) ml PySem.boot_len (pa_cons (pv 0) pa_nil)) pa_nil))) pa_nil))) pa_nil))
      (pg_name (i := 1) scLaw.nd rfl (.inl rfl))
      (pss_cons (ps_set (i := 2) scLaw.nd rfl (.inl rfl) (pe_call GDn hr (by rfl) gDn FDn.kp bDn .nil pass0 (pa_cons (pe_call GP hr1 (by rfl) gP FP.kp bP .nil pass0 (pa_cons (pv 0) (pa_cons (pv 1) pa_nil))) pa_nil)))
      (pss_cons (ps_set (i := 3) scLaw.nd rfl (.inl rfl) (pe_callB (call_repr hg hr.units) (by rfl) mp (by decide +kernel) (pa_cons (pv 2) pa_nil)))
      (pss_cons (ps_set (i := 4) scLaw.nd rfl (.inr rfl) (pe_call GDu hr1 (by rfl) gDu FDu.kp bDu .nil pass0 (pa_cons (pv 2) pa_nil)))
      (pss_cons (ps_if (pt_not (pt_val (pe_callB (cr_all rfl) (by rfl) ma (by decide +kernel) (pa_cons (pe_lc (own := [("_law_found", 5)]) (g := gName 5) (tt := tYes) rfl scLaw.nd
          (pi_list (pe_lst (pa_cons (pe_call GN hr1 (by rfl) gN FN.kp bN .nil pass0 (pa_cons (pv 2) pa_nil)) (pa_cons (pe_kw GN hr1 (by rfl) gN FN.kp (kw_name FN) pass0 (pk_cons (pv 2) pk_nil)) (pa_cons (pe_call GN hr1 (by rfl) gN FN.kp bN .nil pass0 (pa_cons (pv 2) pa_nil)) pa_nil)))))
          (blkOk_by (N := ["_law_script", "_law_k", "_law_some", "_law_kept", "_law_due", "_law_found"]) (sc := defScope sLaw) (by decide +kernel)) (fun _ _ _ _ _ => pg_name (i := 5) scLaw.nd rfl (Or.inl rfl)) (fun _ _ _ _ _ => pts_nil)
          (fun _ _ _ _ _ => pe_call GSm hr1 (by rfl) gSm FSm.kp bSm .nil pass0 (pa_cons (pv 5) (pa_cons (pv 4) pa_nil)))) pa_nil)))) (pss_one (ps_ret pe_bl)) pss_nil)
      (pss_one (ps_if (pt_cmpR op_ne (pe_callB (call_repr hg hr.units) (by rfl) mp (by decide +kernel) (pa_cons (pv 2) pa_nil)) (pv 3) (nomark _)) (pss_one (ps_ret pe_bl)) pss_nil)))))))
    (pss_one (ps_ret (pe_and (pe_call GSm hr1 (by rfl) gSm FSm.kp bSm .nil pass0 (pa_cons (pe_call GN hr1 (by rfl) gN FN.kp bN .nil pass0 (pa_cons pe_str pa_nil)) (pa_cons pe_bl pa_nil)))
      (pe_one (pe_call GSm hr1 (by rfl) gSm FSm.kp bSm .nil pass0 (pa_cons (pe_call GN hr1 (by rfl) gN FN.kp bN .nil pass0 (pa_cons pe_str pa_nil)) (pa_cons pe_bl pa_nil))))))), ?_⟩
  refine ⟨.ref a, rfl, a, _, rfl, .inl hS, 40, _, rfl, 4, _, rfl, ?_⟩
  obtain ⟨M, hM, M0, M1⟩ : ∃ M : Int, (if (if ((ns.map V.int).length : Int) < 40 then ((ns.map V.int).length : Int) else 40) > 4 then (if ((ns.map V.int).length : Int) < 40 then ((ns.map V.int).length : Int) else 40) else 4) = M ∧ 4 ≤ M ∧ M ≤ 40 := by
    refine ⟨_, rfl, ?_, ?_⟩
    · split <;> omega
    · split
      · split <;> omega
      · omega
  rw [hM]
  refine ⟨M, rfl, by omega, by omega, ?_⟩
  refine for_it (n := M.toNat) walk_range (fun i σ H1 => ∃ y1 y2 y3 y4 y5, σ = [some (.ref a), y1, y2, y3, y4, y5] ∧ Same H H1) ⟨_, _, _, _, _, rfl, Same.refl H⟩ (fun _ _ _ _ _ => trivial) ?_ ?_
  · rintro i x σ H1 H1' hi ⟨y1, y2, y3, y4, y5, rfl, sm⟩ ⟨rfl, rfl⟩
    -- some = drawn(pot(script, k))
    refine ⟨.ref a, rfl, .int (0 + i), rfl, a, ns, _, rfl, sm.seq hS, by omega, by omega, fun H2 p s2 np hP => ?_⟩
    refine ⟨p, rfl, hP, fun v H3 k3 hT => ?_⟩
    have s3 : Same H1' H3 := fun b o e => k3 b o (ne_of_none e np) (s2 b o e)
    obtain ⟨d, dt⟩ := hT.dt
    -- kept, due
    refine ⟨v, rfl, v, d, rfl, dt, ?_⟩
    refine ⟨v, rfl, v, rfl, hT, fun H4 s4 => ?_⟩
    -- all of them alike
    refine ⟨v, rfl, v, rfl, hT.mono s4, fun H5 s5 => ?_⟩
    have s45 := s4.trans s5
    refine ⟨v, rfl, rfl, rfl, v, rfl, hT.mono s45, fun H6 s6 => ?_⟩
    have s46 := s45.trans s6
    refine ⟨v, rfl, v, rfl, hT.mono s46, fun H7 s7 => ?_⟩
    have s47 := s46.trans s7
    refine ⟨by show 3 ≤ sizeLine; decide, fun L nL => ?_⟩
    refine ⟨L, rfl, ⟨_, SqL.of upd_same⟩, fun D nD => ?_⟩
    have sL := same_new (o := .lst [.bl (nm v), .bl (nm v), .bl (nm v)]) nL
    have hL : (upd H7 L (.lst [.bl (nm v), .bl (nm v), .bl (nm v)])) L = some (.lst [.bl (nm v), .bl (nm v), .bl (nm v)]) := upd_same
    refine lc_it (walk_list (K := K) (a := L) (xs := [.bl (nm v), .bl (nm v), .bl (nm v)])) (fun j H' => H' D = some (.lst ((List.replicate j true).map V.bl)) ∧ Same (upd H7 L (.lst [.bl (nm v), .bl (nm v), .bl (nm v)])) H') ⟨upd_same, same_new nD⟩ (fun j H' _ h => SqL.of (h.2 _ _ hL)) ?_ ?_
    · rintro j x H' H'' hj ⟨hD, sD⟩ ⟨rfl, hx⟩
      have ex : x = .bl (nm v) := by
        have h3 : j < 3 := hj
        match j, h3, hx with
        | 0, _, hx => exact (Option.some.inj hx).symm
        | 1, _, hx => exact (Option.some.inj hx).symm
        | 2, _, hx => exact (Option.some.inj hx).symm
      subst ex
      refine ⟨rfl, .bl (nm v), rfl, .bl (nm v), rfl, nm v, rfl, _, hD, ?_, ?_, ?_⟩
      · rw [List.length_map, List.length_replicate]; exact small1000 (by have h3 : j < 3 := hj; omega)
      · rw [upd_same, List.replicate_succ', List.map_append]; rfl
      · exact fun b o e => by
          have nb : b ≠ D := ne_of_none e nD
          rw [upd_ne nb]; exact sD b o e
    · rintro H8 ⟨hD, sD⟩
      refine ⟨D, [true, true, true], rfl, SqL.of hD, true, rfl, iteF ?_⟩
      have s8 : Same H3 H8 := s47.trans (sL.trans sD)
      refine ⟨v, rfl, v, d, rfl, dt.mono s8, .str d.shown, rfl, rfl, _, rfl, iteNS rfl ?_⟩
      exact ⟨_, _, _, _, _, rfl, sm.trans (s3.trans s8)⟩
  · rintro σ H1 ⟨y1, y2, y3, y4, y5, rfl, sm⟩
    have tA : ∀ H', Thing H' (.str "a") := fun H' => .inl ⟨_, rfl, by decide, by decide +kernel⟩
    have tE : ∀ H', Thing H' (.str "") := fun H' => .inl ⟨_, rfl, by decide, by decide +kernel⟩
    have nA : nm (.str "a") = true := by decide +kernel
    have nE : nm (.str "") = false := by decide +kernel
    refine ⟨.str "a", rfl, tA _, fun H2 _ => ?_⟩
    rw [nA]
    refine ⟨true, rfl, true, rfl, iteT ?_⟩
    refine ⟨.str "", rfl, tE _, fun H3 _ => ?_⟩
    rw [nE]
    exact ⟨false, rfl, rfl⟩
end
end K11
namespace K11
open PySem PySem.Spec PyProof.Rows L2
/-! ### the law's end, the caller's surroundings kept -/
theorem end_here {P : Program} {w : World} {K : PySem.W.Frag} {mg mb : Str → Option Value} {fa a : Addr} {s₁ : Shared} {vs : List Value} {ns : List Int}
    (X1 : K.In s₁.heap) (X2 : s₁.heap.Ns mainGlobals mg) (X3 : s₁.heap.Ns builtinsNs mb) (X4 : ∀ x : Str, x ≠ "__name__" → mb x = bootBuiltins x) (X5 : s₁.heap.NoLimit) (X6 : s₁.gens = #[])
    (ha : s₁.heap.get? a = some { cls := .type "list", data := .seq vs.toArray }) (hi : IntsAre vs ns) (hl : ns.length ≤ sizeLine)
    (R : ∀ (base : Heap) (H : Hp), K.In base → base.Ns mainGlobals mg → Env0 P w K mg base callerA [] s₁ H → SqL K H a (ns.map V.int) →
      codeAny (model P w) callerA (.call (.ref fa) ⟨[.ref a], []⟩) (CR CX0 [] P w H s₁ (fun v _ => v = .bl true) E0) s₁) :
    codeAny (model P w) callerA (.call (.ref fa) ⟨[.ref a], []⟩)
      (fun r s' => r = .ok (.ret (.bool true)) ∧ OldK s₁.heap s'.heap ∧ s'.os = s₁.os ∧ AllBare s'.gens) s₁ := by
  have rv := vals_ints hi
  obtain ⟨H, hO, hS, hok, hK⟩ : ∃ H : Hp, (∀ b, H b = none ∨ b = a ∧ H b = some (.frz { cls := .type "list", data := .seq vs.toArray } (.lst (ns.map V.int)))) ∧
      SqL K H a (ns.map V.int) ∧ HOk P w H s₁.heap ∧ ∀ b o, K.lookup b = some o → H b = none := by
    cases hk : K.lookup a with
    | some o =>
      have e := X1 a o hk
      rw [ha] at e
      cases e
      refine ⟨fun _ => none, fun _ => .inl rfl, .inr ⟨_, vs.toArray, _, hk, rfl, rfl, rfl, ?_, ?_⟩, (fun b u z => by cases (show (none : Option HO) = some u from z)), fun _ _ _ => rfl⟩
      · rw [List.size_toArray, hi.length]; exact hl
      · simpa using rv
    | none =>
      refine ⟨fun b => if b = a then some (.frz { cls := .type "list", data := .seq vs.toArray } (.lst (ns.map V.int))) else none, fun b => ?_, .inl (.inr ⟨_, if_pos rfl⟩), fun b u z => ?_, fun b o e => ?_⟩
      · by_cases hb : b = a
        · exact .inr ⟨hb, if_pos hb⟩
        · exact .inl (if_neg hb)
      · by_cases hb : b = a
        · cases (if_pos hb).symm.trans z
          subst hb
          exact ⟨ha, by rw [List.length_map]; exact hl, vs, _, rv, ha⟩
        · cases (if_neg hb).symm.trans z
      · refine if_neg fun hb => ?_
        rw [hb, hk] at e
        cases e
  have nd : ∀ {b : Addr} {o : Obj} {es : Array DictEntry} {n : Nat}, s₁.heap.get? b = some o → o.data = .dict es n → H b = none := by
    intro b o es n e d
    rcases hO b with z | ⟨rfl, _⟩
    · exact z
    · rw [ha] at e
      cases e
      exact nomatch (show Data.seq vs.toArray _ = Data.dict es n from d)
  have kept : ∀ {b : Addr} {m : Str → Option Value}, s₁.heap.Ns b m → (hidT s₁.heap H).Ns b m := by
    rintro b m ⟨o, es, n, e, d, r⟩
    exact ⟨o, es, n, hidT_get e (nd e d), d, r⟩
  have B1 : K.In (hidT s₁.heap H) := fun b o e => hidT_get (X1 b o e) (hK b o e)
  have B2 : (hidT s₁.heap H).NoLimit := by
    obtain ⟨mc, h1, h2⟩ := X5
    exact ⟨mc, kept h1, h2⟩
  have e0 : Env0 P w K mg (hidT s₁.heap H) callerA [] s₁ H :=
    ⟨rfl, ⟨B1, kept X2, ⟨mb, kept X3, X4⟩, B2⟩, fun b o e => of_hidT e, Nat.le_of_eq (hidT_size _ _), trivial, fun b hb => (List.not_mem_nil (show b ∈ ([] : List Addr) from hb)).elim, hok, AllBare.of_eq X6⟩
  refine codeAny_mono (R _ H B1 (kept X2) e0 hS) fun r s' h => ?_
  cases r with
  | error e => exact (show False from h).elim
  | ok fl =>
    cases fl with
    | next => exact (show False from h).elim
    | brk => exact (show False from h).elim
    | cont => exact (show False from h).elim
    | ret u =>
      obtain ⟨v, H', os, bare, un, hok', rr, q⟩ := h
      cases (show v = .bl true from q)
      cases (show u = Value.bool true from rr)
      refine ⟨rfl, OldK.of_keep fun b o e => ?_, os, bare⟩
      rcases hO b with z | ⟨_, z⟩
      · exact un.keep b o e z (fun y => (List.not_mem_nil (show b ∈ ([] : List Addr) from y)).elim) (by simp)
      · have z2 := un.frzs b _ _ z
        have g1 := (hok b _ z).1
        have g2 := (hok' b _ z2).1
        rw [e] at g1
        cases g1
        exact g2
theorem walk_here {l : PySem.W.OpenLaw} {n : Nat} {q : Program} {loose : List Str} {XP : (Str → Option Value) → Heap → Prop} {YP : World → Heap → Prop} {d : DefRec} {K : Params → PySem.W.Frag}
    (hn : l.most = some n) (hn2 : n ≤ sizeLine) (hdf : d.params.defaults = []) (hY : ∀ (w : World) (h : Heap), YP w h → (K w.params).In h)
    (R : ∀ (w : World) (mg : Str → Option Value) (fa : Addr) (h : Heap), (K w.params).In h → h.Ns mainGlobals mg → mg d.name = some (.ref fa) →
      ∀ (base : Heap) (H : Hp) (s : Shared) (a : Addr) (ns : List Int), (K w.params).In base → base.Ns mainGlobals mg → ns.length ≤ n → Env0 l.prog w (K w.params) mg base callerA [] s H → SqL (K w.params) H a (ns.map V.int) →
      codeAny (model l.prog w) callerA (.call (.ref fa) ⟨[.ref a], []⟩) (CR CX0 [] l.prog w H s (fun v _ => v = .bl true) E0) s) :
    PySem.W.WalkO q loose XP YP l.row.toRowW d [] (fun f vs => PySem.call f vs) := by
  refine Att.attach_call hn hdf ?_
  intro w s₀ s₁ mg mb fa o pm cd doc a vs ns G Y ho hd hcd hmg hobj hints hlen hg
  have X1 := hY w _ Y
  exact end_here X1 G.T.g G.T.b G.T.builtins G.T.nolimit hg hobj hints (Nat.le_trans hlen hn2)
    (fun base H b1 b2 e0 hS => R w mg fa _ X1 G.T.g hmg base H s₁ a ns b1 b2 hlen e0 hS)
end K11
namespace K11
open PySem PySem.Spec PyProof.Rows L2
/-- a def of the text, as the top has left it -/
structure Left (K : PySem.W.Frag) (x : Str) (st : Stmt) (f : Addr) (oc : Value) (od an : Option Addr) (sl : Array (Option Value)) (kV dc pm cd ct : Value) : Prop where
  at_ : PySem.W.nsIn K mainGlobals x = some (some (.ref f))
  lk : K.lookup f = some ⟨oc, od, .func (PySem.W.fnOf x x (defArgs st) (defBody st) (defScope st) .none kV dc pm an cd ct), sl⟩
  co : PySem.W.codeIn K cd x = true
  kp : PySem.W.keepIn K (.ref f) = true
theorem Left.fn {K : PySem.W.Frag} {x : Str} {st : Stmt} {f : Addr} {oc : Value} {od an : Option Addr} {sl : Array (Option Value)} {kV dc pm cd ct : Value} (h : Left K x st f oc od an sl kV dc pm cd ct) :
    ∃ fd, Fun K x x st f fd := ⟨_, fun_mk h.lk h.co h.kp⟩
theorem all_here {l : PySem.W.OpenLaw} {w : World} {K : PySem.W.Frag} {h : Heap} {mg : Str → Option Value} {fa : Addr} (X : K.In h) (G : h.Ns mainGlobals mg) (hfa : mg "law" = some (.ref fa))
    {f1 f2 f3 f4 f5 f6 f7 f8 f9 f10 f11 : Addr} {od1 an1 od2 an2 od3 an3 od4 an4 od5 an5 od6 an6 od7 an7 od8 an8 od9 an9 od10 an10 od11 an11 : Option Addr} {sl1 sl2 sl3 sl4 sl5 sl6 sl7 sl8 sl9 sl10 sl11 : Array (Option Value)}
    {oc1 kV1 dc1 pm1 cd1 ct1 oc2 kV2 dc2 pm2 cd2 ct2 oc3 kV3 dc3 pm3 cd3 ct3 oc4 kV4 dc4 pm4 cd4 ct4 oc5 kV5 dc5 pm5 cd5 ct5 oc6 kV6 dc6 pm6 cd6 ct6 oc7 kV7 dc7 pm7 cd7 ct7 oc8 kV8 dc8 pm8 cd8 ct8 oc9 kV9 dc9 pm9 cd9 ct9 oc10 kV10 dc10 pm10 cd10 ct10 oc11 kV11 dc11 pm11 cd11 ct11 : Value} {tm tl : Tok}
    (L1 : Left K "is_name" sName f1 oc1 od1 an1 sl1 kV1 dc1 pm1 cd1 ct1)
    (L2 : Left K "_law_pot" sPot f2 oc2 od2 an2 sl2 kV2 dc2 pm2 cd2 ct2)
    (L3 : Left K "_law_draw" sDraw f3 oc3 od3 an3 sl3 kV3 dc3 pm3 cd3 ct3)
    (L4 : Left K "_law_word" sWord f4 oc4 od4 an4 sl4 kV4 dc4 pm4 cd4 ct4)
    (L5 : Left K "_law_sign" sSign f5 oc5 od5 an5 sl5 kV5 dc5 pm5 cd5 ct5)
    (L6 : Left K "_law_spoilt" sSpoilt f6 oc6 od6 an6 sl6 kV6 dc6 pm6 cd6 ct6)
    (L7 : Left K "_law_odd" sOdd f7 oc7 od7 an7 sl7 kV7 dc7 pm7 cd7 ct7)
    (L8 : Left K "_law_drawn" sDrawn f8 oc8 od8 an8 sl8 kV8 dc8 pm8 cd8 ct8)
    (L9 : Left K "_law_is_name" sDue f9 oc9 od9 an9 sl9 kV9 dc9 pm9 cd9 ct9)
    (L10 : Left K "_law_same" sSame f10 oc10 od10 an10 sl10 kV10 dc10 pm10 cd10 ct10)
    (L11 : Left K "law" sLaw f11 oc11 od11 an11 sl11 kV11 dc11 pm11 cd11 ct11)
    (z0 : PySem.W.nsIn K mainGlobals "divmod" = some none)
    (z1 : PySem.W.nsIn K mainGlobals "range" = some none)
    (z2 : PySem.W.nsIn K mainGlobals "max" = some none)
    (z3 : PySem.W.nsIn K mainGlobals "min" = some none)
    (z4 : PySem.W.nsIn K mainGlobals "len" = some none)
    (z5 : PySem.W.nsIn K mainGlobals "repr" = some none)
    (z6 : PySem.W.nsIn K mainGlobals "all" = some none)
    (z7 : PySem.W.nsIn K mainGlobals "isinstance" = some none)
    (z8 : PySem.W.nsIn K mainGlobals "str" = some none)
    (z9 : PySem.W.nsIn K mainGlobals "abs" = some none)
    (z10 : PySem.W.nsIn K mainGlobals "bool" = some none)
    (c1 : PySem.W.nsIn K mainGlobals "MOST_LETTERS" = some (some (.int 8 tm))) (c2 : PySem.W.nsIn K mainGlobals "LETTERS" = some (some (.str abc tl)))
    (base : Heap) (H : Hp) (s : Shared) (a : Addr) (ns : List Int) (hl : ns.length ≤ 63) (e0 : Env0 l.prog w K mg base callerA [] s H) (hS : SqL K H a (ns.map V.int)) :
    codeAny (model l.prog w) callerA (.call (.ref fa) ⟨[.ref a], []⟩) (CR CX0 [] l.prog w H s (fun v _ => v = .bl true) E0) s := by
  have e := hfa.symm.trans (PySem.W.mg_of X G L11.at_)
  cases e
  have F1 := fun_mk (st := sName) L1.lk L1.co L1.kp
  have b1 := F1.binds (ps := ["thing"]) fun _ _ _ _ _ _ us hl => match us, hl with | [_], _ => rfl
  have g1 := PySem.W.mg_of X G L1.at_
  have F2 := fun_mk (st := sPot) L2.lk L2.co L2.kp
  have b2 := F2.binds (ps := ["_law_script", "_law_k"]) fun _ _ _ _ _ _ us hl => match us, hl with | [_, _], _ => rfl
  have g2 := PySem.W.mg_of X G L2.at_
  have F3 := fun_mk (st := sDraw) L3.lk L3.co L3.kp
  have b3 := F3.binds (ps := ["_law_pot_here", "_law_many"]) fun _ _ _ _ _ _ us hl => match us, hl with | [_, _], _ => rfl
  have g3 := PySem.W.mg_of X G L3.at_
  have F4 := fun_mk (st := sWord) L4.lk L4.co L4.kp
  have b4 := F4.binds (ps := ["_law_pot_here", "_law_size"]) fun _ _ _ _ _ _ us hl => match us, hl with | [_, _], _ => rfl
  have g4 := PySem.W.mg_of X G L4.at_
  have F5 := fun_mk (st := sSign) L5.lk L5.co L5.kp
  have b5 := F5.binds (ps := ["_law_pot_here"]) fun _ _ _ _ _ _ us hl => match us, hl with | [_], _ => rfl
  have g5 := PySem.W.mg_of X G L5.at_
  have F6 := fun_mk (st := sSpoilt) L6.lk L6.co L6.kp
  have b6 := F6.binds (ps := ["_law_pot_here", "_law_word_here"]) fun _ _ _ _ _ _ us hl => match us, hl with | [_, _], _ => rfl
  have g6 := PySem.W.mg_of X G L6.at_
  have F7 := fun_mk (st := sOdd) L7.lk L7.co L7.kp
  have b7 := F7.binds (ps := ["_law_pot_here", "_law_word_here"]) fun _ _ _ _ _ _ us hl => match us, hl with | [_, _], _ => rfl
  have g7 := PySem.W.mg_of X G L7.at_
  have F8 := fun_mk (st := sDrawn) L8.lk L8.co L8.kp
  have b8 := F8.binds (ps := ["_law_pot_here"]) fun _ _ _ _ _ _ us hl => match us, hl with | [_], _ => rfl
  have g8 := PySem.W.mg_of X G L8.at_
  have F9 := fun_mk (st := sDue) L9.lk L9.co L9.kp
  have b9 := F9.binds (ps := ["_law_some"]) fun _ _ _ _ _ _ us hl => match us, hl with | [_], _ => rfl
  have g9 := PySem.W.mg_of X G L9.at_
  have F10 := fun_mk (st := sSame) L10.lk L10.co L10.kp
  have b10 := F10.binds (ps := ["_law_found", "_law_due"]) fun _ _ _ _ _ _ us hl => match us, hl with | [_, _], _ => rfl
  have g10 := PySem.W.mg_of X G L10.at_
  have F11 := fun_mk (st := sLaw) L11.lk L11.co L11.kp
  have m0 := PySem.W.mg_none_of X G z0
  have m1 := PySem.W.mg_none_of X G z1
  have m2 := PySem.W.mg_none_of X G z2
  have m3 := PySem.W.mg_none_of X G z3
  have m4 := PySem.W.mg_none_of X G z4
  have m5 := PySem.W.mg_none_of X G z5
  have m6 := PySem.W.mg_none_of X G z6
  have m7 := PySem.W.mg_none_of X G z7
  have m8 := PySem.W.mg_none_of X G z8
  have m9 := PySem.W.mg_none_of X G z9
  have m10 := PySem.W.mg_none_of X G z10
  have k1 := PySem.W.mg_of X G c1
  have k2 := PySem.W.mg_of X G c2
  have GN : FnOk l.prog w K mg base CX0 1 _ _ ["thing"] spName := ok_name F1 m7 m8 m4 m6 k1 k2
  have GP : FnOk l.prog w K mg base CX0 1 _ _ ["_law_script", "_law_k"] (spPot K) := ok_pot F2 m4 m2 m9
  have GD : FnOk l.prog w K mg base CX0 4 _ _ ["_law_pot_here"] spDrawn := ok_drawn F8 F3 b3 F5 b5 g5 F4 b4 g4 F7 b7 g7 F6 b6 g6 g3 m0 m4 m1
  have GU : FnOk l.prog w K mg base CX0 1 _ _ ["_law_some"] (spDue K) := ok_due F9 m7 m8 m4
  have GS : FnOk l.prog w K mg base CX0 1 _ _ ["_law_found", "_law_due"] spSame := ok_same F10 m7 m10
  exact run_law F11 F2 GP b2 g2 F8 GD b8 g8 F9 GU b9 g9 F1 GN b1 g1 F10 GS b10 g10 m1 m2 m3 m4 m5 m6 hl e0 hS (.of_eq rfl)
end K11
open PySem PySem.W PyProof.Rows
set_option maxHeartbeats 0 in
theorem PySem.Challenge.cw_backwater_k11_names_holds : PySem.Challenge.rw_backwater_k11_names.Holds := by
  w_on; o_law; k_head; (case hw => w_witness2)
  k_fill
  refine K11.walk_here (l := PySem.Challenge.rw_backwater_k11_names) (n := 63) rfl (by decide) rfl (fun w h Y => PySem.W.kIn_of Y) ?F
  case F =>
    intro w mg fa h KX G hmg base H s a ns _ _ hl e0 hS
    refine' K11.all_here KX G hmg ⟨?a1, ?l1, ?c1, ?k1⟩ ⟨?a2, ?l2, ?c2, ?k2⟩ ⟨?a3, ?l3, ?c3, ?k3⟩ ⟨?a4, ?l4, ?c4, ?k4⟩ ⟨?a5, ?l5, ?c5, ?k5⟩ ⟨?a6, ?l6, ?c6, ?k6⟩ ⟨?a7, ?l7, ?c7, ?k7⟩ ⟨?a8, ?l8, ?c8, ?k8⟩ ⟨?a9, ?l9, ?c9, ?k9⟩ ⟨?a10, ?l10, ?c10, ?k10⟩ ⟨?a11, ?l11, ?c11, ?k11⟩ ?z0 ?z1 ?z2 ?z3 ?z4 ?z5 ?z6 ?z7 ?z8 ?z9 ?z10 ?d1 ?d2 base H s a ns hl e0 hS
    (case a1 => k_is); (case l1 => k_is); (case c1 => k_is); (case k1 => k_is)
    (case a2 => k_is); (case l2 => k_is); (case c2 => k_is); (case k2 => k_is)
    (case a3 => k_is); (case l3 => k_is); (case c3 => k_is); (case k3 => k_is)
    (case a4 => k_is); (case l4 => k_is); (case c4 => k_is); (case k4 => k_is)
    (case a5 => k_is); (case l5 => k_is); (case c5 => k_is); (case k5 => k_is)
    (case a6 => k_is); (case l6 => k_is); (case c6 => k_is); (case k6 => k_is)
    (case a7 => k_is); (case l7 => k_is); (case c7 => k_is); (case k7 => k_is)
    (case a8 => k_is); (case l8 => k_is); (case c8 => k_is); (case k8 => k_is)
    (case a9 => k_is); (case l9 => k_is); (case c9 => k_is); (case k9 => k_is)
    (case a10 => k_is); (case l10 => k_is); (case c10 => k_is); (case k10 => k_is)
    (case a11 => k_is); (case l11 => k_is); (case c11 => k_is); (case k11 => k_is)
    (case z0 => k_is); (case z1 => k_is); (case z2 => k_is); (case z3 => k_is); (case z4 => k_is); (case z5 => k_is); (case z6 => k_is); (case z7 => k_is); (case z8 => k_is); (case z9 => k_is); (case z10 => k_is)
    (case d1 => k_is); (case d2 => k_is)
