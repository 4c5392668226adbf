import PyProof.Rows.All
import Wide.All
import OpenK.AllK
import Wide.FinOn
import HandS.ForMost
import HandS.Wide
import HandS.Codes
import PySem.Challenge.RW_lentcells_k00_errors_and_names
import HandS.IsInst
import KE.KExcInit
import HandS.Exc
import HandS.ExcInit
import HandS.ExcValue
import HandS.ExcIs
import HandS.ExcOwn
import HandS.WordsExc
import HandS.TryMany
import HandS.Lambda
import HandS.ExcField
import HandS.Dict
import PyProof.ReprRoads
import PyProof.ReprLen
import HandS.Text
import HandS.EndBits
import HandS.EndTab
import HandS.EndOwn
set_option Elab.async false
set_option linter.all false
set_option maxRecDepth 100000
set_option maxHeartbeats 4000000
namespace K00
open PySem PySem.Spec PyProof.Rows L2
def topS (i : Nat) : Stmt := PySem.Challenge.pw_lentcells_k00_errors_and_names.main.body.getD i (.Pass ⟨0, 0, 0, 0⟩)
abbrev sIsName : Stmt := topS 20
abbrev sCreel : Stmt := topS 22
abbrev sFish : Stmt := topS 23
abbrev sOne : Stmt := topS 24
theorem scCreel : FnScope ["_law_script", "_law_at", "_law_cell", "_law_great", "_law_mixed"] ["_law_script", "_law_at"] (defScope sCreel) :=
  ⟨rfl, rfl, rfl, by decide +kernel, rfl, by decide +kernel, by decide +kernel⟩
theorem scFish : FnScope ["_law_creel_here", "_law_total", "_law_found", "_law_one", "_law_two"] ["_law_creel_here", "_law_total"] (defScope sFish) :=
  ⟨rfl, rfl, rfl, by decide +kernel, rfl, by decide +kernel, by decide +kernel⟩
theorem scOne : FnScope ["_law_creel_here", "_law_items"] ["_law_creel_here", "_law_items"] (defScope sOne) :=
  ⟨rfl, rfl, rfl, by decide +kernel, rfl, by decide +kernel, by decide +kernel⟩
/-- the modulus of a great cell -/
def big : Int := ((10 : Int) ^ (58 : Int).toNat) ^ (10 : Int).toNat
theorem big_pos : 0 < big := by unfold big; decide +kernel
theorem big_lt : big.natAbs < 2 ^ 2000 := by unfold big; decide +kernel
def CPowW (i j : Int) : Prop := 0 ≤ j ∧ (Builtin.Int.intBits i : Int) * j ≤ 2 ^ 27
theorem op_powW {X : Cx} : OpR X (binaryOp .Pow) (rI CPowW fun i j => .int (i ^ j.toNat)) := opI fun _ _ _ _ _ _ _ hc q => pow_int hc.1 hc.2 q
/-- a creel: three numbers -/
structure Cr (x y c : Int) : Prop where
  x0 : 0 ≤ x
  xb : x.natAbs < 2 ^ 2000
  y0 : 0 ≤ y
  yb : y < 2305843009213693951
  c0 : 0 ≤ c
  cb : c ≤ 1000000
theorem small_bits {i : Int} {n : Nat} (h0 : 0 ≤ i) (h : i < 2 ^ n) : i.natAbs < 2 ^ n := by
  have e : ((i.natAbs : Nat) : Int) < ((2 ^ n : Nat) : Int) := by
    rw [Int.natAbs_of_nonneg h0]
    have : ((2 ^ n : Nat) : Int) = (2 : Int) ^ n := by simp
    omega
  omega
def spCreel (K : PySem.W.Frag) : Sp := fun vs H Q _ => ∃ (a : Addr) (ns : List Int) (i : Int), vs = [.ref a, .int i] ∧ SqL K H a (ns.map V.int) ∧ ns.length ≤ 63 ∧ 0 ≤ i ∧ i ≤ 1000 ∧
  ∀ p x y, Cr x y 0 → H p = none → Q (.ref p) (upd H p (.lst [.int x, .int y, .int 0]))
def spFish : Sp := fun vs H Q _ => ∃ (a : Addr) (x y c t : Int), vs = [.ref a, .int t] ∧ H a = some (.lst [.int x, .int y, .int c]) ∧ Cr x y c ∧ c < 1000000 ∧ 0 < t ∧ t ≤ 1000 ∧
  ∀ r x' c', 0 ≤ r → r < t → Cr x' y c' → c' ≤ c + 1 → Q (.int r) (upd H a (.lst [.int x', .int y, .int c']))
section
variable {P : Program} {w : World} {K : PySem.W.Frag} {mg : Str → Option Value} {base : Heap}
theorem ok_creel {f : Addr} {fd : FuncData} (F : Fun K "_law_creel" "_law_creel" sCreel f fd) (ml : mg "len" = none) (mi : mg "int" = none) (ma : mg "abs" = none) (mm : mg "max" = none) :
    FnOk P w K mg base CX0 1 f fd ["_law_script", "_law_at"] (spCreel K) := by
  refine F.ok scCreel (fun vs H Q E h => ?_) (fun cdv A outer s H vs Q E hr h => ?_)
  · obtain ⟨a, ns, i, rfl, _⟩ := h
    rfl
  · obtain ⟨a, ns, i, rfl, hS, hlen, hi0, hi1, q⟩ := h
    refine ⟨_, C8.pss_cut (ps_set (i := 2) scCreel.nd rfl (.inl rfl) (pe_ifExp (pt_cmpR op_lt (pv 1) (pe_callB call_len_seq (by rfl) ml PySem.boot_len (pa_cons (pv 0) pa_nil)) (nomark _))
        (pe_ix ix_list (pv 0) (pv 1) (fun _ _ => rfl)) (pe_op op_add (pe_op op_mul pe_int (pv 1)) pe_int)))
      (pss_cons (ps_set (i := 3) scCreel.nd rfl (.inl rfl) (pe_op op_mod (pe_callTy call_int1 (by rfl) mi (by decide +kernel) (pa_cons (pe_callB call_abs (by rfl) ma (by decide +kernel) (pa_cons (pv 2) pa_nil)) pa_nil)) (pe_op op_powW (pe_op op_pow pe_int pe_int) pe_int)))
      (pss_cons (ps_set (i := 4) scCreel.nd rfl (.inl rfl) (pe_op op_mod (pe_callTy call_int1 (by rfl) mi (by decide +kernel) (pa_cons
          (pe_op op_add (pe_op op_add (pe_op op_add (pe_op op_mul (pv 3) pe_int) (pe_op op_mul pe_int (pv 1))) (pe_op op_mul pe_int (pe_callTy call_int1 (by rfl) mi (by decide +kernel) (pa_cons (pe_cmpR op_lt (pv 2) pe_int (nomark _)) pa_nil)))) pe_int) pa_nil)) pe_int))
      (pss_one (ps_ret (pe_lst (pa_cons (pe_callB (call_max2 rfl) (by rfl) mm (by decide +kernel) (pa_cons pe_int (pa_cons (pe_op op_sub (pv 3) (pe_op op_pow pe_int pe_int)) pa_nil))) (pa_cons (pv 4) (pa_cons pe_int pa_nil)))))))), ?_⟩
    refine ⟨fun σ' H' => H' = H ∧ ∃ z : Int, σ' = [some (.ref a), some (.int i), some (.int z), none, none], ?_, ?_⟩
    · refine ⟨_, rfl, .ref a, rfl, a, ns.map V.int, rfl, .inl hS, i, _, rfl, rfl, _, rfl, ite2 (fun e => ?_) (fun e => ?_)⟩
      · have hlt : i < ((ns.map V.int).length : Int) := of_decide_eq_true e
        rw [List.length_map] at hlt
        obtain ⟨n, rfl⟩ : ∃ n : Nat, i = (n : Int) := ⟨i.toNat, by omega⟩
        have hn : n < ns.length := by omega
        have g : (ns.map V.int)[n]? = some (.int ns[n]) := by
          rw [List.getElem?_map, List.getElem?_eq_getElem hn]
          rfl
        exact ⟨.ref a, rfl, _, rfl, a, _, _, _, rfl, rfl, hS, atI_nat g, rfl, _, rfl⟩
      · exact ⟨_, rfl, 113, i, rfl, rfl, .inl (by decide), _, _, rfl, rfl, rfl, _, rfl⟩
    · rintro σ' H' ⟨rfl, z, rfl⟩
      have hz0 : 0 ≤ (if z < 0 then -z else z) := by split <;> omega
      have hp : 0 < big := big_pos
      refine ⟨_, rfl, z, rfl, .inl ⟨_, rfl, 10, 58, rfl, rfl, ⟨by decide, by decide, by decide⟩, _, 10, rfl, rfl, ⟨by decide, by decide +kernel⟩, _, _, rfl, rfl, hp, ?_⟩⟩
      have hg0 : 0 ≤ (if z < 0 then -z else z) % big := Int.emod_nonneg _ (by omega)
      have hg1 : (if z < 0 then -z else z) % big < big := Int.emod_lt_of_pos _ hp
      show tSeq _ _ _ [some (.ref a), some (.int i), some (.int z), some (.int ((if z < 0 then -z else z) % big)), none] _
      generalize (if z < 0 then -z else z) % big = g at hg0 hg1
      have hgb : g.natAbs < 2 ^ 2000 := Nat.lt_of_le_of_lt (by omega) big_lt
      refine ⟨_, rfl, g, 5, rfl, rfl, .inr (by decide), _, rfl, 22801763, i, rfl, rfl, .inl (by decide), _, _, rfl, rfl, _, rfl, z, 0, rfl, rfl, .inr ⟨_, rfl, 86028121, _, rfl, rfl, .inl (by decide), _, _, rfl, rfl, _, 727, rfl, rfl, .inl ⟨_, rfl, _, 2305843009213693951, rfl, rfl, (by show (0 : Int) < 2305843009213693951; decide), ?_⟩⟩⟩
      refine ⟨_, rfl, 10, 17, rfl, rfl, ⟨by decide, by decide, by decide⟩, _, _, rfl, rfl, 0, _, rfl, _, rfl, (by show 3 ≤ sizeLine; decide), fun p hp => ?_⟩
      refine q p _ _ ⟨?_, ?_, Int.emod_nonneg _ (by decide), Int.emod_lt_of_pos _ (by decide), by decide, by decide⟩ hp
      · split <;> omega
      · refine Nat.lt_of_le_of_lt ?_ hgb
        have e17 : (0 : Int) < 10 ^ Int.toNat 17 := by decide
        split <;> omega
end
end K00

set_option maxRecDepth 100000
set_option maxHeartbeats 4000000
namespace K00
open PySem PySem.Spec PyProof.Rows L2
section
variable {P : Program} {w : World} {K : PySem.W.Frag} {mg : Str → Option Value} {base : Heap}
theorem ok_fish {f : Addr} {fd : FuncData} (F : Fun K "_law_fish" "_law_fish" sFish f fd) (mi : mg "int" = none) :
    FnOk P w K mg base CX0 1 f fd ["_law_creel_here", "_law_total"] spFish := by
  refine F.ok scFish (fun vs H Q E h => ?_) (fun cdv A outer s H vs Q E hr h => ?_)
  · obtain ⟨a, x, y, c, t, rfl, _⟩ := h
    rfl
  · obtain ⟨a, x, y, c, t, rfl, ha, C, hc, ht0, ht1, q⟩ := h
    refine ⟨_, pss_cons (ps_if (pt_cmpR op_gt (pe_ix ix_list (pv 0) pe_int (fun _ _ => rfl)) pe_int (nomark _))
        (pss_cons (ps_set (i := 2) scFish.nd rfl (.inl rfl) (pe_op op_mod (pe_callTy call_int1 (by rfl) mi (by decide +kernel) (pa_cons (pe_ix ix_list (pv 0) pe_int (fun _ _ => rfl)) pa_nil)) (pv 1)))
        (pss_cons (ps_asg (pe_op op_fdivW (pe_ix ix_list (pv 0) pe_int (fun _ _ => rfl)) (pv 1)) (pg_sub (pv 0) pe_int set_list))
        (pss_one (ps_ret (pv 2))))) pss_nil)
      (pss_cons (ps_asg (pe_op op_add (pe_ix ix_list (pv 0) pe_int (fun _ _ => rfl)) pe_int) (pg_sub (pv 0) pe_int set_list))
      (pss_cons (ps_set (i := 3) scFish.nd rfl (.inl rfl) (pe_op op_mod (pe_callTy call_int1 (by rfl) mi (by decide +kernel) (pa_cons (pe_op op_add (pe_op op_mul (pe_ix ix_list (pv 0) pe_int (fun _ _ => rfl)) pe_int) (pe_op op_mul (pe_ix ix_list (pv 0) pe_int (fun _ _ => rfl)) pe_int)) pa_nil)) pe_int))
      (pss_cons (ps_set (i := 4) scFish.nd rfl (.inl rfl) (pe_op op_mod (pe_callTy call_int1 (by rfl) mi (by decide +kernel) (pa_cons (pe_op op_add (pe_op op_mul (pv 3) (pv 3)) (pe_op op_mul pe_int (pe_ix ix_list (pv 0) pe_int (fun _ _ => rfl)))) pa_nil)) pe_int))
      (pss_one (ps_ret (pe_op op_mod (pe_callTy call_int1 (by rfl) mi (by decide +kernel) (pa_cons (pe_op op_fdiv (pe_op op_mod (pe_callTy call_int1 (by rfl) mi (by decide +kernel) (pa_cons (pe_op op_add (pe_op op_mul (pv 4) pe_int) (pv 3)) pa_nil)) pe_int) pe_int) pa_nil)) (pv 1))))))), ?_⟩
    have hS : SqL K H a [V.int x, V.int y, V.int c] := SqL.of ha
    refine ⟨.ref a, rfl, a, _, 0, .int x, rfl, rfl, hS, rfl, x, 0, rfl, rfl, _, rfl, ite2 (fun e => ?_) (fun e => ?_)⟩
    · have hx : 0 < x := of_decide_eq_true e
      refine ⟨.ref a, rfl, a, _, 0, .int x, rfl, rfl, hS, rfl, .inl ⟨x, rfl, .int t, rfl, x, t, rfl, rfl, ht0, ?_⟩⟩
      refine ⟨.ref a, rfl, a, _, 0, .int x, rfl, rfl, hS, rfl, .int t, rfl, x, t, rfl, rfl, wide_div (b := 64) ht0 (by omega) (by decide) (by decide), ?_⟩
      refine ⟨.ref a, rfl, a, _, 0, 0, rfl, rfl, ha, rfl, ?_⟩
      refine ⟨_, rfl, q _ _ _ (Int.emod_nonneg _ (by omega)) (Int.emod_lt_of_pos _ ht0) ⟨?_, ?_, C.y0, C.yb, C.c0, C.cb⟩ (by omega)⟩
      · exact Int.ediv_nonneg C.x0 (by omega)
      · have h1 : 0 ≤ x / t := Int.ediv_nonneg C.x0 (by omega)
        have h2 : x / t ≤ x := Int.ediv_le_self _ C.x0
        exact Nat.lt_of_le_of_lt (by omega) C.xb
    · have hx : x = 0 := by
        have := C.x0
        have h2 : ¬ 0 < x := fun z => e (decide_eq_true z)
        omega
      refine ⟨.ref a, rfl, a, _, 2, .int c, rfl, rfl, hS, rfl, c, 1, rfl, rfl, ?_⟩
      refine ⟨.ref a, rfl, a, _, 2, 2, rfl, rfl, ha, rfl, ?_⟩
      have hS2 : SqL K (upd H a (.lst [V.int x, V.int y, V.int (c + 1)])) a [V.int x, V.int y, V.int (c + 1)] := SqL.of upd_same
      have hy0 := C.y0
      have hyb := C.yb
      have hc0 := C.c0
      refine ⟨.ref a, rfl, a, _, 1, .int y, rfl, rfl, hS2, rfl, y, _, rfl, rfl, .inr (by decide), .ref a, rfl, a, _, 2, .int (c + 1), rfl, rfl, hS2, rfl, c + 1, _, rfl, rfl, .inr (by decide), _, _, rfl, rfl, .inl ⟨_, rfl, _, 2305843009213693951, rfl, rfl, (by show (0 : Int) < 2305843009213693951; decide), ?_⟩⟩
      have ho0 : ∀ z : Int, 0 ≤ z % 2305843009213693951 := fun z => Int.emod_nonneg _ (by decide)
      have ho1 : ∀ z : Int, z % 2305843009213693951 < 2305843009213693951 := fun z => Int.emod_lt_of_pos _ (by decide)
      show tSeq _ _ _ [some (.ref a), some (.int t), none, some (.int ((y * 3202034522624059733 + (c + 1) * 2654435761) % 2305843009213693951)), none] _
      have g0 := ho0 (y * 3202034522624059733 + (c + 1) * 2654435761)
      have g1 := ho1 (y * 3202034522624059733 + (c + 1) * 2654435761)
      generalize (y * 3202034522624059733 + (c + 1) * 2654435761) % 2305843009213693951 = u at g0 g1
      have t0 : ∀ z : Int, 0 ≤ z % 1152921504606846883 := fun z => Int.emod_nonneg _ (by decide)
      have t1 : ∀ z : Int, z % 1152921504606846883 < 1152921504606846883 := fun z => Int.emod_lt_of_pos _ (by decide)
      refine ⟨_, rfl, _, rfl, u, u, rfl, rfl, .inl ⟨by omega, by omega⟩, .ref a, rfl, a, _, 2, .int (c + 1), rfl, rfl, hS2, rfl, 81689, c + 1, rfl, rfl, .inl (by decide), _, _, rfl, rfl, .inl ⟨_, rfl, _, 1152921504606846883, rfl, rfl, (by show (0 : Int) < 1152921504606846883; decide), ?_⟩⟩
      refine ⟨_, rfl, _, 13, rfl, rfl, .inr (by decide), _, rfl, _, u, rfl, rfl, .inl ⟨_, rfl, _, 2305843009213693921, rfl, rfl, (by show (0 : Int) < 2305843009213693921; decide), _, 65536, rfl, rfl, ⟨by decide, by decide⟩, .inl ⟨_, rfl, _, rfl, _, t, rfl, rfl, ht0, ?_⟩⟩⟩
      have e : (upd (upd H a (.lst [V.int x, V.int y, V.int (c + 1)])) a (.lst [V.int x, V.int y, V.int (c + 1)])) = upd H a (.lst [V.int x, V.int y, V.int (c + 1)]) := upd_upd
      exact q _ _ _ (Int.emod_nonneg _ (by omega)) (Int.emod_lt_of_pos _ ht0) ⟨C.x0, C.xb, C.y0, C.yb, by omega, by omega⟩ (Int.le_refl _)
def spOne : Sp := fun vs H Q _ => ∃ (a : Addr) (it : V) (x y c : Int), vs = [.ref a, it] ∧ H a = some (.lst [.int x, .int y, .int c]) ∧ Cr x y c ∧ c < 1000000 ∧
  ((∃ (p : Addr) (xs : List V), it = .ref p ∧ H p = some (.lst xs) ∧ p ≠ a ∧ 0 < xs.length ∧ xs.length ≤ 1000 ∧ ∀ (r : Nat) v x' c', xs[r]? = some v → Cr x' y c' → c' ≤ c + 1 → Q v (upd H a (.lst [.int x', .int y, .int c']))) ∨
  (∃ z : Str, it = .str z ∧ 0 < z.length ∧ z.length ≤ 1000 ∧ ∀ (r ch : Nat) x' c', z.cps.toList[r]? = some ch → Cr x' y c' → c' ≤ c + 1 → Q (.str ⟨#[ch]⟩) (upd H a (.lst [.int x', .int y, .int c']))))
theorem ok_one {f fF : Addr} {fd fdF : FuncData} (F : Fun K "_law_one_of" "_law_one_of" sOne f fd) (FF : Fun K "_law_fish" "_law_fish" sFish fF fdF) (bF : Binds K fdF ["_law_creel_here", "_law_total"] []) (gF : mg "_law_fish" = some (.ref fF)) (mi : mg "int" = none) (ml : mg "len" = none) :
    FnOk P w K mg base CX0 2 f fd ["_law_creel_here", "_law_items"] spOne := by
  have GF : FnOk P w K mg base CX0 1 fF fdF ["_law_creel_here", "_law_total"] spFish := ok_fish FF mi
  refine F.ok scOne (fun vs H Q E h => ?_) (fun cdv A outer s H vs Q E hr h => ?_)
  · obtain ⟨a, it, x, y, c, rfl, _⟩ := h
    rfl
  · obtain ⟨a, it, x, y, c, rfl, ha, C, hc, hk⟩ := h
    refine ⟨_, pss_one (ps_ret (pe_ix (IxR.or ix_list ix_str) (pv 1) (pe_call GF hr (by rfl) gF FF.kp bF .nil pass0 (pa_cons (pv 0) (pa_cons (pe_callB (CallR.or call_len_seq call_len_str) (by rfl) ml PySem.boot_len (pa_cons (pv 1) pa_nil)) pa_nil))) (fun _ _ => rfl))), ?_⟩
    rcases hk with ⟨p, xs, rfl, hp, hpa, hl0, hl1, q⟩ | ⟨z, rfl, hl0, hl1, q⟩
    · refine ⟨.ref p, rfl, .ref a, rfl, .ref p, rfl, .inl ⟨p, xs, rfl, .inl (SqL.of hp), ?_⟩⟩
      refine ⟨a, x, y, c, xs.length, rfl, ha, C, hc, by omega, by omega, fun r x' c' hr0 hr1 C' hc' => .inl ?_⟩
      have hrl : r.toNat < xs.length := by omega
      have er : ((r.toNat : Nat) : Int) = r := Int.toNat_of_nonneg hr0
      have hp' : (upd H a (.lst [.int x', .int y, .int c'])) p = some (.lst xs) := by rw [upd_ne hpa]; exact hp
      refine ⟨p, xs, r, xs[r.toNat], rfl, rfl, SqL.of hp', ?_, q r.toNat _ x' c' (List.getElem?_eq_getElem hrl) C' hc'⟩
      have g := atI_nat (xs := xs) (List.getElem?_eq_getElem hrl)
      rw [er] at g
      exact g
    · have hzs : z.length ≤ sizeLine := Nat.le_trans hl1 (by decide)
      refine ⟨.str z, rfl, .ref a, rfl, .str z, rfl, .inr ⟨z, rfl, hzs, ?_⟩⟩
      refine ⟨a, x, y, c, z.length, rfl, ha, C, hc, by omega, by omega, fun r x' c' hr0 hr1 C' hc' => .inr ?_⟩
      have hrl : r.toNat < z.cps.toList.length := by
        have : z.length = z.cps.toList.length := by simp [Str.length]
        omega
      have er : ((r.toNat : Nat) : Int) = r := Int.toNat_of_nonneg hr0
      refine ⟨z, r, z.cps.toList[r.toNat], rfl, rfl, hzs, ?_, q r.toNat _ x' c' (List.getElem?_eq_getElem hrl) C' hc'⟩
      have g := atI_nat (xs := z.cps.toList) (List.getElem?_eq_getElem hrl)
      rw [er] at g
      exact g
end
end K00

set_option maxRecDepth 100000
set_option maxHeartbeats 4000000
namespace K00
open PySem PySem.Spec PyProof.Rows L2
abbrev sLawIsName : Stmt := topS 25
theorem scIsName : FnScope ["value", "letter"] ["value"] (defScope sIsName) :=
  ⟨rfl, rfl, rfl, by decide +kernel, rfl, by decide +kernel, by decide +kernel⟩
theorem scLawIsName : FnScope ["_law_value", "_law_letter"] ["_law_value"] (defScope sLawIsName) :=
  ⟨rfl, rfl, rfl, by decide +kernel, rfl, by decide +kernel, by decide +kernel⟩
theorem same_upd {H : Hp} {p : Addr} {o : HO} (h : H p = none) : Same H (upd H p o) := fun b x e => by
  rw [upd_ne (ne_of_none e h)]
  exact e
def isLet (c : Nat) : Bool := decide (97 ≤ c ∧ c ≤ 122)
/-- what a name is, by its signs -/
def nameS (z : Str) : Bool := decide (1 ≤ z.length ∧ z.length ≤ 8) && z.cps.toList.all isLet
inductive NameOf (K : PySem.W.Frag) (H : Hp) : V → Bool → Prop
  | str (z : Str) (h : z.length ≤ 1000) (ok : ∀ c ∈ z.cps.toList, c < 0x110000) : NameOf K H (.str z) (nameS z)
  | odd {v : V} {t : String} (h : TyX K H v (.type t)) (k : kitB t "str" = some false) : NameOf K H v false
def spName (K : PySem.W.Frag) : Sp := fun vs H Q _ => ∃ (v : V) (b : Bool), vs = [v] ∧ NameOf K H v b ∧ ∀ H', Same H H' → Q (.bl b) H'
theorem lc_str {x : Str} {g : TG} {tt : TT} {te : TE} {vs : List Nat} {σ : L2.St} {H1 : Hp} {D : Addr} {Qd : Hp → Prop} (Pv : Nat → Hp → Prop) (h0 : Pv 0 (upd H1 D (.lst [])))
    (hs : ∀ i c H, x.cps.toList[i]? = some c → Pv i H → g (.str ⟨#[c]⟩) (wipe σ vs) H fun σ2 H2 => wipe σ2 vs = wipe σ vs ∧ tt σ2 H2 fun b H3 =>
      if b = true then te σ2 H3 fun y H4 => ∃ acc, H4 D = some (.lst acc) ∧ acc.length < sizeLine ∧ Pv (i + 1) (upd H4 D (.lst (acc ++ [y]))) else Pv (i + 1) H3) (hd : ∀ H, Pv x.cps.toList.length H → Qd H) :
    ∃ W : Nat → Nat → Hp → Prop, (∃ m, W 0 m (upd H1 D (.lst []))) ∧ ∀ i m H, W i m H →
      ((Its x).stop i H ∧ Qd H) ∨ ((Its x).go i H ∧ ∃ Nx : Hp → Prop, (∀ H', Nx H' → ∃ m', m' < m ∧ W (i + 1) m' H') ∧ ∀ y H', (Its x).yld i H y H' → g y (wipe σ vs) H' fun σ2 H2 => wipe σ2 vs = wipe σ vs ∧ tt σ2 H2 fun b H3 =>
        if b = true then te σ2 H3 fun y H4 => ∃ acc, H4 D = some (.lst acc) ∧ acc.length < sizeLine ∧ Nx (upd H4 D (.lst (acc ++ [y]))) else Nx H3) := by
  refine ⟨fun i m H => m = x.cps.size - i ∧ i ≤ x.cps.size ∧ Pv i H, ⟨x.cps.size, by simp, Nat.zero_le _, h0⟩, ?_⟩
  rintro i m H ⟨rfl, hi, p⟩
  by_cases hlt : i < x.cps.size
  · refine .inr ⟨hlt, Pv (i + 1), fun H' p' => ⟨x.cps.size - (i + 1), by omega, rfl, hlt, p'⟩, fun y H' hy => ?_⟩
    obtain ⟨rfl, c, hc, rfl⟩ := hy
    exact hs i c _ (by simpa using hc) p
  · have e : i = x.cps.size := by omega
    subst e
    exact .inl ⟨Nat.le_refl _, hd H (by simpa using p)⟩
theorem letter_in (c : Nat) : decide (c ∈ ("abcdefghijklmnopqrstuvwxyz" : Str).cps.toList) = isLet c := by
  have e : ("abcdefghijklmnopqrstuvwxyz" : Str).cps.toList = List.range' 97 26 := by decide +kernel
  rw [e]
  unfold isLet
  refine decide_eq_decide.mpr ?_
  rw [List.mem_range'_1]
  omega
section
variable {P : Program} {w : World} {K : PySem.W.Frag} {mg : Str → Option Value} {base : Heap}
theorem ok_isName {f : Addr} {fd : FuncData} {tl tm : Tok} (F : Fun K "is_name" "is_name" sIsName f fd) (mi : mg "isinstance" = none) (ms : mg "str" = none) (ml : mg "len" = none) (ma : mg "all" = none) (gL : mg "LETTERS" = some (.str "abcdefghijklmnopqrstuvwxyz" tl)) (gM : mg "MAX_LETTERS" = some (.int 8 tm)) :
    FnOk P w K mg base CX0 1 f fd ["value"] (spName K) := by
  refine F.ok scIsName (fun vs H Q E h => ?_) (fun cdv A outer s H vs Q E hr h => ?_)
  · obtain ⟨v, b, rfl, _⟩ := h
    rfl
  · obtain ⟨v, b, rfl, hn, q⟩ := h
    refine ⟨_, pss_cons (ps_if (PW.pt (pw_or (pt_not (pt_val (pe_callB call_isi (by rfl) mi (by decide +kernel) (pa_cons (pv 0) (pa_cons (pe_bltn (v := .ty "str") (by rfl) ms (by decide +kernel) rfl) pa_nil)))))
          (pw_or1 (pt_not (pt_chain op_le op_le pe_int (pe_callB call_len_str (by rfl) ml PySem.boot_len (pa_cons (pv 0) pa_nil)) (pe_glob (v := .int 8) (by rfl) gM ⟨_, rfl⟩))))))
        (pss_one (ps_ret pe_bl)) pss_nil)
      (pss_one (ps_ret (pe_callB (cr_all rfl) (by rfl) ma (by decide +kernel) (pa_cons
        (pe_lc (own := [("letter", 1)]) (g := gName 1) (tt := tYes) rfl scIsName.nd (pi_str (pv 0)) (blkOk_by (N := ["value", "letter"]) (sc := defScope sIsName) (by decide +kernel))
          (fun _ _ _ _ _ => pg_name (i := 1) scIsName.nd rfl (Or.inl rfl)) (fun _ _ _ _ _ => pts_nil) (fun _ _ _ _ _ => pe_cmpR op_in_sign (pv 1) (pe_glob (v := .str "abcdefghijklmnopqrstuvwxyz") (by rfl) gL ⟨_, rfl⟩) rfl)) pa_nil)))), ?_⟩
    cases hn with
    | odd hty hk =>
      exact ⟨v, rfl, v, .ty "str", _, _, false, rfl, .ty _, hty, kit_ty hk, _, rfl, q H (Same.refl H)⟩
    | str z hz hok =>
      refine ⟨_, rfl, .str z, .ty "str", .type "str", .type "str", true, rfl, .ty _, .base (.str z), kit_ty (by decide +kernel), true, rfl, ?_⟩
      refine ⟨.str z, rfl, z, rfl, Nat.le_trans hz (by decide), 1, _, rfl, rfl, _, rfl, ?_⟩
      refine ite2 (fun e1 => ?_) (fun e1 => ?_)
      · have h1 : (1 : Int) ≤ z.length := of_decide_eq_true e1
        refine ⟨_, _, rfl, rfl, _, rfl, ite2 (fun e2 => ?_) (fun e2 => ?_)⟩
        · have h2 : ¬ ((z.length : Int) ≤ 8) := fun q => by
            rw [decide_eq_true q] at e2
            cases e2
          have en : nameS z = false := by
            unfold nameS
            rw [decide_eq_false (by omega), Bool.false_and]
          rw [en] at q
          exact q H (Same.refl H)
        · have h2 : (z.length : Int) ≤ 8 := by
            have e3 : decide ((z.length : Int) ≤ 8) = true := by
              cases e4 : decide ((z.length : Int) ≤ 8) with
              | true => rfl
              | false =>
                rw [e4] at e2
                exact absurd rfl e2
            exact of_decide_eq_true e3
          refine ⟨.str z, rfl, z, rfl, fun D hD => ?_⟩
          have ltb : z.cps.toList.length ≤ 8 := by
            have : z.length = z.cps.toList.length := by simp [Str.length]
            omega
          refine lc_str (fun i H' => H' = upd H D (.lst ((z.cps.toList.take i).map fun c => V.bl (isLet c)))) rfl (fun i c H' hc hP => ?_) (fun H' hP => ?_)
          · subst hP
            refine ⟨rfl, _, rfl, c, _, rfl, rfl, _, upd_same, ?_, ?_⟩
            · rw [List.length_map, List.length_take]
              have : sizeLine = sizeLine := rfl
              rw [sizeLine_eq]
              omega
            · rw [upd_upd, List.take_add_one, hc, List.map_append, letter_in]
              rfl
          · subst hP
            refine ⟨D, z.cps.toList.map isLet, rfl, SqL.of ?_, ?_⟩
            · rw [upd_same, List.take_length, List.map_map]
              rfl
            · have en : nameS z = (z.cps.toList.map isLet).all id := by
                unfold nameS
                rw [decide_eq_true (by omega), Bool.true_and, List.all_map]
                rfl
              rw [← en]
              exact q _ (same_upd hD)
      · have h1 : ¬ (1 : Int) ≤ z.length := fun h => e1 (decide_eq_true h)
        have en : nameS z = false := by
          unfold nameS
          rw [decide_eq_false (by omega), Bool.false_and]
        rw [en] at q
        exact ⟨_, rfl, q H (Same.refl H)⟩
end
end K00

set_option maxRecDepth 100000
set_option maxHeartbeats 4000000
namespace K00
open PySem PySem.Spec PyProof.Rows L2
theorem let_le (c : Nat) : decide (([c] : List Nat) < ("a" : Str).cps.toList) = decide (c < 97) := by
  have e : ("a" : Str).cps.toList = [97] := by decide +kernel
  rw [e]
  refine decide_eq_decide.mpr ?_
  simp [List.cons_lt_cons_iff]
theorem let_ge (c : Nat) : decide (("z" : Str).cps.toList < ([c] : List Nat)) = decide (122 < c) := by
  have e : ("z" : Str).cps.toList = [122] := by decide +kernel
  rw [e]
  refine decide_eq_decide.mpr ?_
  simp [List.cons_lt_cons_iff]
def sgn (c : Nat) : V := .str ⟨#[c]⟩
def sgD (c : Nat) : PyData := .str ⟨#[c]⟩
theorem dp_sgns (K : PySem.W.Frag) (H : Hp) : ∀ l : List Nat, DpAll K H (l.map sgn) (l.map sgD)
  | [] => .nil
  | _ :: l => .cons (.str _) (dp_sgns K H l)
theorem shaped_sgns {l : List Nat} (h : ∀ c ∈ l, c < 0x110000) : SeqAt.shaped (.list (l.map sgD)) = true := by
  have h1 : ∀ l : List Nat, (∀ c ∈ l, c < 0x110000) → PyData.canLayAll0 (l.map sgD) = true := fun l => by
    induction l with
    | nil => exact fun _ => rfl
    | cons c l ih =>
      intro h
      show (PyData.canLay0 (.str ⟨#[c]⟩) && PyData.canLayAll0 (l.map sgD)) = true
      rw [ih fun d hd => h d (List.mem_cons_of_mem _ hd)]
      have hc := h c List.mem_cons_self
      simp [PyData.canLay0, PyData.strOk, hc]
  have h2 : ∀ l : List Nat, PyData.depthAll (l.map sgD) ≤ 1 := fun l => by
    induction l with
    | nil => decide
    | cons c l ih =>
      show max (PyData.depth (.str ⟨#[c]⟩)) (PyData.depthAll (l.map sgD)) ≤ 1
      have : PyData.depth (.str ⟨#[c]⟩) ≤ 1 := by simp [PyData.depth]
      omega
  unfold SeqAt.shaped
  rw [Bool.and_eq_true]
  refine ⟨?_, ?_⟩
  · show PyData.canLayAll0 (l.map sgD) = true
    exact h1 l h
  · refine decide_eq_true ?_
    show PyData.depthAll (l.map sgD) + 1 ≤ 64
    have := h2 l
    omega
theorem all_filter (l : List Nat) : l.all isLet = (l.filter fun c => !isLet c).isEmpty := by
  induction l with
  | nil => rfl
  | cons c l ih =>
    rw [List.all_cons, List.filter_cons, ih]
    cases isLet c <;> rfl
theorem eqv_sgns (l : List Nat) : PyData.eqv (.list (l.map sgD)) (.list []) = l.isEmpty := by
  cases l with
  | nil => rfl
  | cons c l => rfl
section
variable {P : Program} {w : World} {K : PySem.W.Frag} {mg : Str → Option Value} {base : Heap}
theorem ok_lawIsName {f : Addr} {fd : FuncData} (F : Fun K "_law_is_name" "_law_is_name" sLawIsName f fd) (mi : mg "isinstance" = none) (ms : mg "str" = none) (ml : mg "len" = none) :
    FnOk P w K mg base CX0 1 f fd ["_law_value"] (spName K) := by
  refine F.ok scLawIsName (fun vs H Q E h => ?_) (fun cdv A outer s H vs Q E hr h => ?_)
  · obtain ⟨v, b, rfl, _⟩ := h
    rfl
  · obtain ⟨v, b, rfl, hn, q⟩ := h
    refine ⟨_, pss_cons (ps_if (PW.pt (pw_or (pt_not (pt_val (pe_callB call_isi (by rfl) mi (by decide +kernel) (pa_cons (pv 0) (pa_cons (pe_bltn (v := .ty "str") (by rfl) ms (by decide +kernel) rfl) pa_nil)))))
          (pw_or1 (pt_not (pt_chain op_le op_le pe_int (pe_callB call_len_str (by rfl) ml PySem.boot_len (pa_cons (pv 0) pa_nil)) pe_int)))))
        (pss_one (ps_ret pe_bl)) pss_nil)
      (pss_one (ps_ret (pe_cmpR (op_eqD hr.units)
        (pe_lc (own := [("_law_letter", 1)]) (g := gName 1) rfl scLawIsName.nd (pi_str (pv 0)) (blkOk_by (N := ["_law_value", "_law_letter"]) (sc := defScope sLawIsName) (by decide +kernel))
          (fun _ _ _ _ _ => pg_name (i := 1) scLawIsName.nd rfl (Or.inl rfl)) (fun _ _ _ _ _ => pts_one (pt_not (pt_chain op_le_str op_le_str pe_str (pv 1) pe_str))) (fun _ _ _ _ _ => pv 1)) (pe_lst pa_nil) (nomark _)))), ?_⟩
    cases hn with
    | odd hty hk =>
      exact ⟨v, rfl, v, .ty "str", _, _, false, rfl, .ty _, hty, kit_ty hk, _, rfl, q H (Same.refl H)⟩
    | str z hz hok =>
      refine ⟨_, rfl, .str z, .ty "str", .type "str", .type "str", true, rfl, .ty _, .base (.str z), kit_ty (by decide +kernel), true, rfl, ?_⟩
      refine ⟨.str z, rfl, z, rfl, Nat.le_trans hz (by decide), 1, _, rfl, rfl, _, rfl, ?_⟩
      refine ite2 (fun e1 => ?_) (fun e1 => ?_)
      · have h1 : (1 : Int) ≤ z.length := of_decide_eq_true e1
        refine ⟨_, _, rfl, rfl, _, rfl, ite2 (fun e2 => ?_) (fun e2 => ?_)⟩
        · have h2 : ¬ ((z.length : Int) ≤ 8) := fun q => by
            rw [decide_eq_true q] at e2
            cases e2
          have en : nameS z = false := by
            unfold nameS
            rw [decide_eq_false (by omega), Bool.false_and]
          rw [en] at q
          exact q H (Same.refl H)
        · have h2 : (z.length : Int) ≤ 8 := by
            have e3 : decide ((z.length : Int) ≤ 8) = true := by
              cases e4 : decide ((z.length : Int) ≤ 8) with
              | true => rfl
              | false =>
                rw [e4] at e2
                exact absurd rfl e2
            exact of_decide_eq_true e3
          have ltb : z.cps.toList.length ≤ 8 := by
            have : z.length = z.cps.toList.length := by simp [Str.length]
            omega
          refine ⟨.str z, rfl, z, rfl, fun D hD => ?_⟩
          have bnd : ∀ i, ((z.cps.toList.take i).filter fun c => !isLet c).length ≤ 8 := fun i => Nat.le_trans (List.length_filter_le _ _) (by rw [List.length_take]; omega)
          refine lc_str (fun i H' => H' = upd H D (.lst (((z.cps.toList.take i).filter fun c => !isLet c).map sgn))) rfl (fun i c H' hc hP => ?_) (fun H' hP => ?_)
          · subst hP
            have step : ((z.cps.toList.take (i + 1)).filter fun c => !isLet c) = ((z.cps.toList.take i).filter fun c => !isLet c) ++ (if isLet c = true then [] else [c]) := by
              rw [List.take_add_one, hc, List.filter_append]
              congr 1
              cases e : isLet c <;> simp [e]
            have el : isLet c = ((!decide (([c] : List Nat) < ("a" : Str).cps.toList)) && !decide (("z" : Str).cps.toList < ([c] : List Nat))) := by
              rw [let_le, let_ge]
              unfold isLet
              by_cases a1 : 97 ≤ c <;> by_cases a2 : c ≤ 122 <;> simp [a1, a2] <;> omega
            refine ⟨rfl, .str ⟨#[c]⟩, rfl, "a", ⟨#[c]⟩, rfl, rfl, _, rfl, ite2 (fun e5 => ?_) (fun e5 => ?_)⟩
            · refine ⟨⟨#[c]⟩, "z", rfl, rfl, _, rfl, ?_⟩
              have f5 : decide (([c] : List Nat) < ("a" : Str).cps.toList) = false := by
                cases e : decide (([c] : List Nat) < ("a" : Str).cps.toList) with
                | false => rfl
                | true =>
                  have e5' : (!decide (([c] : List Nat) < ("a" : Str).cps.toList)) = true := e5
                  rw [e] at e5'
                  cases e5'
              rw [f5] at el
              show if (!(!decide (("z" : Str).cps.toList < ([c] : List Nat)))) = true then _ else _
              have el' : isLet c = !decide (("z" : Str).cps.toList < ([c] : List Nat)) := by
                rw [el]
                simp
              rw [← el']
              cases e : isLet c with
              | true =>
                rw [e] at step
                refine iteF ?_
                show upd H D _ = upd H D _
                rw [step]
                simp
              | false =>
                rw [e] at step
                refine iteT ?_
                refine ⟨_, rfl, _, upd_same, ?_, ?_⟩
                · rw [List.length_map]
                  have := bnd i
                  rw [sizeLine_eq]
                  omega
                · rw [upd_upd, step, List.map_append]
                  rfl
            · have f5 : decide (([c] : List Nat) < ("a" : Str).cps.toList) = true := by
                cases e : decide (([c] : List Nat) < ("a" : Str).cps.toList) with
                | true => rfl
                | false =>
                  refine absurd ?_ e5
                  show (!decide (([c] : List Nat) < ("a" : Str).cps.toList)) = true
                  rw [e]
                  rfl
              rw [f5] at el
              have e : isLet c = false := by
                rw [el]
                simp
              rw [e] at step
              refine ⟨_, rfl, iteT ?_⟩
              refine ⟨_, rfl, _, upd_same, ?_, ?_⟩
              · rw [List.length_map]
                have := bnd i
                rw [sizeLine_eq]
                omega
              · rw [upd_upd, step, List.map_append]
                rfl
          · subst hP
            refine ⟨Nat.zero_le _, fun p hp => ?_⟩
            have hDp : D ≠ p := fun z => by
              rw [← z, upd_same] at hp
              cases hp
            refine ⟨.list ((z.cps.toList.filter fun c => !isLet c).map sgD), .list [], .lst (SqL.of ?_) (dp_sgns K _ _), .lst (SqL.of upd_same) .nil, shaped_sgns fun c hc => hok c (List.mem_filter.mp hc).1, rfl, ?_⟩
            · rw [upd_ne hDp, upd_same, List.take_length]
            · rw [eqv_sgns]
              have en : nameS z = (z.cps.toList.filter fun c => !isLet c).isEmpty := by
                unfold nameS
                rw [decide_eq_true (by omega), Bool.true_and, all_filter]
              rw [← en]
              exact q _ ((same_upd hD).trans (same_upd hp))
      · have h1 : ¬ (1 : Int) ≤ z.length := fun h => e1 (decide_eq_true h)
        have en : nameS z = false := by
          unfold nameS
          rw [decide_eq_false (by omega), Bool.false_and]
        rw [en] at q
        exact ⟨_, rfl, q H (Same.refl H)⟩
end
end K00

set_option maxRecDepth 100000
set_option maxHeartbeats 4000000
/-! own exception classes over any built-in one, with an __init__ of their own -/
namespace PySem
namespace KX
open PySem.W PySem.Calls PyProof.Rows
/-- what of a built-in class's own __init__ is asked -/
structure InitF (B initId : String) : Prop where
  kind : builtinKind initId = some .slot
  split : splitId initId = some (B, "__init__")
  row : Manifest.signature? initId = some ⟨.positional, "*", B, .self, [⟨"args", .varPos, false⟩]⟩
  star : (B != "*") = true
  plain : plainId initId = true
  entry : entryFor table initId = some Builtin.«BaseException.__init__»
theorem initF_of {B N I : String} {bm : List Value} (F : ExcBaseFacts B N I bm) : InitF B I := ⟨F.initKind, F.initSplit, F.initRow, F.noStar, F.init.plain, F.initEntry⟩
theorem initF_Key : InitF "KeyError" "KeyError.__init__" :=
  let F := excClass_KeyError
  ⟨F.initKind, F.initSplit, F.initSig, F.notStar, F.init.plain, F.initEntry⟩
section
variable {M : Model} {A : Around} {E : Value → Shared → Prop} {h : Heap} {g : Array GenState} {d : Drawn} {t : Nat} {os : OsState}
variable {nm qn : Str} {C N : Addr} {bs bm bmB : List Value} {hdct : Bool} {sn : List Str} {sub : List Value} {ab : Bool} {col : Option Bool} {dd : Option Addr} {k0 k1 k2 k3 k5 : Option Value} {B newId initId : String}
theorem mem_over {b : Value} (hm : bm.contains b = true) : (Value.ref C :: bm).contains b = true := by rw [List.contains_cons, hm, Bool.or_true]
theorem non_over {X : String} (hm : bm.contains (.type X) = false) : (Value.ref C :: bm).contains (.type X) = false := by
  rw [List.contains_cons, hm]
  rfl
theorem new_checked (F : ExcBaseFacts B newId initId bmB) (hm : bm.contains (.type B) = true) {us : List Value} {Q : Unit → Shared → Prop}
    (oC : h.get? C = some (excClassObj nm qn C N bs bm hdct sn sub ab col dd k0 k1 k2 k3 k5 newId)) (q : Q () ⟨h, g, d, t, os⟩) :
    wpAny M A (checkBuiltinCall newId ⟨.ref C :: us, []⟩) Q E ⟨h, g, d, t, os⟩ := by
  have f1 := mem_over (C := C) hm
  have f2 := F.noStar
  simp only [checkBuiltinCall, F.newKind, F.newSplit, F.newRow]
  repeat (first
    | refine wpAny_loadPart_at oC ?_
    | (refine wpAny_isSubtype_exc oC ?_; rw [f1])
    | refine wpAny_staticBase_exc oC ?_
    | refine wpAny_madeBy_exc oC ?_
    | simp only [bne_self_eq_false, Bool.false_eq_true, if_false]
    | wp_step)
  exact q
theorem init_checked (F : InitF B initId) (hm : bm.contains (.type B) = true) {e : Addr} {oe : Obj} {us : List Value} {Q : Unit → Shared → Prop} {nw : String}
    (oC : h.get? C = some (excClassObj nm qn C N bs bm hdct sn sub ab col dd k0 k1 k2 k3 k5 nw)) (he : h.get? e = some oe) (hcls : oe.cls = .ref C) (q : Q () ⟨h, g, d, t, os⟩) :
    wpAny M A (checkBuiltinCall initId ⟨.ref e :: us, []⟩) Q E ⟨h, g, d, t, os⟩ := by
  have f1 := mem_over (C := C) hm
  have f2 := F.star
  simp only [checkBuiltinCall, F.kind, F.split, F.row]
  repeat (first
    | (with_reducible refine wpAny_loadPart_at he ?_; rw [hcls])
    | with_reducible refine wpAny_loadPart_at oC ?_
    | (with_reducible refine wpAny_isSubtype_exc oC ?_; rw [f1])
    | wp_step)
  refine wpAny_onRaise ?_
  have f3 : ∀ (a b : String) (n : Nat), Bind.check ⟨.positional, "*", B, .self, [⟨"args", .varPos, false⟩]⟩ a b n (List.map (fun x => x.fst) ({ pos := Value.ref e :: us } : Args).kw) = pure () :=
    fun _ _ _ => check_star_args _ _ _ _ _ _
  rw [f3]
  exact wpAny_pure q
end
section
variable {prog : Program} {w : World} {A : Around} {E : Value → Shared → Prop} {R : Result → Shared → Prop} {h : Heap} {g : Array GenState} {d : Drawn} {t : Nat} {os : OsState}
variable {nm qn : Str} {C N : Addr} {bs bm bmB : List Value} {hdct : Bool} {sn : List Str} {sub : List Value} {ab : Bool} {col : Option Bool} {dd : Option Addr} {k0 k1 k2 k3 k5 : Option Value} {B newId initId : String}
/-- what a class over a built-in one must say -/
structure Over (bm : List Value) (B : String) : Prop where
  has : bm.contains (.type B) = true
  noA : bm.contains (.type "AttributeError") = false
  noN : bm.contains (.type "NameError") = false
theorem made_new (F : ExcBaseFacts B newId initId bmB) (O : Over bm B) {us : List Value} (oC : h.get? C = some (excClassObj nm qn C N bs bm hdct sn sub ab col dd k0 k1 k2 k3 k5 newId))
    (q : R (.ok (.ret (.ref (h.objs.size + 1)))) ⟨(h.push (W.kdv_tup us)).push (HandSPX.excO C h.objs.size), g, d, t, os⟩) (hus : us.length ≤ sizeLine) :
    codeAny (model prog w) A (.builtin newId ⟨.ref C :: us, []⟩) R ⟨h, g, d, t, os⟩ := by
  have e1 := F.ends
  have f1 := mem_over (C := C) O.has
  have f2 := non_over (C := C) O.noA
  have f3 := non_over (C := C) O.noN
  refine codeAny_builtinAt F.entry ?_
  unfold Builtin.«BaseException.__new__»
  refine wpAt_bind ?_
  show wpAt _ _ _ (stack >>= _) _ _ _
  refine wpAt_bind (wpAt_stack fun p below => wpAt_of_wpAny ?_)
  wp_walk
  refine wpAt_of_wpAny ?_
  rw [F.owner]
  repeat (first
    | with_reducible refine wpAny_madeHere_exc F.canon oC ?_
    | with_reducible refine wpAny_loadPart_at oC ?_
    | (with_reducible refine wpAny_isSubtype_exc oC ?_; first | rw [f1] | rw [f2] | rw [f3])
    | wp_step)
  show R _ _
  rw [Heap.size_push]
  exact q
theorem made_by_type (F : ExcBaseFacts B newId initId bmB) (O : Over bm B) {us : List Value} {fI : Addr} {Q : Fin → Shared → Prop}
    (oC : h.get? C = some (excClassObj nm qn C N bs bm hdct sn sub ab col dd k0 k1 k2 k3 k5 newId))
    (hi : W.Looks (model prog w) h (typeLookup (.ref C) "__init__") (some (.ref fI))) (hb : ∀ self, W.Looks (model prog w) h (bindSpecial (.ref fI) self) (.ref fI, [self])) (hus : us.length ≤ sizeLine)
    (q : codeAny (model prog w) A (.call (.ref fI) ⟨.ref (h.objs.size + 1) :: us, []⟩)
      (fun r s' => match r with
        | .ok (.ret v) => v = .none ∧ Q (.done (.ret (.ref (h.objs.size + 1)))) s'
        | .ok _ => False
        | .error e => E e s') ⟨(h.push (W.kdv_tup us)).push (HandSPX.excO C h.objs.size), g, d, t, os⟩) :
    wpAny (model prog w) A (Builtin.«type.__call__» ⟨.ref C :: us, []⟩) Q E ⟨h, g, d, t, os⟩ := by
  repeat (first
    | with_reducible refine wpAny_loadPart_at oC ?_
    | with_reducible refine wpAny_madeBy_exc oC ?_
    | wp_step)
  refine codeAny_call_builtin_code (Code.quiet_builtin _ F.quiet) (new_checked F O.has oC ?_)
  refine made_new F O oC ?_ hus
  show wpAny _ _ _ _ _ _
  have kp : ∀ b o, h.get? b = some o → ((h.push (W.kdv_tup us)).push (HandSPX.excO C h.objs.size)).get? b = some o := fun b o e => Heap.get?_push_of_some _ (Heap.get?_push_of_some _ e)
  have oC' := kp _ _ oC
  have oe : ((h.push (W.kdv_tup us)).push (HandSPX.excO C h.objs.size)).get? (h.objs.size + 1) = some (HandSPX.excO C h.objs.size) := by heap_get
  have fC : (Value.ref C :: bm).contains (.ref C) = true := by simp
  have i1 := hi.keeps kp
  have b1 := (hb (.ref (h.objs.size + 1))).keeps kp
  unfold isInstance
  repeat (first
    | with_reducible refine wpAny_loadPart_at oe ?_
    | (with_reducible refine wpAny_isSubtype_exc oC' ?_; rw [fC])
    | wp_step)
  show wpAny _ _ (typeLookup (.ref C) _) _ _ _
  refine i1.at ?_
  refine wpAny_holding (wpAny_bind (b1.at ?_))
  refine wpAny_bind (wpAny_call (codeAny_mono q fun r s' z => ?_))
  rcases r with e | (v | _ | _ | _) <;> first | exact z | exact z.elim | skip
  obtain ⟨rfl, z⟩ := z
  first
    | exact wpAny_pure (wpAny_pure z)
    | (wp_walk; exact z)
theorem made_call (F : ExcBaseFacts B newId initId bmB) (O : Over bm B) {us : List Value} {fI : Addr}
    (oC : h.get? C = some (excClassObj nm qn C N bs bm hdct sn sub ab col dd k0 k1 k2 k3 k5 newId))
    (hi : W.Looks (model prog w) h (typeLookup (.ref C) "__init__") (some (.ref fI))) (hb : ∀ self, W.Looks (model prog w) h (bindSpecial (.ref fI) self) (.ref fI, [self])) (hus : us.length ≤ sizeLine)
    (q : codeAny (model prog w) (A.under (.builtin "type.__call__" ⟨.ref C :: us, []⟩)) (.call (.ref fI) ⟨.ref (h.objs.size + 1) :: us, []⟩) (W.InitBack (h.objs.size + 1) R)
      ⟨(h.push (W.kdv_tup us)).push (HandSPX.excO C h.objs.size), g, d, t, os⟩) :
    codeAny (model prog w) A (.call (.ref C) ⟨us, []⟩) R ⟨h, g, d, t, os⟩ := by
  have f1 := tc_lookup
  have f2 := tc_bind (.ref C)
  have f3 : (⟨h, g, d, t, os⟩ : Shared).TypeIs (.ref C) "type" := ⟨_, oC, rfl⟩
  refine codeAny_of_tree ?_
  show wpAny _ _ (callAny (.ref C) _) _ _ _
  repeat (any_goals (first
    | assumption
    | with_reducible refine wpAny_loadPart_at oC ?_
    | wp_step))
  refine ⟨rfl, ?_⟩
  refine codeAny_call_builtin_at (Code.quiet_builtin _ (by decide +kernel)) entry_typeCall (wpAny_check_type_call_sub oC (made_by_type F O oC hi hb hus ?_))
  refine codeAny_mono q fun r s' z => ?_
  rcases r with e | (v | _ | _ | _) <;> exact z
/-- B.__init__(e, ..): the args are laid anew -/
theorem init_call (F : InitF B initId) (hm : bm.contains (.type B) = true) {e t0 : Addr} {us : List Value} {nw : String}
    (oC : h.get? C = some (excClassObj nm qn C N bs bm hdct sn sub ab col dd k0 k1 k2 k3 k5 nw)) (he : h.get? e = some (HandSPX.excO C t0)) (hus : us.length ≤ sizeLine)
    (q : ∀ h' t1, (∀ b o, b ≠ e → h.get? b = some o → h'.get? b = some o) → h'.get? e = some (HandSPX.excO C t1) → R (.ok (.ret .none)) ⟨h', g, d, t, os⟩) :
    codeAny (model prog w) A (.call (.builtin initId) ⟨.ref e :: us, []⟩) R ⟨h, g, d, t, os⟩ := by
  refine codeAny_call_builtin F.plain F.entry (init_checked F hm oC he rfl ?_)
  wp_walk
  refine q _ h.objs.size (fun b o hb ho => ?_) ?_
  · rw [Heap.get?_update_other _ _ (Ne.symm hb)]
    exact Heap.get?_push_of_some _ ho
  · rw [Heap.get?_update_self _ (Heap.get?_push_of_some _ he) rfl]
    rfl
end
section
open Builtin Builtin.ObjectAttr
variable {prog : Program} {w : World} {A : Around} {E : Value → Shared → Prop} {R : Result → Shared → Prop} {hp : Heap} {g : Array GenState} {d : Drawn} {t : Nat} {os : OsState}
/-- self.name = v, the first field of an exception -/
theorem field_new {K : W.Frag} {name : Str} {tk : Tok} {v : Value} {x C : Addr} {fv : Array Value} {cd : ClassData}
    (X : K.In hp) (hx : hp.get? x = some { cls := .ref C, data := .fields fv }) (hcd : W.clsIn K C = some cd) (hob : cd.mro.contains (.type "object") = true) (hpass : refuseLoop (.ref x) "__setattr__" cd.mro = pure ())
    (hh : cd.hasDict = true) (ha : W.findIn K (.ref C) name = some none)
    (q : ∀ h' tk' dx, (∀ b o, b ≠ x → hp.get? b = some o → h'.get? b = some o) → hp.objs.size ≤ dx → dx ≠ x → h'.get? x = some { cls := .ref C, dict := some dx, data := .fields fv } →
      h'.Ns1 dx (fun y => if y = name then some v else none) → R (.ok (.ret .none)) ⟨h', g, d, tk', os⟩) :
    codeAny (model prog w) A (.call (.builtin "object.__setattr__") ⟨[.ref x, .str name tk, v], []⟩) R ⟨hp, g, d, t, os⟩ := by
  have J : W.InstAt hp x { cls := .ref C, data := .fields fv } C none := ⟨hx, rfl, rfl, trivial⟩
  have ne : cd.mro.isEmpty = false := by
    cases e : cd.mro with
    | nil => rw [e] at hob; cases hob
    | cons a b => rfl
  have nx : x ≠ hp.objs.size := Nat.ne_of_lt (Heap.lt_size hx)
  have f1 : W.Looks (model prog w) hp (isInstance (.ref x) (.type "object")) true := J.type.andThen (W.looks_mroIn X (by unfold W.mroIn; rw [hcd, Option.bind_some, if_neg (by rw [ne]; decide), hob]))
  have G := F.store_object
  refine codeAny_call_builtin G.slot.plain G.entry (@W.check_slot (model prog w) _ _ ⟨hp, g, d, t, os⟩ "object.__setattr__" "object" "__setattr__" (.ref x) [.str name tk, v] [] _ G.kind G.split f1 (G.args (.ref x) (.str name tk) v) ?_)
  have f2 : W.Looks (model prog w) hp (mroOf (.ref C)) cd.mro := (W.looks_clsIn X hcd).andThen .now
  have f3 : W.Looks (model prog w) hp (storeTaker? none) none := .now
  have f4 : W.Looks (model prog w) hp (classData C) cd := W.looks_clsIn X hcd
  rw [W.osa_eq, refuse_eq]
  refine wpAny_bind (wpAny_bind (J.type.at (wpAny_bind (f2.at ?_))))
  rw [hpass]
  refine wpAny_pure (wpAny_bind (J.type.at (wpAny_bind ((W.looks_findIn X ha).at (wpAny_bind (f3.at ?_))))))
  show wpAny _ _ (storeInOwnDict (.ref x) (.ref C) (.str name tk) name v false) _ _ _
  obtain ⟨c1, c2, c3, c4, c5, c6, c7, c8, c9, c10, c11⟩ := cd
  dsimp only at hh
  subst hh
  unfold storeInOwnDict ownDictForStores
  repeat (first
    | with_reducible refine HandSPX.store_in_new ?_ ?_
    | with_reducible refine wpAny_loadPart_at hx ?_
    | with_reducible refine f4.at ?_
    | wp_step)
  · exact ⟨_, #[], _, (Heap.get?_update_ne _ _ _ _ nx.symm).trans (Heap.get?_push_at rfl rfl), rfl, fun e he => absurd he (by simp), fun _ => rfl⟩
  · intro h' tk' hn' hs
    have hx1 : (hp.push { cls := .type "dict", data := .dict #[] }).get? x = some { cls := .ref C, data := .fields fv } := Heap.get?_push_of_some _ hx
    refine q h' tk' hp.objs.size (fun b o hb ho => ?_) (Nat.le_refl _) nx.symm ?_ hn'
    · exact (hs.2 b (Nat.ne_of_lt (Heap.lt_size ho))).trans ((Heap.get?_update_ne _ _ _ _ hb).trans (Heap.get?_push_of_some _ ho))
    · exact (hs.2 x nx).trans (Heap.get?_update_self _ hx1 rfl)
end
end KX
end PySem

set_option maxRecDepth 100000
set_option maxHeartbeats 4000000
/-! rules over the layer for such classes -/
namespace KX
open PySem PySem.Spec PyProof.Rows L2 PySem.KX
/-- the class at C: made as Bn makes, its base's __init__ is Bi's -/
structure ExG (K : PySem.W.Frag) (C : Addr) (Bn newId Bi : String) : Prop where
  cls : ∃ nm q N bs bm sn sub ab col dd k0 k1 k2 k3 k5, K.lookup C = some (excClassObj nm q C N bs bm true sn sub ab col dd k0 k1 k2 k3 k5 newId) ∧ Over bm Bn ∧ bm.contains (.type Bi) = true ∧ bm.contains (.type "object") = true ∧ ∀ self, refuseLoop self "__setattr__" bm = pure ()
  sa : PySem.W.findIn K (.ref C) "__setattr__" = some (some (.builtin "object.__setattr__"))
  exC : PySem.W.subIn K (.ref C) (.type "BaseException") = some true
  tyC : PySem.W.typeIn K (.ref C) = some (.type "type")
  kC : PySem.W.keepIn K (.ref C) = true
section
variable {X : Cx} {pins : List (Addr × Obj)} {σ : L2.St} {H : Hp} {s : Shared} {a C : Addr} {f : Str} {y : V} {u : Value} {Bn newId Bi : String} {E : Value → Shared → Prop} {A : Around}
/-- self.f = y, the first one -/
theorem put_new {Q : Unit → Shared → Prop} (T : ExG X.K C Bn newId Bi) (I : Inv X pins σ H s) (at_ : H a = some (exo a C none)) (no : PySem.W.findIn X.K (.ref C) f = some none) (r : RelV y u)
    (q : ∀ d s', H d = none → d ≠ a → Inv X pins σ (upd (upd H d (exd d [(f, y)])) a (exo a C (some d))) s' → Q () s') : wpAny (model X.prog X.w) A (setAttr (.ref a) f u) Q E s := by
  obtain ⟨nm, qn, N, bs, bm, sn, sub, ab, col, dd, k0, k1, k2, k3, k5, lC, hO, hB, hob, hp⟩ := T.cls
  have cC : PySem.W.clsIn X.K C = some { name := nm, bases := bs, mro := .ref C :: bm, ns := N, qualname := qn, hasDict := true, slotNames := sn, subclasses := sub, abstract := ab, collection := col, hasDel := false } := by
    unfold PySem.W.clsIn
    rw [lC] <;> rfl
  obtain ⟨t1, ha⟩ := exo_at I.hok at_
  obtain ⟨hh, gg, dr, tt, os⟩ := s
  refine PySem.W.set_plain I.kIn (ox := { cls := .ref C, dict := none, data := .fields #[.ref t1, .none, .none, .none, .bool false, .none] }) (od := none) ⟨ha, rfl, rfl, trivial⟩ T.sa ?_
  refine field_new I.kIn ha cC (mem_over hob) (by rw [refuseLoop_ref]; exact hp _) rfl no (fun h' tk' d kp dn dne hx hn => ?_)
  have fd : H d = none := I.hok.fresh dn
  have old : ∀ {b : Addr} {o : Obj}, hh.get? b = some o → b ≠ d := fun {b o} z => Nat.ne_of_lt (Nat.lt_of_lt_of_le (Heap.lt_size z) dn)
  have una : ∀ {b : Addr}, H b = none → b ≠ a := fun {b} n z => by
    rw [z, at_] at n
    cases n
  have U : Un X.fs [] H (upd (upd H d (exd d [(f, y)])) a (exo a C (some d))) hh h' := by
    refine ⟨fun b o z n _ _ => kp b o (una n) z, fun b o z n _ _ => ⟨o.slots, kp b o (una n) z⟩, fun b o z n _ => ?_, fun b o z _ => ?_, fun b xs z => ?_, fun b o v z => ?_, fun b ps z => ⟨#[], ?_⟩⟩
    · rw [upd_ne (una n), upd_ne (old z)]
      exact n
    · by_cases hb : b = a
      · exact ⟨_, by rw [hb]; exact hx⟩
      · exact ⟨o, kp b o hb z⟩
    · rw [upd_ne (at_ne at_ z exo_tup), upd_ne (ne_of_none z fd)]
      exact z
    · rw [upd_ne (at_ne at_ z exo_frz), upd_ne (ne_of_none z fd)]
      exact z
    · rw [upd_ne (at_ne at_ z exo_tbl), upd_ne (ne_of_none z fd), z]
      simp
  refine q d _ fd dne (I.un (t' := tk') U fun b o z => ?_)
  by_cases hb : b = a
  · subst hb
    rw [upd_same] at z
    cases z
    exact exo_ok hx
  · rw [upd_ne hb] at z
    by_cases hd : b = d
    · subst hd
      rw [upd_same] at z
      cases z
      exact exd_ok hn (relO_put (fs := []) r fun g => True.intro)
    · rw [upd_ne hd] at z
      refine (I.hok b o z).stay (fun c v hc w => kp c v ?_ w) (fun c hc => ?_) (fun c xs hc => ?_)
      · rcases hc with hc | hc
        · rw [hc]
          exact hb
        · exact at_ne at_ hc exo_own
      · rw [upd_ne (at_ne at_ hc exo_own), upd_ne (ne_of_none hc fd)]
        exact hc
      · rw [upd_ne (at_ne at_ hc exo_tup), upd_ne (ne_of_none hc fd)]
        exact hc
/-- the base's __init__ run on it -/
theorem base_init {us : List Value} {initId : String} {Q : Value → Shared → Prop} (F : InitF Bi initId) (T : ExG X.K C Bn newId Bi) (I : Inv X pins σ H s) (at_ : H a = some (exo a C none)) (hl : us.length ≤ sizeLine) (q : ∀ s', Inv X pins σ H s' → Q .none s') :
    wpAny (model X.prog X.w) A (call (.builtin initId) (.ref a :: us)) Q E s := by
  obtain ⟨nm, qn, N, bs, bm, sn, sub, ab, col, dd, k0, k1, k2, k3, k5, lC, hO, hB, hob, hp⟩ := T.cls
  obtain ⟨t1, ha⟩ := exo_at I.hok at_
  obtain ⟨hh, gg, dr, tt, os⟩ := s
  refine wpAny_call (init_call F hB (I.kIn _ _ lC) ha hl fun h' t2 kp hx => ?_)
  have J := I.write (t' := tt) (x := a) (e := a) (o := exo a C none) (by rw [at_]; exact True.intro) (.inl rfl) kp ⟨_, hx⟩ (exo_ok hx)
  have eu : upd H a (exo a C none) = H := by
    funext b
    by_cases hb : b = a
    · rw [hb, upd_same, at_]
    · rw [upd_ne hb]
  rw [eu] at J
  exact q _ J
end
/-- B.__init__(self, ..) -/
def tInitG (K : PySem.W.Frag) (Bn newId Bi : String) (ta : TA) : TE := fun σ H Q => ta σ H fun vs H1 => ∃ (a C : Addr) (ws : List V), vs = .ref a :: ws ∧ ws.length ≤ 1000 ∧ ExG K C Bn newId Bi ∧ H1 a = some (exo a C none) ∧ Q .non H1
/-- self.f = e -/
def tPutG (K : PySem.W.Frag) (Bn newId Bi : String) (f : Str) (to te : TE) : TS := fun D σ H => te σ H fun y H1 => to σ H1 fun x H2 => ∃ a C : Addr, x = .ref a ∧ ExG K C Bn newId Bi ∧ PySem.W.findIn K (.ref C) f = some none ∧
  H2 a = some (exo a C none) ∧ ∀ d, H2 d = none → d ≠ a → D.nx σ (upd (upd H2 d (exd d [(f, y)])) a (exo a C (some d)))
/-- C(e, ..) as a value -/
def tNewG (C : Addr) (sp : Sp) (ta : TA) : TE := fun σ H Q => ta σ H fun vs H1 => vs.length ≤ 1000 ∧ ∀ a, H1 a = none → sp (.ref a :: vs) (upd H1 a (exo a C none)) (fun v H2 => v = .non ∧ Q (.ref a) H2) (fun _ _ _ => False)
section
variable {X : Cx} {o e : Expr} {es : List Expr} {to te : TE} {ta : TA} {f : Str} {p p' p1 p2 pos : Pos} {Bn newId Bi initId : String}
theorem ps_putG (ho : PE X o to) (he : PE X e te) (hs : swapsWith e (some (.Attribute o f p')) pos.line X.env = pure false := by rfl) : PS X (.Assign [.Attribute o f p'] e pos) (tPutG X.K Bn newId Bi f to te) := by
  refine ⟨fun pins s σ H D I h => ?_⟩
  refine plainObj_wpAny_Assign_Attribute (thn (he.run pins s σ H _ I h) fun v s1 ⟨y, H1, I1, r1, q1⟩ => thn (ho.run pins s1 σ H1 _ I1 q1) fun u s2 ⟨x, H2, I2, r2, a, C, ex, T, no, ea, q⟩ => ?_) hs
  subst ex
  obtain rfl : u = Value.ref a := r2
  exact put_new T I2 ea no r1 fun d s' n ne J => ⟨σ, _, J, q d n ne⟩
/-- .. by the name of a built-in class -/
theorem pe_initB {x : Str} {pl : Sem Bool} (F : InitF Bi initId) (hg : Gl X x) (hm : X.mg x = none) (hv : bootBuiltins x = some (.type Bi)) (vV : PySem.W.findCls X.K (.type Bi) (.type "type") "__init__" = some (.val (.builtin initId)))
    (hty : typeOf (.type Bi) = pure (.type "type")) (hst : Manifest.isStub Bi = false) (hhd : PySem.W.handedIn (.builtin initId) = true) (ha : PA X (e :: es) ta) (hn : x ≠ "__name__" := by decide) (hdb : (x == ("__debug__" : Str)) = false := by decide)
    (hc : eval (.Call (.Attribute (.Name x p1) "__init__" p2) (e :: es) [] pos) X.env = (do
      let ov ← eval (.Name x p1) X.env
      standAt p2.atName
      let (g, us) ← holding [ov] (getMethod ov "__init__" pl)
      callWith pos g us (backTo pos (starEach (e :: es) X.env)) (backToKw pos (keywordEach [] X.env))) := by rfl)
    (he : starEach (e :: es) X.env = (false, eval e X.env) :: starEach es X.env := by rfl) (hpl : (backTo pos (starEach es X.env)).any (·.1) = false := by rfl) :
    PE X (.Call (.Attribute (.Name x p1) "__init__" p2) (e :: es) [] pos) (tInitG X.K Bn newId Bi ta) := by
  refine ⟨fun pins s σ H Q I h => ?_⟩
  refine PySem.W.methodCall_KW (ld_blt I hg hm hv ?_ hn hdb) hc
  obtain ⟨m, fr⟩ := I.fr
  refine PySem.W.method_type fr I.ok.mod.kin hty hst vV hhd ?_
  show wpAny _ _ (callWith pos (Value.builtin initId) [] (backTo pos (starEach (e :: es) X.env)) []) _ _ _
  refine PyProof.Rows.callWith_method1 (thn (ha.run pos pins _ σ H _ (I.tok _) h) fun us s1 hh => ?_) he hpl
  obtain ⟨vs, H1, I1, r1, a, C, ws, ev, hl, T, ea, q⟩ := hh
  subst ev
  cases r1 with
  | @cons _ u0 _ ur ra rw' =>
    obtain rfl : u0 = Value.ref a := ra
    have hlen : ur.length ≤ sizeLine := by
      rw [← Paired.length rw', sizeLine_eq]
      omega
    exact base_init F T I1 ea hlen fun s' J => ⟨.non, H1, J, rfl, q⟩
/-- .. by the name of an own class -/
theorem pe_initO {x : Str} {B : Addr} {pl : Sem Bool} (F : InitF Bi initId) (hg : Gl X x) (hm : X.mg x = some (.ref B)) (hr : PySem.W.readsIn X.K B (.type "type") = true) (hsp : PySem.W.specialIn X.K (.ref B) "__getattribute__" = some (some (.builtin "type.__getattribute__")))
    (vV : PySem.W.findCls X.K (.ref B) (.type "type") "__init__" = some (.val (.builtin initId))) (hhd : PySem.W.handedIn (.builtin initId) = true) (ha : PA X (e :: es) ta) (hdb : (x == ("__debug__" : Str)) = false := by decide)
    (hc : eval (.Call (.Attribute (.Name x p1) "__init__" p2) (e :: es) [] pos) X.env = (do
      let ov ← eval (.Name x p1) X.env
      standAt p2.atName
      let (g, us) ← holding [ov] (getMethod ov "__init__" pl)
      callWith pos g us (backTo pos (starEach (e :: es) X.env)) (backToKw pos (keywordEach [] X.env))) := by rfl)
    (he : starEach (e :: es) X.env = (false, eval e X.env) :: starEach es X.env := by rfl) (hpl : (backTo pos (starEach es X.env)).any (·.1) = false := by rfl) :
    PE X (.Call (.Attribute (.Name x p1) "__init__" p2) (e :: es) [] pos) (tInitG X.K Bn newId Bi ta) := by
  refine ⟨fun pins s σ H Q I h => ?_⟩
  refine PySem.W.methodCall_KW (ld_glob I hg hm ?_ hdb) hc
  refine PySem.W.method_cls I.kIn hsp (PySem.W.cls_value I.kIn hr vV hhd ?_)
  show wpAny _ _ (callWith pos (Value.builtin initId) [] (backTo pos (starEach (e :: es) X.env)) []) _ _ _
  refine PyProof.Rows.callWith_method1 (thn (ha.run pos pins _ σ H _ (I.tok _) h) fun us s1 hh => ?_) he hpl
  obtain ⟨vs, H1, I1, r1, a, C, ws, ev, hl, T, ea, q⟩ := hh
  subst ev
  cases r1 with
  | @cons _ u0 _ ur ra rw' =>
    obtain rfl : u0 = Value.ref a := ra
    have hlen : ur.length ≤ sizeLine := by
      rw [← Paired.length rw', sizeLine_eq]
      omega
    exact base_init F T I1 ea hlen fun s' J => ⟨.non, H1, J, rfl, q⟩
/-- the call of such a class, up to its __init__'s end -/
theorem call_G {CX : CXT} {C fI : Addr} {k : Nat} {fd : FuncData} {ps : List Str} {sp : Sp} {iB : String} {bmB : List Value} {pins : List (Addr × Obj)} {σ : L2.St} {H1 : Hp} {s1 : Shared} {us : List Value} {vs : List V} {Qv : Value → Shared → Prop} {Q : Addr → VK}
    (FB : ExcBaseFacts Bn newId iB bmB) (T : ExG X.K C Bn newId Bi) (iC : PySem.W.findIn X.K (.ref C) "__init__" = some (some (.ref fI))) (tI : PySem.W.typeIn X.K (.ref fI) = some (.type "function"))
    (G : FnOk X.prog X.w X.K X.mg X.base CX k fI fd ps sp) (hr : Room (k + 1) X.A) (hb : Binds X.K fd ps []) (hx : Passes CX X (fun _ _ _ => False)) (I1 : Inv X pins σ H1 s1) (r1 : Vals vs us) (hz : vs.length ≤ 1000)
    (q1 : ∀ a, H1 a = none → sp (.ref a :: vs) (upd H1 a (exo a C none)) (Q a) (fun _ _ _ => False))
    (fin : ∀ (a : Addr) (u : Value) (hp2 : Heap) (s2 : Shared) (H2 : Hp) (v : V), s1.heap.objs.size ≤ a → (∀ b o, s1.heap.get? b = some o → hp2.get? b = some o) → Un (frs X.stack) [] (upd H1 a (exo a C none)) H2 hp2 s2.heap → HOk X.prog X.w H2 s2.heap →
      s2.os = s1.os → AllBare s2.gens → RelV v u → Q a v H2 → Inv X pins σ H2 s2 → u = .none ∧ Qv (.ref a) s2) :
    wpAny (model X.prog X.w) X.A (call (.ref C) us) Qv X.xe s1 := by
  obtain ⟨nm, qn, N, bs, bm, sn, sub, ab, col, dd, k0, k1, k2, k3, k5, lC, hO, hB, hob, hp⟩ := T.cls
  obtain ⟨hh, gg, dr, tk, os⟩ := s1
  have hsz : hh.objs.size ≤ hh.objs.size + 1 := Nat.le_succ _
  have hn : H1 (hh.objs.size + 1) = none := I1.hok.fresh hsz
  have hq := q1 (hh.objs.size + 1) hn
  have kk : ∀ b o, hh.get? b = some o → ((hh.push (PySem.W.kdv_tup us)).push (PySem.HandSPX.excO C hh.objs.size)).get? b = some o := fun b o e => Heap.get?_push_of_some _ (Heap.get?_push_of_some _ e)
  have hget : ((hh.push (PySem.W.kdv_tup us)).push (PySem.HandSPX.excO C hh.objs.size)).get? (hh.objs.size + 1) = some (PySem.HandSPX.excO C hh.objs.size) := by heap_get
  have I2 := I1.laid (t' := tk) (a := hh.objs.size + 1) (o := exo (hh.objs.size + 1) C none) (h' := (hh.push (PySem.W.kdv_tup us)).push (PySem.HandSPX.excO C hh.objs.size)) kk hsz (exo_ok hget)
  have r2 : Vals (V.ref (hh.objs.size + 1) :: vs) (Value.ref (hh.objs.size + 1) :: us) := .cons rfl r1
  have hl : (Value.ref (hh.objs.size + 1) :: us ++ []).length = ps.length := by
    have e := r2.length
    rw [G.len _ _ _ _ hq] at e
    rw [List.append_nil]
    exact e.symm
  have hus : us.length ≤ sizeLine := by
    rw [← Paired.length r1, sizeLine_eq]
    omega
  have bb := hb ⟨(hh.push (PySem.W.kdv_tup us)).push (PySem.HandSPX.excO C hh.objs.size), gg, dr, tk, os⟩ (Value.ref (hh.objs.size + 1) :: us) I2.kIn hl
  rw [List.append_nil] at bb
  refine wpAny_call (made_call FB hO (I1.kIn _ _ lC) (PySem.W.looks_findIn I1.kIn iC) (fun self => PySem.W.bind_fn I1.kIn self tI) hus
    (codeAny_mono (G.run _ X.stack _ _ ⟨Value.ref (hh.objs.size + 1) :: us, []⟩ (Value.ref (hh.objs.size + 1) :: us) _ _ (fun _ _ _ => False) (hr.make C us []) (I2.env0.make C us []) bb r2 hq) fun r s' hq' => ?_))
  cases r with
  | error er => exact hx pins σ _ _ er s' I2 hq'
  | ok fl =>
    cases fl with
    | ret u =>
      obtain ⟨v, H2, os2, bare2, un2, hok2, rv, q2⟩ := hq'
      have J : Inv X pins σ H2 s' := I2.call' (ch := []) os2 un2 hok2 bare2 (fun b z => absurd z (by simp))
      exact fin _ u _ s' H2 v hsz kk un2 hok2 os2 bare2 rv q2 J
    | next => exact False.elim hq'
    | brk => exact False.elim hq'
    | cont => exact False.elim hq'
theorem pe_newG {CX : CXT} {x : Str} {C fI : Addr} {k : Nat} {fd : FuncData} {ps : List Str} {sp : Sp} {iB : String} {bmB : List Value} (FB : ExcBaseFacts Bn newId iB bmB) (T : ExG X.K C Bn newId Bi) (iC : PySem.W.findIn X.K (.ref C) "__init__" = some (some (.ref fI)))
    (tI : PySem.W.typeIn X.K (.ref fI) = some (.type "function")) (G : FnOk X.prog X.w X.K X.mg X.base CX k fI fd ps sp) (hr : Room (k + 1) X.A) (hb : Binds X.K fd ps []) (hx : Passes CX X (fun _ _ _ => False)) (hg : Gl X x) (hm : X.mg x = some (.ref C)) (ha : PA X (e :: es) ta)
    (hdb : (x == ("__debug__" : Str)) = false := by decide) (he : starEach (e :: es) X.env = (false, eval e X.env) :: starEach es X.env := by rfl) (hpl : (backTo pos (starEach es X.env)).any (·.1) = false := by rfl) :
    PE X (.Call (.Name x p) (e :: es) [] pos) (tNewG C sp ta) := by
  refine ⟨fun pins s σ H Q I h => ?_⟩
  refine wpAny_Call_Name_kw (ld_glob I hg hm ?_ hdb)
  refine PySem.W.callWith_K (h₀ := X.base) I.ok.mod.kin T.kC (thn (ha.run pos pins s σ H _ I h) fun us s1 hh => ?_) he hpl
  obtain ⟨vs, H1, I1, r1, hz, q1⟩ := hh
  refine ⟨I1.kIn, ?_⟩
  show wpAny _ _ (call (.ref C) us) _ _ _
  refine call_G (Q := fun a v H2 => v = .non ∧ Q (.ref a) H2) FB T iC tI G hr hb hx I1 r1 hz q1 fun a u hp2 s2 H2 v _ _ _ _ _ _ rv q2 J => ?_
  obtain ⟨rfl, q3⟩ := q2
  exact ⟨rv, .ref a, H2, J, rfl, q3⟩
/-- raise C(e, ..) -/
theorem pmk_newG {CX : CXT} {x : Str} {C fI : Addr} {k : Nat} {fd : FuncData} {ps : List Str} {sp : Sp} {iB : String} {bmB : List Value} (FB : ExcBaseFacts Bn newId iB bmB) (T : ExG X.K C Bn newId Bi) (iC : PySem.W.findIn X.K (.ref C) "__init__" = some (some (.ref fI)))
    (tI : PySem.W.typeIn X.K (.ref fI) = some (.type "function")) (G : FnOk X.prog X.w X.K X.mg X.base CX k fI fd ps sp) (hr : Room (k + 1) X.A) (hb : Binds X.K fd ps []) (hx : Passes CX X (fun _ _ _ => False)) (hg : Gl X x) (hm : X.mg x = some (.ref C)) (ha : PA X (e :: es) ta)
    (hdb : (x == ("__debug__" : Str)) = false := by decide) (he : starEach (e :: es) X.env = (false, eval e X.env) :: starEach es X.env := by rfl) (hpl : (backTo pos (starEach es X.env)).any (·.1) = false := by rfl) :
    PMk X (.Call (.Name x p) (e :: es) [] pos) (tMkO C sp [] ta) := by
  intro pins s σ H Q I h
  refine wpAny_Call_Name_kw (ld_glob I hg hm ?_ hdb)
  refine PySem.W.callWith_K (h₀ := X.base) I.ok.mod.kin T.kC (thn (ha.run pos pins s σ H _ I h) fun us s1 hh => ?_) he hpl
  obtain ⟨vs, H1, I1, r1, hz, q1⟩ := hh
  refine ⟨I1.kIn, ?_⟩
  show wpAny _ _ (call (.ref C) us) _ _ _
  refine call_G (Q := fun a v H2 => v = .non ∧ ∃ (d : Addr) (fs : List (Str × V)), H2 a = some (exo a C (some d)) ∧ H2 d = some (exd d fs) ∧ H1 d = none ∧ Q (.ref C) (some d) (upd (del H2 a) d (.xd fs))) FB T iC tI G hr hb hx I1 r1 hz (fun a na => by simpa using q1 a na) fun a u hp2 s2 H2 v hsz kk un2 hok2 os2 bare2 rv q2 J => ?_
  obtain ⟨rfl, d, fs, ea, ed, hd1, q3⟩ := q2
  obtain ⟨h1, g1, d1, t1, os1⟩ := s1
  obtain ⟨h2, g2, d2, t2, os'⟩ := s2
  exact ⟨rv, mk_end (raises_own T.exC T.tyC) I1 hsz kk un2 hok2 os2 bare2 ea ed hd1 q3⟩
end
end KX

set_option maxRecDepth 100000
set_option maxHeartbeats 4000000
/-! isinstance of an exception that is held, with a dict or without -/
namespace PySem.KX
open PySem PySem.Spec PySem.Calls PyProof.Rows PySem.W
section
variable {prog : Program} {w : World} {A : Around} {E : Value → Shared → Prop} {s : Shared} {K : Frag} {x D : Addr}
theorem found_class {od : Option Obj} (hc : (clsIn K D).isSome = true) (ha : findIn K (.ref D) "__class__" = some (some (.builtin "object.__class__"))) (hn : specialIn K (.builtin "object.__class__") "__get__" = some (some (.builtin "getset_descriptor.__get__"))) (htk : takesIn K (.builtin "object.__class__") = some true) :
    findObj K D od "__class__" = some (.bind (.builtin "getset_descriptor.__get__") (.builtin "object.__class__")) := by
  cases od with
  | none => exact findObj_dataN hc ha hn htk
  | some o => exact findObj_data hc ha hn htk
theorem class_of_exc {ox : Obj} {od : Option Obj} {Q : Option Value → Shared → Prop} (T : L2.ExcC K D) (X : K.In s.heap) (J : InstAt s.heap x ox D od) (q : Q (some (.ref D)) { s with toks := s.toks + 1 }) :
    wpAny (model prog w) A (getAttr? (.ref x) "__class__") Q E s := by
  have hcs : (clsIn K D).isSome = true := by
    obtain ⟨cd, hc, _⟩ := any_some T.hd
    rw [hc]
    rfl
  have fd := found_class (od := od) hcs T.ha T.hn T.ht
  obtain ⟨hp, g, d, t, os⟩ := s
  have l0 := J.type (M := model prog w)
  have l1 := looks_findIn (M := model prog w) X T.hg
  have l2 := looks_findIn (M := model prog w) X T.hk
  have l3 := looks_find (M := model prog w) X J fd
  have sb : Looks (model prog w) hp (isInstance (.ref x) (.type "BaseException")) true := l0.andThen (looks_subIn X T.hs)
  have n1 : (false && onTheHeap (Value.builtin "BaseException.__getattribute__")) = false := rfl
  have n2 : (onTheHeap (Value.ref D) && Value.builtin "BaseException.__getattribute__" == Value.builtin "object.__getattribute__") = false := by
    rw [show (Value.builtin "BaseException.__getattribute__" == Value.builtin "object.__getattribute__") = false by decide +kernel]
    rfl
  unfold getAttr? getAttrBy? getAttrBy
  refine wpAny_bind (wpAny_mkText (wpAny_bind (wpAny_attempt (wpAny_holding (wpAny_bind (l0.at (wpAny_bind (l1.at ?_))))))))
  show wpAny _ _ (ite (_ = true) _ _) _ _ _
  rw [n2, if_neg Bool.false_ne_true]
  unfold getAttrByItsOwn hookBefore
  refine wpAny_bind ?_
  rw [if_pos (show onTheHeap (Value.ref D) = true from rfl)]
  refine l2.at (wpAny_bind (wpAny_attempt (wpAny_holding ?_)))
  unfold callGetattribute
  rw [n1, if_neg Bool.false_ne_true]
  unfold boundAndCalled
  rw [PySem.F.excAttr_ValueError.ga.bind (.ref x)]
  refine wpAny_bind (wpAny_pure ?_)
  show wpAny _ _ (call (.builtin "BaseException.__getattribute__") [.ref x, .str "__class__" t]) _ _ _
  refine wpAny_call (codeAny_call_builtin PySem.F.excAttr_ValueError.ga.plain PySem.F.entry_bexc_ga ?_)
  refine @check_slot (model prog w) _ _ ⟨hp, g, d, t + 1, os⟩ "BaseException.__getattribute__" "BaseException" "__getattribute__" (.ref x) [.str "__class__" t] [] _ (by decide +kernel) (by decide +kernel) sb (PySem.F.args_bexc_ga (.ref x) (.str "__class__" t)) ?_
  unfold Builtin.«object.__getattribute__»
  refine wpAny_bind (wpAny_of_eq (a := ((Value.ref x : Value), [Value.str "__class__" t])) (by first | rfl | (simp only [slotArgs]; rfl)) ?_)
  refine wpAny_bind (wpAny_pure (wpAny_bind (l0.at (wpAny_bind (l3.at ?_)))))
  show wpAny _ _ (holding [Value.builtin "object.__class__"] (call (.builtin "getset_descriptor.__get__") [.builtin "object.__class__", .ref x, .ref D]) >>= ret) _ _ _
  refine wpAny_bind (wpAny_holding (wpAny_call (class_get (s := ⟨hp, g, d, t + 1, os⟩) (ox := ox) (od := od) X J T.hm ?_)))
  refine wpAny_pure ?_
  show wpAny _ _ (handedOut (.ref D)) _ _ _
  rw [handedOut_of (v := .ref D) rfl]
  first
    | exact wpAny_pure (wpAny_pure q)
    | exact wpAny_pure q
    | exact wpAny_pure (wpAny_bind (wpAny_pure (wpAny_pure q)))
theorem kit_exc (T : L2.ExcC K D) : KitX K (.ref x) (.ref D) (fun h => ∃ ox od, InstAt h x ox D od) := by
  obtain ⟨cd, hcd, _⟩ := any_some T.hd
  unfold clsIn at hcd
  split at hcd
  · rename_i c' d' cd' sl' ho
    refine ⟨fun _ _ _ ⟨_, _, J⟩ => J.type, fun _ _ X _ A' Q' E' s' k q => ?_, fun h tp dd its n sl X htp => Bool.eq_false_iff.mpr fun z => ?_, fun X ⟨_, _, J⟩ k => class_of_exc T X J k⟩
    · unfold isType loadHead
      exact wpAny_bind (wpAny_loadPart (k _ _ (X _ _ ho)) (wpAny_pure q))
    · have e : D = tp := Value.ref.inj (beq_iff_eq.mp z)
      subst e
      cases (X _ _ ho).symm.trans htp
  · cases hcd
end
end PySem.KX
namespace KX
open PySem PySem.Spec PyProof.Rows L2 PySem.KX
/-- an exception of the class D is held at a -/
def HasExc (H : Hp) (a D : Addr) : Prop := H a = some (ExO (.ref D) a) ∨ ∃ (d : Addr) (fs : List (Str × V)), H a = some (exo a D (some d)) ∧ H d = some (exd d fs)
/-- isinstance(e, c), e an exception that is held -/
def rIsX (K : PySem.W.Frag) : List V → Hp → VK → Prop := fun xs H Q => ∃ (a D : Addr) (c : V) (u : Value) (b : Bool), xs = [.ref a, c] ∧ ClsV c u ∧ HasExc H a D ∧ ExcC K D ∧ PySem.W.kitOne K (.ref D) u = some b ∧ Q (.bl b) H
theorem call_isX {X : Cx} : CallR X (.builtin "isinstance") (rIsX X.K) := by
  intro pins s σ H xs us Q I r h
  obtain ⟨a, D, c, u, b, rfl, k, hx, T, e, q⟩ := h
  obtain ⟨u1, u2, rfl, r1, r2⟩ := vals2 r
  have e2 := k.eq r2
  subst e2
  obtain rfl : u1 = Value.ref a := r1
  have J : ∃ ox od, PySem.W.InstAt s.heap a ox D od := by
    rcases hx with ha | ⟨d, fs, ha, hd⟩
    · obtain ⟨⟨oe, vs, ho, hz, hdt, _⟩, _, _⟩ := I.hok a _ ha
      obtain ⟨oc, od, oda, osl⟩ := oe
      obtain ⟨h1, h2⟩ := hz
      dsimp only at h1 h2 hdt
      subst h1 h2 hdt
      exact ⟨_, none, ho, rfl, rfl, trivial⟩
    · obtain ⟨t1, ho⟩ := exo_at I.hok ha
      obtain ⟨mA, ⟨o, es, ep, hod, _⟩, _⟩ := exd_at I.hok hd
      exact ⟨_, some o, ho, rfl, rfl, hod⟩
  exact PySem.W.kia_one (kit_exc T) I.kIn J e (fun z => nomatch z) fun tk => ⟨.bl b, H, I.kept (t' := tk) fun _ _ z => z, rfl, q⟩
end KX

set_option maxRecDepth 100000
set_option maxHeartbeats 4000000
namespace K00
open PySem PySem.Spec PyProof.Rows L2 PySem.KX KX
def spNew (C : Addr) (f : Str) : Sp := fun vs H Q _ => ∃ (a : Addr) (v : V), vs = [.ref a, v] ∧ H a = some (exo a C none) ∧
  ∀ d H', H d = none → d ≠ a → (∀ b o, b ≠ a → H b = some o → H' b = some o) → H' a = some (exo a C (some d)) → H' d = some (exd d [(f, v)]) → Q .non H'
section
variable {P : Program} {w : World} {K : PySem.W.Frag} {mg : Str → Option Value} {base : Heap}
theorem new_fin {H : Hp} {a C d : Addr} {f : Str} {v : V} (ha : H a = some (exo a C none)) (nd : H d = none) (ne : d ≠ a) :
    (∀ b o, b ≠ a → H b = some o → (upd (upd H d (exd d [(f, v)])) a (exo a C (some d))) b = some o) ∧ (upd (upd H d (exd d [(f, v)])) a (exo a C (some d))) a = some (exo a C (some d)) ∧ (upd (upd H d (exd d [(f, v)])) a (exo a C (some d))) d = some (exd d [(f, v)]) :=
  ⟨fun b o hb e => by rw [upd_ne hb, upd_ne (ne_of_none e nd)]; exact e, upd_same, by rw [upd_ne ne, upd_same]⟩
abbrev sIParseError : Stmt := inClass (topS 11) 0
theorem scIParseError : FnScope ["self", "index"] ["self", "index"] (defScope sIParseError) :=
  ⟨rfl, rfl, rfl, by decide +kernel, rfl, by decide +kernel, by decide +kernel⟩
theorem ok_IParseError {f C : Addr} {fd : FuncData} (F : Fun K "__init__" "ParseError.__init__" sIParseError f fd) (T : ExG K C "ValueError" "ValueError.__new__" "ValueError") (no : PySem.W.findIn K (.ref C) "index" = some none)
    {B : Addr} (gB : mg "ClaimError" = some (.ref B)) (rB : PySem.W.readsIn K B (.type "type") = true) (sB : PySem.W.specialIn K (.ref B) "__getattribute__" = some (some (.builtin "type.__getattribute__"))) (vB : PySem.W.findCls K (.ref B) (.type "type") "__init__" = some (.val (.builtin "ValueError.__init__"))) : FnOk P w K mg base CX0 1 f fd ["self", "index"] (spNew C "index") := by
  refine F.ok scIParseError (fun vs H Q E h => ?_) (fun cdv A outer s H vs Q E hr h => ?_)
  · obtain ⟨a, v, rfl, _⟩ := h
    rfl
  · obtain ⟨a, v, rfl, ha, q⟩ := h
    refine ⟨_, pss_cons (ps_expr (pe_initO (Bn := "ValueError") (newId := "ValueError.__new__") (Bi := "ValueError") (initId := "ValueError.__init__") (initF_of PySem.F.excBase_ValueError) (by rfl) gB rB sB vB (by decide +kernel) (pa_cons (pv 0) (pa_cons pe_str pa_nil)))) (pss_one (ps_putG (Bn := "ValueError") (newId := "ValueError.__new__") (Bi := "ValueError") (pv 0) (pv 1))), ?_⟩
    refine ⟨_, rfl, a, C, _, rfl, (by show 1 ≤ 1000; decide), T, ha, v, rfl, _, rfl, a, C, rfl, T, no, ha, fun d nd ne => ?_⟩
    obtain ⟨h1, h2, h3⟩ := new_fin (f := "index") (v := v) ha nd ne
    exact q d _ nd ne h1 h2 h3
abbrev sIInvalidNumber : Stmt := inClass (topS 12) 0
theorem scIInvalidNumber : FnScope ["self", "number"] ["self", "number"] (defScope sIInvalidNumber) :=
  ⟨rfl, rfl, rfl, by decide +kernel, rfl, by decide +kernel, by decide +kernel⟩
theorem ok_IInvalidNumber {f C : Addr} {fd : FuncData} (F : Fun K "__init__" "InvalidNumber.__init__" sIInvalidNumber f fd) (T : ExG K C "IndexError" "IndexError.__new__" "IndexError") (no : PySem.W.findIn K (.ref C) "number" = some none)
    (gB : mg "IndexError" = none) (vB : PySem.W.findCls K (.type "IndexError") (.type "type") "__init__" = some (.val (.builtin "IndexError.__init__"))) : FnOk P w K mg base CX0 1 f fd ["self", "number"] (spNew C "number") := by
  refine F.ok scIInvalidNumber (fun vs H Q E h => ?_) (fun cdv A outer s H vs Q E hr h => ?_)
  · obtain ⟨a, v, rfl, _⟩ := h
    rfl
  · obtain ⟨a, v, rfl, ha, q⟩ := h
    refine ⟨_, pss_cons (ps_expr (pe_initB (Bn := "IndexError") (newId := "IndexError.__new__") (Bi := "IndexError") (initId := "IndexError.__init__") (initF_of PySem.F.excBase_IndexError) (by rfl) gB (by decide +kernel) vB (by kernel_rfl) (by decide +kernel) (by decide +kernel) (pa_cons (pv 0) (pa_cons pe_str pa_nil)))) (pss_one (ps_putG (Bn := "IndexError") (newId := "IndexError.__new__") (Bi := "IndexError") (pv 0) (pv 1))), ?_⟩
    refine ⟨_, rfl, a, C, _, rfl, (by show 1 ≤ 1000; decide), T, ha, v, rfl, _, rfl, a, C, rfl, T, no, ha, fun d nd ne => ?_⟩
    obtain ⟨h1, h2, h3⟩ := new_fin (f := "number") (v := v) ha nd ne
    exact q d _ nd ne h1 h2 h3
abbrev sIUnknownName : Stmt := inClass (topS 13) 0
theorem scIUnknownName : FnScope ["self", "name"] ["self", "name"] (defScope sIUnknownName) :=
  ⟨rfl, rfl, rfl, by decide +kernel, rfl, by decide +kernel, by decide +kernel⟩
theorem ok_IUnknownName {f C : Addr} {fd : FuncData} (F : Fun K "__init__" "UnknownName.__init__" sIUnknownName f fd) (T : ExG K C "LookupError" "LookupError.__new__" "KeyError") (no : PySem.W.findIn K (.ref C) "name" = some none)
    (gB : mg "KeyError" = none) (vB : PySem.W.findCls K (.type "KeyError") (.type "type") "__init__" = some (.val (.builtin "KeyError.__init__"))) : FnOk P w K mg base CX0 1 f fd ["self", "name"] (spNew C "name") := by
  refine F.ok scIUnknownName (fun vs H Q E h => ?_) (fun cdv A outer s H vs Q E hr h => ?_)
  · obtain ⟨a, v, rfl, _⟩ := h
    rfl
  · obtain ⟨a, v, rfl, ha, q⟩ := h
    refine ⟨_, pss_cons (ps_expr (pe_initB (Bn := "LookupError") (newId := "LookupError.__new__") (Bi := "KeyError") (initId := "KeyError.__init__") initF_Key (by rfl) gB (by decide +kernel) vB (by kernel_rfl) (by decide +kernel) (by decide +kernel) (pa_cons (pv 0) (pa_cons pe_str pa_nil)))) (pss_one (ps_putG (Bn := "LookupError") (newId := "LookupError.__new__") (Bi := "KeyError") (pv 0) (pv 1))), ?_⟩
    refine ⟨_, rfl, a, C, _, rfl, (by show 1 ≤ 1000; decide), T, ha, v, rfl, _, rfl, a, C, rfl, T, no, ha, fun d nd ne => ?_⟩
    obtain ⟨h1, h2, h3⟩ := new_fin (f := "name") (v := v) ha nd ne
    exact q d _ nd ne h1 h2 h3
abbrev sINothingToUndo : Stmt := inClass (topS 14) 0
theorem scINothingToUndo : FnScope ["self", "asked"] ["self", "asked"] (defScope sINothingToUndo) :=
  ⟨rfl, rfl, rfl, by decide +kernel, rfl, by decide +kernel, by decide +kernel⟩
theorem ok_INothingToUndo {f C : Addr} {fd : FuncData} (F : Fun K "__init__" "NothingToUndo.__init__" sINothingToUndo f fd) (T : ExG K C "LookupError" "LookupError.__new__" "LookupError") (no : PySem.W.findIn K (.ref C) "asked" = some none)
    (gB : mg "LookupError" = none) (vB : PySem.W.findCls K (.type "LookupError") (.type "type") "__init__" = some (.val (.builtin "LookupError.__init__"))) : FnOk P w K mg base CX0 1 f fd ["self", "asked"] (spNew C "asked") := by
  refine F.ok scINothingToUndo (fun vs H Q E h => ?_) (fun cdv A outer s H vs Q E hr h => ?_)
  · obtain ⟨a, v, rfl, _⟩ := h
    rfl
  · obtain ⟨a, v, rfl, ha, q⟩ := h
    refine ⟨_, pss_cons (ps_expr (pe_initB (Bn := "LookupError") (newId := "LookupError.__new__") (Bi := "LookupError") (initId := "LookupError.__init__") (initF_of PySem.F.excBase_LookupError) (by rfl) gB (by decide +kernel) vB (by kernel_rfl) (by decide +kernel) (by decide +kernel) (pa_cons (pv 0) (pa_cons pe_str pa_nil)))) (pss_one (ps_putG (Bn := "LookupError") (newId := "LookupError.__new__") (Bi := "LookupError") (pv 0) (pv 1))), ?_⟩
    refine ⟨_, rfl, a, C, _, rfl, (by show 1 ≤ 1000; decide), T, ha, v, rfl, _, rfl, a, C, rfl, T, no, ha, fun d nd ne => ?_⟩
    obtain ⟨h1, h2, h3⟩ := new_fin (f := "asked") (v := v) ha nd ne
    exact q d _ nd ne h1 h2 h3
abbrev sITooMany : Stmt := inClass (topS 15) 0
theorem scITooMany : FnScope ["self", "bound"] ["self", "bound"] (defScope sITooMany) :=
  ⟨rfl, rfl, rfl, by decide +kernel, rfl, by decide +kernel, by decide +kernel⟩
theorem ok_ITooMany {f C : Addr} {fd : FuncData} (F : Fun K "__init__" "TooMany.__init__" sITooMany f fd) (T : ExG K C "OverflowError" "OverflowError.__new__" "OverflowError") (no : PySem.W.findIn K (.ref C) "bound" = some none)
    (gB : mg "OverflowError" = none) (vB : PySem.W.findCls K (.type "OverflowError") (.type "type") "__init__" = some (.val (.builtin "OverflowError.__init__"))) : FnOk P w K mg base CX0 1 f fd ["self", "bound"] (spNew C "bound") := by
  refine F.ok scITooMany (fun vs H Q E h => ?_) (fun cdv A outer s H vs Q E hr h => ?_)
  · obtain ⟨a, v, rfl, _⟩ := h
    rfl
  · obtain ⟨a, v, rfl, ha, q⟩ := h
    refine ⟨_, pss_cons (ps_expr (pe_initB (Bn := "OverflowError") (newId := "OverflowError.__new__") (Bi := "OverflowError") (initId := "OverflowError.__init__") (initF_of PySem.F.excBase_OverflowError) (by rfl) gB (by decide +kernel) vB (by kernel_rfl) (by decide +kernel) (by decide +kernel) (pa_cons (pv 0) (pa_cons pe_str pa_nil)))) (pss_one (ps_putG (Bn := "OverflowError") (newId := "OverflowError.__new__") (Bi := "OverflowError") (pv 0) (pv 1))), ?_⟩
    refine ⟨_, rfl, a, C, _, rfl, (by show 1 ≤ 1000; decide), T, ha, v, rfl, _, rfl, a, C, rfl, T, no, ha, fun d nd ne => ?_⟩
    obtain ⟨h1, h2, h3⟩ := new_fin (f := "bound") (v := v) ha nd ne
    exact q d _ nd ne h1 h2 h3
abbrev sIRefused : Stmt := inClass (topS 16) 0
theorem scIRefused : FnScope ["self", "reason"] ["self", "reason"] (defScope sIRefused) :=
  ⟨rfl, rfl, rfl, by decide +kernel, rfl, by decide +kernel, by decide +kernel⟩
theorem ok_IRefused {f C : Addr} {fd : FuncData} (F : Fun K "__init__" "Refused.__init__" sIRefused f fd) (T : ExG K C "ArithmeticError" "ArithmeticError.__new__" "ArithmeticError") (no : PySem.W.findIn K (.ref C) "reason" = some none)
    (gB : mg "ArithmeticError" = none) (vB : PySem.W.findCls K (.type "ArithmeticError") (.type "type") "__init__" = some (.val (.builtin "ArithmeticError.__init__"))) : FnOk P w K mg base CX0 1 f fd ["self", "reason"] (spNew C "reason") := by
  refine F.ok scIRefused (fun vs H Q E h => ?_) (fun cdv A outer s H vs Q E hr h => ?_)
  · obtain ⟨a, v, rfl, _⟩ := h
    rfl
  · obtain ⟨a, v, rfl, ha, q⟩ := h
    refine ⟨_, pss_cons (ps_expr (pe_initB (Bn := "ArithmeticError") (newId := "ArithmeticError.__new__") (Bi := "ArithmeticError") (initId := "ArithmeticError.__init__") (initF_of PySem.F.excBase_ArithmeticError) (by rfl) gB (by decide +kernel) vB (by kernel_rfl) (by decide +kernel) (by decide +kernel) (pa_cons (pv 0) (pa_cons pe_str pa_nil)))) (pss_one (ps_putG (Bn := "ArithmeticError") (newId := "ArithmeticError.__new__") (Bi := "ArithmeticError") (pv 0) (pv 1))), ?_⟩
    refine ⟨_, rfl, a, C, _, rfl, (by show 1 ≤ 1000; decide), T, ha, v, rfl, _, rfl, a, C, rfl, T, no, ha, fun d nd ne => ?_⟩
    obtain ⟨h1, h2, h3⟩ := new_fin (f := "reason") (v := v) ha nd ne
    exact q d _ nd ne h1 h2 h3
end
end K00

set_option maxRecDepth 100000
set_option maxHeartbeats 4000000
namespace K00
open PySem PySem.Spec PyProof.Rows L2 PySem.KX KX
/-- C(v), by an __init__ that keeps v as f -/
structure MkG (P : Program) (w : World) (K : PySem.W.Frag) (mg : Str → Option Value) (base : Heap) (x f : Str) (C : Addr) : Prop where
  ex : ∃ (Bn newId Bi iB : String) (bmB : List Value) (fI : Addr) (fd : FuncData), ExcBaseFacts Bn newId iB bmB ∧ ExG K C Bn newId Bi ∧ PySem.W.findIn K (.ref C) "__init__" = some (some (.ref fI)) ∧
    PySem.W.typeIn K (.ref fI) = some (.type "function") ∧ FnOk P w K mg base CX0 1 fI fd ["self", f] (spNew C f) ∧ Binds K fd ["self", f] []
  hm : mg x = some (.ref C)
/-- C('m'), a class without an __init__ -/
structure MkP (K : PySem.W.Frag) (mg : Str → Option Value) (x : Str) (C : Addr) : Prop where
  ov : PySem.W.excIn K C [.type "ValueError", .type "Exception", .type "BaseException", .type "object"] "ValueError.__new__" = true
  hm : mg x = some (.ref C)
  kC : PySem.W.keepIn K (.ref C) = true
  exC : PySem.W.subIn K (.ref C) (.type "BaseException") = some true
  tyC : PySem.W.typeIn K (.ref C) = some (.type "type")
theorem new_in {H1 : Hp} {a C : Addr} {f : Str} {v : V} {Q : Hp → Prop} (na : H1 a = none) (q : ∀ d H', Same H1 H' → H' a = some (exo a C (some d)) → H' d = some (exd d [(f, v)]) → Q H') :
    spNew C f [.ref a, v] (upd H1 a (exo a C none)) (fun v H2 => v = .non ∧ Q H2) (fun _ _ _ => False) :=
  ⟨a, v, rfl, upd_same, fun d H' nd ne kp h1 h2 => ⟨rfl, q d H' (fun b o z => kp b o (ne_of_none z na) (by rw [upd_ne (ne_of_none z na)]; exact z)) h1 h2⟩⟩
theorem rai_in {H1 : Hp} {a C : Addr} {f : Str} {v : V} {Q : XK} (na : H1 a = none) (q : ∀ d H', H1 d = none → Same H1 H' → H' d = some (.xd [(f, v)]) → Q (.ref C) (some d) H') :
    spNew C f (.ref a :: ([v] ++ [])) (upd H1 a (exo a C none)) (fun v H2 => v = .non ∧ ∃ (d : Addr) (fs : List (Str × V)), H2 a = some (exo a C (some d)) ∧ H2 d = some (exd d fs) ∧ H1 d = none ∧ Q (.ref C) (some d) (upd (del H2 a) d (.xd fs))) (fun _ _ _ => False) := by
  refine ⟨a, v, rfl, upd_same, fun d H' nd ne kp h1 h2 => ⟨rfl, d, _, h1, h2, ?_, ?_⟩⟩
  · rw [upd_ne ne] at nd
    exact nd
  · have nd' : H1 d = none := by
      rw [upd_ne ne] at nd
      exact nd
    refine q d _ nd' (fun b o z => ?_) upd_same
    rw [upd_ne (ne_of_none z nd'), del_ne (ne_of_none z na)]
    exact kp b o (ne_of_none z na) (by rw [upd_ne (ne_of_none z na)]; exact z)
section
variable {X : Cx} {e : Expr} {te : TE} {x f : Str} {C : Addr} {p pos : Pos}
theorem pe_mkG (M : MkG X.prog X.w X.K X.mg X.base x f C) (hr : Room 2 X.A) (hx : Passes CX0 X (fun _ _ _ => False)) (hg : Gl X x) (he0 : PE X e te)
    (hdb : (x == ("__debug__" : Str)) = false := by decide) (he : starEach [e] X.env = (false, eval e X.env) :: starEach [] X.env := by rfl) :
    PE X (.Call (.Name x p) [e] [] pos) (tNewG C (spNew C f) (tCons te tNil)) := by
  obtain ⟨Bn, newId, Bi, iB, bmB, fI, fd, FB, T, iC, tI, G, hb⟩ := M.ex
  exact pe_newG (pos := pos) (p := p) FB T iC tI G hr hb hx hg M.hm (pa_cons he0 pa_nil he) hdb he (by rfl)
theorem pmk_mkG (M : MkG X.prog X.w X.K X.mg X.base x f C) (hr : Room 2 X.A) (hx : Passes CX0 X (fun _ _ _ => False)) (hg : Gl X x) (he0 : PE X e te)
    (hdb : (x == ("__debug__" : Str)) = false := by decide) (he : starEach [e] X.env = (false, eval e X.env) :: starEach [] X.env := by rfl) :
    PMk X (.Call (.Name x p) [e] [] pos) (tMkO C (spNew C f) [] (tCons te tNil)) := by
  obtain ⟨Bn, newId, Bi, iB, bmB, fI, fd, FB, T, iC, tI, G, hb⟩ := M.ex
  exact pmk_newG (pos := pos) (p := p) FB T iC tI G hr hb hx hg M.hm (pa_cons he0 pa_nil he) hdb he (by rfl)
theorem pe_mkP {m : Str} {j : Nat} {p2 : Pos} (M : MkP X.K X.mg x C) (hg : Gl X x) (hdb : (x == ("__debug__" : Str)) = false := by decide) :
    PE X (.Call (.Name x p) [.Constant (.str m) j p2] [] pos) (fun σ H Q => (tC (.str m)) σ H fun _ H1 => ∀ a, H1 a = none → Q (.ref a) (upd H1 a (ExO (.ref C) a))) :=
  pe_exc1 PySem.F.excBase_ValueError M.ov M.hm M.kC hg pe_str (by rfl) hdb
end
theorem HasExc.same {H H' : Hp} {a D : Addr} (h : HasExc H a D) (s : Same H H') : HasExc H' a D := by
  rcases h with h | ⟨d, fs, h1, h2⟩
  · exact .inl (s _ _ h)
  · exact .inr ⟨d, fs, s _ _ h1, s _ _ h2⟩
/-- the sixteen classes -/
structure Sixteen (P : Program) (w : World) (K : PySem.W.Frag) (mg : Str → Option Value) (base : Heap) (cs : Nat → Addr) : Prop where
  c0 : MkG P w K mg base "ParseError" "index" (cs 0)
  c1 : MkG P w K mg base "InvalidNumber" "number" (cs 1)
  c2 : MkG P w K mg base "UnknownName" "name" (cs 2)
  c3 : MkG P w K mg base "NothingToUndo" "asked" (cs 3)
  c4 : MkG P w K mg base "TooMany" "bound" (cs 4)
  c5 : MkG P w K mg base "Refused" "reason" (cs 5)
  c6 : MkP K mg "InvalidFrame" (cs 6)
  c7 : MkP K mg "InvalidTerm" (cs 7)
  c8 : MkP K mg "InvalidClaim" (cs 8)
  c9 : MkP K mg "InvalidSituation" (cs 9)
  c10 : MkP K mg "InvalidQuestion" (cs 10)
  c11 : MkP K mg "InvalidFunction" (cs 11)
  c12 : MkP K mg "InvalidProgram" (cs 12)
  c13 : MkP K mg "InvalidOperation" (cs 13)
  c14 : MkP K mg "InvalidName" (cs 14)
  c15 : MkP K mg "ClaimError" (cs 15)
def spMade (cs : Nat → Addr) : Sp := fun vs H Q _ => ∃ v : V, vs = [v] ∧ ∀ (ps : Nat → Addr) (L : Addr) (H' : Hp), Same H H' → H' L = some (.lst ((List.range 16).map fun i => V.ref (ps i))) → (∀ i, i < 16 → HasExc H' (ps i) (cs i)) → Q (.ref L) H'
abbrev sMade : Stmt := topS 26
theorem scMade : FnScope ["_law_value", "_law_found"] ["_law_value"] (defScope sMade) :=
  ⟨rfl, rfl, rfl, by decide +kernel, rfl, by decide +kernel, by decide +kernel⟩
section
variable {P : Program} {w : World} {K : PySem.W.Frag} {mg : Str → Option Value} {base : Heap} {cs : Nat → Addr}
theorem ok_made {f : Addr} {fd : FuncData} (F : Fun K "_law_made" "_law_made" sMade f fd) (M : Sixteen P w K mg base cs) : FnOk P w K mg base CX0 3 f fd ["_law_value"] (spMade cs) := by
  refine F.ok scMade (fun vs H Q E h => ?_) (fun cdv A outer s H vs Q E hr h => ?_)
  · obtain ⟨v, rfl, _⟩ := h
    rfl
  · obtain ⟨v, rfl, q⟩ := h
    refine ⟨_, pss_cons (ps_set (i := 1) scMade.nd rfl (.inl rfl) (pe_lst (pa_cons (pe_mkG M.c0 hr pass0 (by rfl) (pv 0)) (pa_cons (pe_mkG M.c1 hr pass0 (by rfl) (pv 0)) (pa_cons (pe_mkG M.c2 hr pass0 (by rfl) (pv 0)) (pa_cons (pe_mkG M.c3 hr pass0 (by rfl) (pv 0)) (pa_cons (pe_mkG M.c4 hr pass0 (by rfl) (pv 0)) pa_nil)))))))
      (pss_cons (ps_set (i := 1) scMade.nd rfl (.inl rfl) (pe_op op_cat (pv 1) (pe_lst (pa_cons (pe_mkG M.c5 hr pass0 (by rfl) (pv 0)) (pa_cons (pe_mkP M.c6 (by rfl)) (pa_cons (pe_mkP M.c7 (by rfl)) (pa_cons (pe_mkP M.c8 (by rfl)) (pa_cons (pe_mkP M.c9 (by rfl)) pa_nil))))))))
      (pss_cons (ps_set (i := 1) scMade.nd rfl (.inl rfl) (pe_op op_cat (pv 1) (pe_lst (pa_cons (pe_mkP M.c10 (by rfl)) (pa_cons (pe_mkP M.c11 (by rfl)) (pa_cons (pe_mkP M.c12 (by rfl)) (pa_cons (pe_mkP M.c13 (by rfl)) pa_nil)))))))
      (pss_one (ps_ret (pe_op op_cat (pv 1) (pe_lst (pa_cons (pe_mkP M.c14 (by rfl)) (pa_cons (pe_mkP M.c15 (by rfl)) pa_nil)))))))), ?_⟩
    refine ⟨v, rfl, (by show 1 ≤ 1000; decide), fun a0 n0 => new_in n0 fun d0 H0 s0 h0 k0 => ?_⟩
    refine ⟨v, rfl, (by show 1 ≤ 1000; decide), fun a1 n1 => new_in n1 fun d1 H1 s1 h1 k1 => ?_⟩
    refine ⟨v, rfl, (by show 1 ≤ 1000; decide), fun a2 n2 => new_in n2 fun d2 H2 s2 h2 k2 => ?_⟩
    refine ⟨v, rfl, (by show 1 ≤ 1000; decide), fun a3 n3 => new_in n3 fun d3 H3 s3 h3 k3 => ?_⟩
    refine ⟨v, rfl, (by show 1 ≤ 1000; decide), fun a4 n4 => new_in n4 fun d4 H4 s4 h4 k4 => ?_⟩
    refine ⟨by show 5 ≤ sizeLine; decide, fun l1 m1 => ?_⟩
    refine ⟨_, rfl, v, rfl, (by show 1 ≤ 1000; decide), fun a5 n5 => new_in n5 fun d5 H5 s5 h5 k5 => ?_⟩
    refine fun a6 n6 => fun a7 n7 => fun a8 n8 => fun a9 n9 => ?_
    refine ⟨by show 5 ≤ sizeLine; decide, fun l2 m2 => ?_⟩
    have t1 : Same H4 (upd H4 l1 (.lst [V.ref a0, V.ref a1, V.ref a2, V.ref a3, V.ref a4])) := same_upd m1
    have t6 : Same H5 (upd H5 a6 (ExO (.ref (cs 6)) a6)) := same_upd n6
    have t7 := same_upd (o := ExO (.ref (cs 7)) a7) n7
    have t8 := same_upd (o := ExO (.ref (cs 8)) a8) n8
    have t9 := same_upd (o := ExO (.ref (cs 9)) a9) n9
    have t2 := same_upd (o := .lst [V.ref a5, V.ref a6, V.ref a7, V.ref a8, V.ref a9]) m2
    have u1 : Same H5 _ := (((t6.trans t7).trans t8).trans t9).trans t2
    have u0 : Same H4 _ := (t1.trans s5).trans u1
    refine ⟨l1, l2, _, _, rfl, rfl, (s5.trans u1) _ _ upd_same, upd_same, (by show 10 ≤ sizeLine; decide), fun l3 m3 => ?_⟩
    have t3 := same_upd (o := .lst ([V.ref a0, V.ref a1, V.ref a2, V.ref a3, V.ref a4] ++ [V.ref a5, V.ref a6, V.ref a7, V.ref a8, V.ref a9])) m3
    refine ⟨_, rfl, fun a10 n10 => fun a11 n11 => fun a12 n12 => fun a13 n13 => ⟨by show 4 ≤ sizeLine; decide, fun l4 m4 => ?_⟩⟩
    have t10 := same_upd (o := ExO (.ref (cs 10)) a10) n10
    have t11 := same_upd (o := ExO (.ref (cs 11)) a11) n11
    have t12 := same_upd (o := ExO (.ref (cs 12)) a12) n12
    have t13 := same_upd (o := ExO (.ref (cs 13)) a13) n13
    have t4 := same_upd (o := .lst [V.ref a10, V.ref a11, V.ref a12, V.ref a13]) m4
    have u2 := (((t10.trans t11).trans t12).trans t13).trans t4
    refine ⟨l3, l4, _, _, rfl, rfl, u2 _ _ upd_same, upd_same, (by show 14 ≤ sizeLine; decide), fun l5 m5 => ?_⟩
    have t5 := same_upd (o := .lst ([V.ref a0, V.ref a1, V.ref a2, V.ref a3, V.ref a4] ++ [V.ref a5, V.ref a6, V.ref a7, V.ref a8, V.ref a9] ++ [V.ref a10, V.ref a11, V.ref a12, V.ref a13])) m5
    refine ⟨_, rfl, fun a14 n14 => fun a15 n15 => ⟨by show 2 ≤ sizeLine; decide, fun l6 m6 => ?_⟩⟩
    have t14 := same_upd (o := ExO (.ref (cs 14)) a14) n14
    have t15 := same_upd (o := ExO (.ref (cs 15)) a15) n15
    have t16 := same_upd (o := .lst [V.ref a14, V.ref a15]) m6
    have u3 := (t14.trans t15).trans t16
    refine ⟨l5, l6, _, _, rfl, rfl, u3 _ _ upd_same, upd_same, (by show 16 ≤ sizeLine; decide), fun l7 m7 => ?_⟩
    have t17 := same_upd (o := .lst ([V.ref a0, V.ref a1, V.ref a2, V.ref a3, V.ref a4] ++ [V.ref a5, V.ref a6, V.ref a7, V.ref a8, V.ref a9] ++ [V.ref a10, V.ref a11, V.ref a12, V.ref a13] ++ [V.ref a14, V.ref a15])) m7
    have r9 := u3.trans t17
    have r5 := t5.trans r9
    have r4 := (u2.trans r5)
    have r3 := t3.trans r4
    have rA := u0.trans r3
    have rB := u1.trans r3
    refine q (fun i => [a0, a1, a2, a3, a4, a5, a6, a7, a8, a9, a10, a11, a12, a13, a14, a15].getD i 0) l7 _ ((((((s0.trans s1).trans s2).trans s3).trans s4)).trans rA) upd_same fun i hi => ?_
    have x0 : HasExc _ a0 (cs 0) := .inr ⟨d0, _, ((((s1.trans s2).trans s3).trans s4).trans rA) _ _ h0, ((((s1.trans s2).trans s3).trans s4).trans rA) _ _ k0⟩
    have x1 : HasExc _ a1 (cs 1) := .inr ⟨d1, _, (((s2.trans s3).trans s4).trans rA) _ _ h1, (((s2.trans s3).trans s4).trans rA) _ _ k1⟩
    have x2 : HasExc _ a2 (cs 2) := .inr ⟨d2, _, ((s3.trans s4).trans rA) _ _ h2, ((s3.trans s4).trans rA) _ _ k2⟩
    have x3 : HasExc _ a3 (cs 3) := .inr ⟨d3, _, (s4.trans rA) _ _ h3, (s4.trans rA) _ _ k3⟩
    have x4 : HasExc _ a4 (cs 4) := .inr ⟨d4, _, rA _ _ h4, rA _ _ k4⟩
    have x5 : HasExc _ a5 (cs 5) := .inr ⟨d5, _, rB _ _ h5, rB _ _ k5⟩
    have x6 : HasExc _ a6 (cs 6) := .inl (((((t7.trans t8).trans t9).trans t2).trans r3) _ _ upd_same)
    have x7 : HasExc _ a7 (cs 7) := .inl ((((t8.trans t9).trans t2).trans r3) _ _ upd_same)
    have x8 : HasExc _ a8 (cs 8) := .inl (((t9.trans t2).trans r3) _ _ upd_same)
    have x9 : HasExc _ a9 (cs 9) := .inl ((t2.trans r3) _ _ upd_same)
    have x10 : HasExc _ a10 (cs 10) := .inl (((((t11.trans t12).trans t13).trans t4).trans r5) _ _ upd_same)
    have x11 : HasExc _ a11 (cs 11) := .inl ((((t12.trans t13).trans t4).trans r5) _ _ upd_same)
    have x12 : HasExc _ a12 (cs 12) := .inl (((t13.trans t4).trans r5) _ _ upd_same)
    have x13 : HasExc _ a13 (cs 13) := .inl ((t4.trans r5) _ _ upd_same)
    have x14 : HasExc _ a14 (cs 14) := .inl (((t15.trans t16).trans t17) _ _ upd_same)
    have x15 : HasExc _ a15 (cs 15) := .inl ((t16.trans t17) _ _ upd_same)
    match i, hi with
    | 0, _ => exact x0
    | 1, _ => exact x1
    | 2, _ => exact x2
    | 3, _ => exact x3
    | 4, _ => exact x4
    | 5, _ => exact x5
    | 6, _ => exact x6
    | 7, _ => exact x7
    | 8, _ => exact x8
    | 9, _ => exact x9
    | 10, _ => exact x10
    | 11, _ => exact x11
    | 12, _ => exact x12
    | 13, _ => exact x13
    | 14, _ => exact x14
    | 15, _ => exact x15
    | n + 16, h => exact absurd h (by omega)
end
end K00

set_option maxRecDepth 100000
set_option maxHeartbeats 4000000
namespace K00
open PySem PySem.Spec PyProof.Rows L2
abbrev sDue : Stmt := topS 28
theorem scDue : FnScope ["_law_at", "_law_row", "_law_is_base", "_law_spot", "_law_one"] ["_law_at"] (defScope sDue) :=
  ⟨rfl, rfl, rfl, by decide +kernel, rfl, by decide +kernel, by decide +kernel⟩
def b2n (b : Bool) : Int := if b = true then 1 else 0
def b01 (b : Bool) : Str := toString (b2n b)
def bitsT (bs : List Bool) : Str := Txt.join "" (bs.map b01)
def dueB (i : Int) : List Bool :=
  ((List.range 15).map fun j : Nat => decide (i = (j : Int))) ++ [decide (i = 0) || decide (5 < i), decide (i = 0) || decide (5 < i), decide (i = 1), decide (i = 2), decide (i = 1) || (decide (i = 2) || decide (i = 3)), decide (i = 4), decide (i = 4) || decide (i = 5)]
def spDue : Sp := fun vs H Q _ => ∃ i : Int, vs = [.int i] ∧ 0 ≤ i ∧ i < 16 ∧ ∀ H', Same H H' → Q (.str (bitsT (dueB i))) H'
theorem join_len (bs : List Bool) : ((bs.map b01).map (·.length)).sum = bs.length := by
  induction bs with
  | nil => rfl
  | cons b bs ih =>
    rw [List.map_cons, List.map_cons, List.sum_cons, ih, List.length_cons]
    have : (b01 b).length = 1 := by cases b <;> decide +kernel
    omega
theorem in_three (i : Int) : inV (V.int i) [V.int 1, V.int 2, V.int 3] = (decide (i = 1) || (decide (i = 2) || decide (i = 3))) := by
  have e : ∀ k : Int, ((k == i) : Bool) = decide (i = k) := fun k => by
    rw [show (k == i) = decide (k = i) from rfl]
    exact decide_eq_decide.mpr ⟨Eq.symm, Eq.symm⟩
  show (((1 : Int) == i) || (((2 : Int) == i) || (((3 : Int) == i) || false))) = _
  rw [e, e, e, Bool.or_false]
theorem in_two (i : Int) : inV (V.int i) [V.int 4, V.int 5] = (decide (i = 4) || decide (i = 5)) := by
  have e : ∀ k : Int, ((k == i) : Bool) = decide (i = k) := fun k => by
    rw [show (k == i) = decide (k = i) from rfl]
    exact decide_eq_decide.mpr ⟨Eq.symm, Eq.symm⟩
  show (((4 : Int) == i) || (((5 : Int) == i) || false)) = _
  rw [e, e, Bool.or_false]
theorem dec_int (a b : Int) : decide (V.int a = V.int b) = decide (a = b) := decide_eq_decide.mpr ⟨fun h => V.int.inj h, fun h => by rw [h]⟩
section
variable {P : Program} {w : World} {K : PySem.W.Frag} {mg : Str → Option Value} {base : Heap}
theorem ok_due {f : Addr} {fd : FuncData} (F : Fun K "_law_due" "_law_due" sDue f fd) (mi : mg "int" = none) (mr : mg "range" = none) (ms : mg "str" = none) : FnOk P w K mg base CX0 1 f fd ["_law_at"] spDue := by
  refine F.ok scDue (fun vs H Q E h => ?_) (fun cdv A outer s H vs Q E hr h => ?_)
  · obtain ⟨i, rfl, _⟩ := h
    rfl
  · obtain ⟨i, rfl, h0, h1, q⟩ := h
    refine ⟨_, pss_cons (ps_setLc (i := 1) (own := [("_law_spot", 3)]) (g := gName 3) (tt := tYes) rfl scDue.nd rfl rfl (sw_true rfl rfl rfl (by decide +kernel)) (pi_range1 rfl mr (pa_cons pe_int pa_nil)) (blkOk_by (N := ["_law_at", "_law_row", "_law_is_base", "_law_spot", "_law_one"]) (sc := defScope sDue) (by decide +kernel))
          (fun _ _ _ _ _ => pg_name (i := 3) scDue.nd rfl (Or.inl rfl)) (fun _ _ _ _ _ => pts_nil) (fun _ _ _ _ _ => pe_callTy call_int1 (by rfl) mi (by decide +kernel) (pa_cons (pe_cmpR op_eq (pv 0) (pv 3) (nomark _)) pa_nil)))
      (C8.pss_cut (ps_set (i := 2) scDue.nd rfl (.inl rfl) (pe_callTy call_int1 (by rfl) mi (by decide +kernel) (pa_cons (pe_or (pe_cmpR op_eq (pv 0) pe_int (nomark _)) (pe_one (pe_cmpR op_gt (pv 0) pe_int (nomark _)))) pa_nil)))
      (pss_cons (ps_set (i := 1) scDue.nd rfl (.inl rfl) (pe_op op_cat (pv 1) (pe_lst (pa_cons (pv 2) (pa_cons (pv 2)
          (pa_cons (pe_callTy call_int1 (by rfl) mi (by decide +kernel) (pa_cons (pe_cmpR op_eq (pv 0) pe_int (nomark _)) pa_nil))
          (pa_cons (pe_callTy call_int1 (by rfl) mi (by decide +kernel) (pa_cons (pe_cmpR op_eq (pv 0) pe_int (nomark _)) pa_nil))
          (pa_cons (pe_callTy call_int1 (by rfl) mi (by decide +kernel) (pa_cons (pe_cmpR op_in_seq (pv 0) (pe_tup (pa_cons pe_int (pa_cons pe_int (pa_cons pe_int pa_nil)))) rfl) pa_nil))
          (pa_cons (pe_callTy call_int1 (by rfl) mi (by decide +kernel) (pa_cons (pe_cmpR op_eq (pv 0) pe_int (nomark _)) pa_nil))
          (pa_cons (pe_callTy call_int1 (by rfl) mi (by decide +kernel) (pa_cons (pe_cmpR op_in_seq (pv 0) (pe_tup (pa_cons pe_int (pa_cons pe_int pa_nil))) rfl) pa_nil)) pa_nil))))))))))
      (pss_one (ps_ret (pe_join pe_str (pe_lc (own := [("_law_one", 4)]) (g := gName 4) (tt := tYes) rfl scDue.nd (pi_list (pv 1)) (blkOk_by (N := ["_law_at", "_law_row", "_law_is_base", "_law_spot", "_law_one"]) (sc := defScope sDue) (by decide +kernel))
          (fun _ _ _ _ _ => pg_name (i := 4) scDue.nd rfl (Or.inl rfl)) (fun _ _ _ _ _ => pts_nil) (fun _ _ _ _ _ => pe_callTy call_str_int (by rfl) ms (by decide +kernel) (pa_cons (pv 4) pa_nil)))))))), ?_⟩
    refine ⟨15, rfl, by decide, by decide, fun D hD => ?_⟩
    refine lc_range (n := 15) (fun m H' => H' = upd H D (.lst ((List.range m).map fun j : Nat => V.int (b2n (decide (i = (j : Int))))))) rfl (fun m H' hm hP => ?_) (fun H' hP => ?_)
    · subst hP
      refine ⟨rfl, .int i, rfl, .int (0 + (m : Int)), rfl, rfl, .inr ⟨_, rfl, _, upd_same, ?_, ?_⟩⟩
      · rw [List.length_map, List.length_range, sizeLine_eq]
        omega
      · rw [upd_upd, List.range_succ, List.map_append, dec_int, Int.zero_add]
        rfl
    · subst hP
      have sD := same_upd (o := .lst ((List.range 15).map fun j : Nat => V.int (b2n (decide (i = (j : Int)))))) hD
      refine ⟨fun σ' H2 => σ' = [some (.int i), some (.ref D), some (.int (b2n (decide (i = 0) || decide (5 < i)))), none, none] ∧ H2 = upd H D (.lst ((List.range 15).map fun j : Nat => V.int (b2n (decide (i = (j : Int)))))), ?_, ?_⟩
      · refine ⟨_, rfl, rfl, _, rfl, ite2 (fun e => ?_) (fun e => ?_)⟩
        · have e' : decide (i = 0) = true := (dec_int i 0).symm.trans e
          refine .inr ⟨_, rfl, ?_, rfl⟩
          show [_, _, _, _, _] = _
          rw [e']
          rfl
        · have e' : decide (i = 0) = false := by
            rw [← dec_int]
            exact Bool.eq_false_iff.mpr e
          refine ⟨_, rfl, i, 5, rfl, rfl, .inr ⟨_, rfl, ?_, rfl⟩⟩
          show [_, _, _, _, _] = _
          rw [e', Bool.false_or]
          rfl
      · rintro σ' H2 ⟨rfl, rfl⟩
        refine ⟨_, rfl, _, rfl, _, rfl, _, rfl, rfl, .inr ⟨_, rfl, _, rfl, rfl, .inr ⟨_, rfl, ?_⟩⟩⟩
        refine ⟨_, rfl, by show 3 ≤ sizeLine; decide, fun t1 n1 => ⟨t1, _, rfl, .inr (SqT.of upd_same), rfl, rfl, .inr ⟨_, rfl, _, rfl, rfl, .inr ⟨_, rfl, ?_⟩⟩⟩⟩
        refine ⟨_, rfl, by show 2 ≤ sizeLine; decide, fun t2 n2 => ⟨t2, _, rfl, .inr (SqT.of upd_same), rfl, rfl, .inr ⟨_, rfl, ?_⟩⟩⟩
        refine ⟨by show 7 ≤ sizeLine; decide, fun l2 m2 => ?_⟩
        have w1 := same_upd (o := .tup [V.int 1, V.int 2, V.int 3]) n1
        have w2 := same_upd (o := .tup [V.int 4, V.int 5]) n2
        refine ⟨D, l2, (List.range 15).map fun j : Nat => V.int (b2n (decide (i = (j : Int)))), [decide (i = 0) || decide (5 < i), decide (i = 0) || decide (5 < i), decide (i = 1), decide (i = 2), decide (i = 1) || (decide (i = 2) || decide (i = 3)), decide (i = 4), decide (i = 4) || decide (i = 5)].map fun b => V.int (b2n b), rfl, rfl, ?_, ?_, ?_, fun l3 m3 => ?_⟩
        · rw [upd_ne (ne_of_none (w2 _ _ (w1 _ _ upd_same)) m2)]
          exact w2 _ _ (w1 _ _ upd_same)
        · rw [upd_same]
          refine congrArg (fun l => some (HO.lst l)) ?_
          simp only [List.map_cons, List.map_nil, dec_int, b2n, in_three, in_two, Bool.false_eq_true, if_false]
        · rw [List.length_map, List.length_range, List.length_map, sizeLine_eq]
          show 15 + 7 ≤ _
          decide
        have el : ((List.range 15).map fun j : Nat => V.int (b2n (decide (i = (j : Int))))) ++ ([decide (i = 0) || decide (5 < i), decide (i = 0) || decide (5 < i), decide (i = 1), decide (i = 2), decide (i = 1) || (decide (i = 2) || decide (i = 3)), decide (i = 4), decide (i = 4) || decide (i = 5)].map fun b => V.int (b2n b)) = (dueB i).map fun b => V.int (b2n b) := by
          unfold dueB
          rw [List.map_append, List.map_map]
          rfl
        rw [el]
        have ln : (dueB i).length = 22 := by
          unfold dueB
          rw [List.length_append, List.length_map, List.length_range]
          rfl
        have w3 := same_upd (o := .lst ((dueB i).map fun b => V.int (b2n b))) m3
        refine ⟨⟨"", rfl⟩, .ref l3, rfl, l3, rfl, ⟨_, SqL.of upd_same⟩, fun D2 hD2 => ?_⟩
        refine lc_list (K := K) (a := l3) (xs := (dueB i).map fun b => V.int (b2n b)) (fun m H' => ∃ H0, Same H H0 ∧ H0 l3 = some (.lst ((dueB i).map fun b => V.int (b2n b))) ∧ H0 D2 = none ∧ H' = upd H0 D2 (.lst (((dueB i).take m).map fun b => V.str (b01 b)))) ⟨_, ((sD.trans w1).trans w2).trans ((same_upd m2).trans w3), upd_same, hD2, rfl⟩ (fun m H' hm hP => ?_) (fun m x H' hx hP => ?_) (fun H' hP => ?_)
        · obtain ⟨H0, _, e3, n0, rfl⟩ := hP
          exact SqL.of (by rw [upd_ne (ne_of_none e3 n0)]; exact e3)
        · obtain ⟨H0, sm, e3, n0, rfl⟩ := hP
          rw [List.getElem?_map] at hx
          obtain ⟨b, hb, rfl⟩ := Option.map_eq_some_iff.mp hx
          have hml : m < (dueB i).length := (List.getElem?_eq_some_iff.mp hb).1
          refine ⟨rfl, _, rfl, b2n b, rfl, ?_, _, upd_same, ?_, H0, sm, e3, n0, ?_⟩
          · cases b <;> decide
          · rw [List.length_map, List.length_take, sizeLine_eq]
            omega
          · rw [upd_upd, List.take_add_one, hb, List.map_append]
            rfl
        · obtain ⟨H0, sm, e3, n0, rfl⟩ := hP
          refine ⟨"", D2, (dueB i).map b01, rfl, rfl, .inl (SqL.of ?_), ?_, ?_⟩
          · rw [upd_same, List.length_map, List.take_length, List.map_map]
            rfl
          · show ((((dueB i).map b01).map (·.length)).sum + ((dueB i).map b01).length * 0 ≤ 16777216)
            rw [join_len, ln, Nat.mul_zero]
            decide
          · exact q _ (sm.trans (same_upd n0))
end
end K00

set_option maxRecDepth 100000
set_option maxHeartbeats 4000000
namespace K00
open PySem PySem.Spec PyProof.Rows L2 PySem.KX KX
abbrev sKinds : Stmt := topS 27
theorem scKinds : FnScope ["_law_error", "_law_row", "_law_one"] ["_law_error"] (defScope sKinds) :=
  ⟨rfl, rfl, rfl, by decide +kernel, rfl, by decide +kernel, by decide +kernel⟩
/-- the classes that are asked, in their order -/
def tgt (cs : Nat → Addr) (j : Nat) : Value := if j < 16 then .ref (cs j) else .type (["ValueError", "IndexError", "KeyError", "LookupError", "OverflowError", "ArithmeticError"].getD (j - 16) "")
structure Kit (K : PySem.W.Frag) (cs : Nat → Addr) : Prop where
  ex : ∀ k : Nat, k < 16 → ExcC K (cs k)
  kt : ∀ k j : Nat, k < 16 → j < 22 → PySem.W.kitOne K (.ref (cs k)) (tgt cs j) = some ((dueB k).getD j false)
structure Blt (mg : Str → Option Value) : Prop where
  b16 : mg "ValueError" = none
  b17 : mg "IndexError" = none
  b18 : mg "KeyError" = none
  b19 : mg "LookupError" = none
  b20 : mg "OverflowError" = none
  b21 : mg "ArithmeticError" = none
def spKinds (cs : Nat → Addr) : Sp := fun vs H Q _ => ∃ (a : Addr) (k : Nat), vs = [.ref a] ∧ k < 16 ∧ HasExc H a (cs k) ∧ ∀ H', Same H H' → Q (.str (bitsT (dueB k))) H'
theorem all_getD (l : List Bool) : ((List.range l.length).map fun j => l.getD j false) = l := by
  apply List.ext_getElem
  · simp
  · intro i h1 h2
    simp [List.getD, h2]
section
variable {P : Program} {w : World} {K : PySem.W.Frag} {mg : Str → Option Value} {base : Heap} {cs : Nat → Addr}
theorem ok_kinds {f : Addr} {fd : FuncData} (F : Fun K "_law_kinds" "_law_kinds" sKinds f fd) (M : Sixteen P w K mg base cs) (T : Kit K cs) (B : Blt mg) (mi : mg "isinstance" = none) (mn : mg "int" = none) (ms : mg "str" = none) : FnOk P w K mg base CX0 1 f fd ["_law_error"] (spKinds cs) := by
  refine F.ok scKinds (fun vs H Q E h => ?_) (fun cdv A outer s H vs Q E hr h => ?_)
  · obtain ⟨a, k, rfl, _⟩ := h
    rfl
  · obtain ⟨a, k, rfl, hk, hx0, q⟩ := h
    refine ⟨_, pss_cons (ps_set (i := 1) scKinds.nd rfl (.inl rfl) (pe_lst (pa_cons (pe_callB call_isX (by rfl) mi (by decide +kernel) (pa_cons (pv 0) (pa_cons (pe_glob (v := .ref (cs 0)) (by rfl) M.c0.hm rfl) pa_nil))) (pa_cons (pe_callB call_isX (by rfl) mi (by decide +kernel) (pa_cons (pv 0) (pa_cons (pe_glob (v := .ref (cs 1)) (by rfl) M.c1.hm rfl) pa_nil))) (pa_cons (pe_callB call_isX (by rfl) mi (by decide +kernel) (pa_cons (pv 0) (pa_cons (pe_glob (v := .ref (cs 2)) (by rfl) M.c2.hm rfl) pa_nil))) pa_nil)))))
      (pss_cons (ps_set (i := 1) scKinds.nd rfl (.inl rfl) (pe_op op_cat (pv 1) (pe_lst (pa_cons (pe_callB call_isX (by rfl) mi (by decide +kernel) (pa_cons (pv 0) (pa_cons (pe_glob (v := .ref (cs 3)) (by rfl) M.c3.hm rfl) pa_nil))) (pa_cons (pe_callB call_isX (by rfl) mi (by decide +kernel) (pa_cons (pv 0) (pa_cons (pe_glob (v := .ref (cs 4)) (by rfl) M.c4.hm rfl) pa_nil))) (pa_cons (pe_callB call_isX (by rfl) mi (by decide +kernel) (pa_cons (pv 0) (pa_cons (pe_glob (v := .ref (cs 5)) (by rfl) M.c5.hm rfl) pa_nil))) pa_nil))))))
      (pss_cons (ps_set (i := 1) scKinds.nd rfl (.inl rfl) (pe_op op_cat (pv 1) (pe_lst (pa_cons (pe_callB call_isX (by rfl) mi (by decide +kernel) (pa_cons (pv 0) (pa_cons (pe_glob (v := .ref (cs 6)) (by rfl) M.c6.hm rfl) pa_nil))) (pa_cons (pe_callB call_isX (by rfl) mi (by decide +kernel) (pa_cons (pv 0) (pa_cons (pe_glob (v := .ref (cs 7)) (by rfl) M.c7.hm rfl) pa_nil))) (pa_cons (pe_callB call_isX (by rfl) mi (by decide +kernel) (pa_cons (pv 0) (pa_cons (pe_glob (v := .ref (cs 8)) (by rfl) M.c8.hm rfl) pa_nil))) pa_nil))))))
      (pss_cons (ps_set (i := 1) scKinds.nd rfl (.inl rfl) (pe_op op_cat (pv 1) (pe_lst (pa_cons (pe_callB call_isX (by rfl) mi (by decide +kernel) (pa_cons (pv 0) (pa_cons (pe_glob (v := .ref (cs 9)) (by rfl) M.c9.hm rfl) pa_nil))) (pa_cons (pe_callB call_isX (by rfl) mi (by decide +kernel) (pa_cons (pv 0) (pa_cons (pe_glob (v := .ref (cs 10)) (by rfl) M.c10.hm rfl) pa_nil))) pa_nil)))))
      (pss_cons (ps_set (i := 1) scKinds.nd rfl (.inl rfl) (pe_op op_cat (pv 1) (pe_lst (pa_cons (pe_callB call_isX (by rfl) mi (by decide +kernel) (pa_cons (pv 0) (pa_cons (pe_glob (v := .ref (cs 11)) (by rfl) M.c11.hm rfl) pa_nil))) (pa_cons (pe_callB call_isX (by rfl) mi (by decide +kernel) (pa_cons (pv 0) (pa_cons (pe_glob (v := .ref (cs 12)) (by rfl) M.c12.hm rfl) pa_nil))) pa_nil)))))
      (pss_cons (ps_set (i := 1) scKinds.nd rfl (.inl rfl) (pe_op op_cat (pv 1) (pe_lst (pa_cons (pe_callB call_isX (by rfl) mi (by decide +kernel) (pa_cons (pv 0) (pa_cons (pe_glob (v := .ref (cs 13)) (by rfl) M.c13.hm rfl) pa_nil))) (pa_cons (pe_callB call_isX (by rfl) mi (by decide +kernel) (pa_cons (pv 0) (pa_cons (pe_glob (v := .ref (cs 14)) (by rfl) M.c14.hm rfl) pa_nil))) (pa_cons (pe_callB call_isX (by rfl) mi (by decide +kernel) (pa_cons (pv 0) (pa_cons (pe_glob (v := .ref (cs 15)) (by rfl) M.c15.hm rfl) pa_nil))) pa_nil))))))
      (pss_cons (ps_set (i := 1) scKinds.nd rfl (.inl rfl) (pe_op op_cat (pv 1) (pe_lst (pa_cons (pe_callB call_isX (by rfl) mi (by decide +kernel) (pa_cons (pv 0) (pa_cons (pe_bltn (v := .ty "ValueError") (by rfl) B.b16 (by decide +kernel) rfl) pa_nil))) (pa_cons (pe_callB call_isX (by rfl) mi (by decide +kernel) (pa_cons (pv 0) (pa_cons (pe_bltn (v := .ty "IndexError") (by rfl) B.b17 (by decide +kernel) rfl) pa_nil))) (pa_cons (pe_callB call_isX (by rfl) mi (by decide +kernel) (pa_cons (pv 0) (pa_cons (pe_bltn (v := .ty "KeyError") (by rfl) B.b18 (by decide +kernel) rfl) pa_nil))) pa_nil))))))
      (pss_cons (ps_set (i := 1) scKinds.nd rfl (.inl rfl) (pe_op op_cat (pv 1) (pe_lst (pa_cons (pe_callB call_isX (by rfl) mi (by decide +kernel) (pa_cons (pv 0) (pa_cons (pe_bltn (v := .ty "LookupError") (by rfl) B.b19 (by decide +kernel) rfl) pa_nil))) (pa_cons (pe_callB call_isX (by rfl) mi (by decide +kernel) (pa_cons (pv 0) (pa_cons (pe_bltn (v := .ty "OverflowError") (by rfl) B.b20 (by decide +kernel) rfl) pa_nil))) (pa_cons (pe_callB call_isX (by rfl) mi (by decide +kernel) (pa_cons (pv 0) (pa_cons (pe_bltn (v := .ty "ArithmeticError") (by rfl) B.b21 (by decide +kernel) rfl) pa_nil))) pa_nil))))))
      (pss_one (ps_ret (pe_join pe_str (pe_lc (own := [("_law_one", 2)]) (g := gName 2) (tt := tYes) rfl scKinds.nd (pi_list (pv 1)) (blkOk_by (N := ["_law_error", "_law_row", "_law_one"]) (sc := defScope sKinds) (by decide +kernel))
          (fun _ _ _ _ _ => pg_name (i := 2) scKinds.nd rfl (Or.inl rfl)) (fun _ _ _ _ _ => pts_nil) (fun _ _ _ _ _ => pe_callTy call_str_int (by rfl) ms (by decide +kernel) (pa_cons (pe_callTy call_int1 (by rfl) mn (by decide +kernel) (pa_cons (pv 2) pa_nil)) pa_nil))))))))))))), ?_⟩
    refine ⟨.ref a, rfl, a, cs k, _, _, (dueB k).getD 0 false, rfl, .own (cs 0), hx0, T.ex k hk, T.kt k 0 hk (by decide), ⟨.ref a, rfl, a, cs k, _, _, (dueB k).getD 1 false, rfl, .own (cs 1), hx0, T.ex k hk, T.kt k 1 hk (by decide), ⟨.ref a, rfl, a, cs k, _, _, (dueB k).getD 2 false, rfl, .own (cs 2), hx0, T.ex k hk, T.kt k 2 hk (by decide), ⟨by show 3 ≤ sizeLine; decide, fun m0 q0 => ?_⟩⟩⟩⟩
    have w0 := same_upd (o := .lst [V.bl ((dueB k).getD 0 false), V.bl ((dueB k).getD 1 false), V.bl ((dueB k).getD 2 false)]) q0
    have hx1 := HasExc.same hx0 w0
    have e0 : (upd H m0 (.lst [V.bl ((dueB k).getD 0 false), V.bl ((dueB k).getD 1 false), V.bl ((dueB k).getD 2 false)])) m0 = some (.lst ([0, 1, 2].map fun j => V.bl ((dueB k).getD j false))) := upd_same
    generalize upd H m0 _ = G0 at w0 hx1 e0 ⊢
    have W0 := w0
    refine ⟨_, rfl, ⟨.ref a, rfl, a, cs k, _, _, (dueB k).getD 3 false, rfl, .own (cs 3), hx1, T.ex k hk, T.kt k 3 hk (by decide), ⟨.ref a, rfl, a, cs k, _, _, (dueB k).getD 4 false, rfl, .own (cs 4), hx1, T.ex k hk, T.kt k 4 hk (by decide), ⟨.ref a, rfl, a, cs k, _, _, (dueB k).getD 5 false, rfl, .own (cs 5), hx1, T.ex k hk, T.kt k 5 hk (by decide), ⟨by show 3 ≤ sizeLine; decide, fun m1 q1 => ?_⟩⟩⟩⟩⟩
    have u1 := same_upd (o := .lst [V.bl ((dueB k).getD 3 false), V.bl ((dueB k).getD 4 false), V.bl ((dueB k).getD 5 false)]) q1
    refine ⟨m0, m1, _, _, rfl, rfl, u1 _ _ e0, upd_same, (by show 6 ≤ sizeLine; decide), fun p1 r1 => ?_⟩
    have v1 := u1.trans (same_upd (o := .lst (([0, 1, 2].map fun j => V.bl ((dueB k).getD j false)) ++ [V.bl ((dueB k).getD 3 false), V.bl ((dueB k).getD 4 false), V.bl ((dueB k).getD 5 false)])) r1)
    have hx2 := HasExc.same hx1 v1
    have e1 : (upd (upd G0 m1 (.lst [V.bl ((dueB k).getD 3 false), V.bl ((dueB k).getD 4 false), V.bl ((dueB k).getD 5 false)])) p1 (.lst (([0, 1, 2].map fun j => V.bl ((dueB k).getD j false)) ++ [V.bl ((dueB k).getD 3 false), V.bl ((dueB k).getD 4 false), V.bl ((dueB k).getD 5 false)]))) p1 = some (.lst ([0, 1, 2, 3, 4, 5].map fun j => V.bl ((dueB k).getD j false))) := upd_same
    have W1 := W0.trans v1
    generalize upd (upd G0 m1 _) p1 _ = G1 at v1 hx2 e1 W1 ⊢
    refine ⟨_, rfl, ⟨.ref a, rfl, a, cs k, _, _, (dueB k).getD 6 false, rfl, .own (cs 6), hx2, T.ex k hk, T.kt k 6 hk (by decide), ⟨.ref a, rfl, a, cs k, _, _, (dueB k).getD 7 false, rfl, .own (cs 7), hx2, T.ex k hk, T.kt k 7 hk (by decide), ⟨.ref a, rfl, a, cs k, _, _, (dueB k).getD 8 false, rfl, .own (cs 8), hx2, T.ex k hk, T.kt k 8 hk (by decide), ⟨by show 3 ≤ sizeLine; decide, fun m2 q2 => ?_⟩⟩⟩⟩⟩
    have u2 := same_upd (o := .lst [V.bl ((dueB k).getD 6 false), V.bl ((dueB k).getD 7 false), V.bl ((dueB k).getD 8 false)]) q2
    refine ⟨p1, m2, _, _, rfl, rfl, u2 _ _ e1, upd_same, (by show 9 ≤ sizeLine; decide), fun p2 r2 => ?_⟩
    have v2 := u2.trans (same_upd (o := .lst (([0, 1, 2, 3, 4, 5].map fun j => V.bl ((dueB k).getD j false)) ++ [V.bl ((dueB k).getD 6 false), V.bl ((dueB k).getD 7 false), V.bl ((dueB k).getD 8 false)])) r2)
    have hx3 := HasExc.same hx2 v2
    have e2 : (upd (upd G1 m2 (.lst [V.bl ((dueB k).getD 6 false), V.bl ((dueB k).getD 7 false), V.bl ((dueB k).getD 8 false)])) p2 (.lst (([0, 1, 2, 3, 4, 5].map fun j => V.bl ((dueB k).getD j false)) ++ [V.bl ((dueB k).getD 6 false), V.bl ((dueB k).getD 7 false), V.bl ((dueB k).getD 8 false)]))) p2 = some (.lst ([0, 1, 2, 3, 4, 5, 6, 7, 8].map fun j => V.bl ((dueB k).getD j false))) := upd_same
    have W2 := W1.trans v2
    generalize upd (upd G1 m2 _) p2 _ = G2 at v2 hx3 e2 W2 ⊢
    refine ⟨_, rfl, ⟨.ref a, rfl, a, cs k, _, _, (dueB k).getD 9 false, rfl, .own (cs 9), hx3, T.ex k hk, T.kt k 9 hk (by decide), ⟨.ref a, rfl, a, cs k, _, _, (dueB k).getD 10 false, rfl, .own (cs 10), hx3, T.ex k hk, T.kt k 10 hk (by decide), ⟨by show 2 ≤ sizeLine; decide, fun m3 q3 => ?_⟩⟩⟩⟩
    have u3 := same_upd (o := .lst [V.bl ((dueB k).getD 9 false), V.bl ((dueB k).getD 10 false)]) q3
    refine ⟨p2, m3, _, _, rfl, rfl, u3 _ _ e2, upd_same, (by show 11 ≤ sizeLine; decide), fun p3 r3 => ?_⟩
    have v3 := u3.trans (same_upd (o := .lst (([0, 1, 2, 3, 4, 5, 6, 7, 8].map fun j => V.bl ((dueB k).getD j false)) ++ [V.bl ((dueB k).getD 9 false), V.bl ((dueB k).getD 10 false)])) r3)
    have hx4 := HasExc.same hx3 v3
    have e3 : (upd (upd G2 m3 (.lst [V.bl ((dueB k).getD 9 false), V.bl ((dueB k).getD 10 false)])) p3 (.lst (([0, 1, 2, 3, 4, 5, 6, 7, 8].map fun j => V.bl ((dueB k).getD j false)) ++ [V.bl ((dueB k).getD 9 false), V.bl ((dueB k).getD 10 false)]))) p3 = some (.lst ([0, 1, 2, 3, 4, 5, 6, 7, 8, 9, 10].map fun j => V.bl ((dueB k).getD j false))) := upd_same
    have W3 := W2.trans v3
    generalize upd (upd G2 m3 _) p3 _ = G3 at v3 hx4 e3 W3 ⊢
    refine ⟨_, rfl, ⟨.ref a, rfl, a, cs k, _, _, (dueB k).getD 11 false, rfl, .own (cs 11), hx4, T.ex k hk, T.kt k 11 hk (by decide), ⟨.ref a, rfl, a, cs k, _, _, (dueB k).getD 12 false, rfl, .own (cs 12), hx4, T.ex k hk, T.kt k 12 hk (by decide), ⟨by show 2 ≤ sizeLine; decide, fun m4 q4 => ?_⟩⟩⟩⟩
    have u4 := same_upd (o := .lst [V.bl ((dueB k).getD 11 false), V.bl ((dueB k).getD 12 false)]) q4
    refine ⟨p3, m4, _, _, rfl, rfl, u4 _ _ e3, upd_same, (by show 13 ≤ sizeLine; decide), fun p4 r4 => ?_⟩
    have v4 := u4.trans (same_upd (o := .lst (([0, 1, 2, 3, 4, 5, 6, 7, 8, 9, 10].map fun j => V.bl ((dueB k).getD j false)) ++ [V.bl ((dueB k).getD 11 false), V.bl ((dueB k).getD 12 false)])) r4)
    have hx5 := HasExc.same hx4 v4
    have e4 : (upd (upd G3 m4 (.lst [V.bl ((dueB k).getD 11 false), V.bl ((dueB k).getD 12 false)])) p4 (.lst (([0, 1, 2, 3, 4, 5, 6, 7, 8, 9, 10].map fun j => V.bl ((dueB k).getD j false)) ++ [V.bl ((dueB k).getD 11 false), V.bl ((dueB k).getD 12 false)]))) p4 = some (.lst ([0, 1, 2, 3, 4, 5, 6, 7, 8, 9, 10, 11, 12].map fun j => V.bl ((dueB k).getD j false))) := upd_same
    have W4 := W3.trans v4
    generalize upd (upd G3 m4 _) p4 _ = G4 at v4 hx5 e4 W4 ⊢
    refine ⟨_, rfl, ⟨.ref a, rfl, a, cs k, _, _, (dueB k).getD 13 false, rfl, .own (cs 13), hx5, T.ex k hk, T.kt k 13 hk (by decide), ⟨.ref a, rfl, a, cs k, _, _, (dueB k).getD 14 false, rfl, .own (cs 14), hx5, T.ex k hk, T.kt k 14 hk (by decide), ⟨.ref a, rfl, a, cs k, _, _, (dueB k).getD 15 false, rfl, .own (cs 15), hx5, T.ex k hk, T.kt k 15 hk (by decide), ⟨by show 3 ≤ sizeLine; decide, fun m5 q5 => ?_⟩⟩⟩⟩⟩
    have u5 := same_upd (o := .lst [V.bl ((dueB k).getD 13 false), V.bl ((dueB k).getD 14 false), V.bl ((dueB k).getD 15 false)]) q5
    refine ⟨p4, m5, _, _, rfl, rfl, u5 _ _ e4, upd_same, (by show 16 ≤ sizeLine; decide), fun p5 r5 => ?_⟩
    have v5 := u5.trans (same_upd (o := .lst (([0, 1, 2, 3, 4, 5, 6, 7, 8, 9, 10, 11, 12].map fun j => V.bl ((dueB k).getD j false)) ++ [V.bl ((dueB k).getD 13 false), V.bl ((dueB k).getD 14 false), V.bl ((dueB k).getD 15 false)])) r5)
    have hx6 := HasExc.same hx5 v5
    have e5 : (upd (upd G4 m5 (.lst [V.bl ((dueB k).getD 13 false), V.bl ((dueB k).getD 14 false), V.bl ((dueB k).getD 15 false)])) p5 (.lst (([0, 1, 2, 3, 4, 5, 6, 7, 8, 9, 10, 11, 12].map fun j => V.bl ((dueB k).getD j false)) ++ [V.bl ((dueB k).getD 13 false), V.bl ((dueB k).getD 14 false), V.bl ((dueB k).getD 15 false)]))) p5 = some (.lst ([0, 1, 2, 3, 4, 5, 6, 7, 8, 9, 10, 11, 12, 13, 14, 15].map fun j => V.bl ((dueB k).getD j false))) := upd_same
    have W5 := W4.trans v5
    generalize upd (upd G4 m5 _) p5 _ = G5 at v5 hx6 e5 W5 ⊢
    refine ⟨_, rfl, ⟨.ref a, rfl, a, cs k, _, _, (dueB k).getD 16 false, rfl, .ty "ValueError", hx6, T.ex k hk, T.kt k 16 hk (by decide), ⟨.ref a, rfl, a, cs k, _, _, (dueB k).getD 17 false, rfl, .ty "IndexError", hx6, T.ex k hk, T.kt k 17 hk (by decide), ⟨.ref a, rfl, a, cs k, _, _, (dueB k).getD 18 false, rfl, .ty "KeyError", hx6, T.ex k hk, T.kt k 18 hk (by decide), ⟨by show 3 ≤ sizeLine; decide, fun m6 q6 => ?_⟩⟩⟩⟩⟩
    have u6 := same_upd (o := .lst [V.bl ((dueB k).getD 16 false), V.bl ((dueB k).getD 17 false), V.bl ((dueB k).getD 18 false)]) q6
    refine ⟨p5, m6, _, _, rfl, rfl, u6 _ _ e5, upd_same, (by show 19 ≤ sizeLine; decide), fun p6 r6 => ?_⟩
    have v6 := u6.trans (same_upd (o := .lst (([0, 1, 2, 3, 4, 5, 6, 7, 8, 9, 10, 11, 12, 13, 14, 15].map fun j => V.bl ((dueB k).getD j false)) ++ [V.bl ((dueB k).getD 16 false), V.bl ((dueB k).getD 17 false), V.bl ((dueB k).getD 18 false)])) r6)
    have hx7 := HasExc.same hx6 v6
    have e6 : (upd (upd G5 m6 (.lst [V.bl ((dueB k).getD 16 false), V.bl ((dueB k).getD 17 false), V.bl ((dueB k).getD 18 false)])) p6 (.lst (([0, 1, 2, 3, 4, 5, 6, 7, 8, 9, 10, 11, 12, 13, 14, 15].map fun j => V.bl ((dueB k).getD j false)) ++ [V.bl ((dueB k).getD 16 false), V.bl ((dueB k).getD 17 false), V.bl ((dueB k).getD 18 false)]))) p6 = some (.lst ([0, 1, 2, 3, 4, 5, 6, 7, 8, 9, 10, 11, 12, 13, 14, 15, 16, 17, 18].map fun j => V.bl ((dueB k).getD j false))) := upd_same
    have W6 := W5.trans v6
    generalize upd (upd G5 m6 _) p6 _ = G6 at v6 hx7 e6 W6 ⊢
    refine ⟨_, rfl, ⟨.ref a, rfl, a, cs k, _, _, (dueB k).getD 19 false, rfl, .ty "LookupError", hx7, T.ex k hk, T.kt k 19 hk (by decide), ⟨.ref a, rfl, a, cs k, _, _, (dueB k).getD 20 false, rfl, .ty "OverflowError", hx7, T.ex k hk, T.kt k 20 hk (by decide), ⟨.ref a, rfl, a, cs k, _, _, (dueB k).getD 21 false, rfl, .ty "ArithmeticError", hx7, T.ex k hk, T.kt k 21 hk (by decide), ⟨by show 3 ≤ sizeLine; decide, fun m7 q7 => ?_⟩⟩⟩⟩⟩
    have u7 := same_upd (o := .lst [V.bl ((dueB k).getD 19 false), V.bl ((dueB k).getD 20 false), V.bl ((dueB k).getD 21 false)]) q7
    refine ⟨p6, m7, _, _, rfl, rfl, u7 _ _ e6, upd_same, (by show 22 ≤ sizeLine; decide), fun p7 r7 => ?_⟩
    have v7 := u7.trans (same_upd (o := .lst (([0, 1, 2, 3, 4, 5, 6, 7, 8, 9, 10, 11, 12, 13, 14, 15, 16, 17, 18].map fun j => V.bl ((dueB k).getD j false)) ++ [V.bl ((dueB k).getD 19 false), V.bl ((dueB k).getD 20 false), V.bl ((dueB k).getD 21 false)])) r7)
    have hx8 := HasExc.same hx7 v7
    have e7 : (upd (upd G6 m7 (.lst [V.bl ((dueB k).getD 19 false), V.bl ((dueB k).getD 20 false), V.bl ((dueB k).getD 21 false)])) p7 (.lst (([0, 1, 2, 3, 4, 5, 6, 7, 8, 9, 10, 11, 12, 13, 14, 15, 16, 17, 18].map fun j => V.bl ((dueB k).getD j false)) ++ [V.bl ((dueB k).getD 19 false), V.bl ((dueB k).getD 20 false), V.bl ((dueB k).getD 21 false)]))) p7 = some (.lst ([0, 1, 2, 3, 4, 5, 6, 7, 8, 9, 10, 11, 12, 13, 14, 15, 16, 17, 18, 19, 20, 21].map fun j => V.bl ((dueB k).getD j false))) := upd_same
    have W7 := W6.trans v7
    generalize upd (upd G6 m7 _) p7 _ = G7 at v7 hx8 e7 W7 ⊢

    have ln : (dueB k).length = 22 := by
      unfold dueB
      rw [List.length_append, List.length_map, List.length_range]
      rfl
    have el : ([0, 1, 2, 3, 4, 5, 6, 7, 8, 9, 10, 11, 12, 13, 14, 15, 16, 17, 18, 19, 20, 21].map fun j => V.bl ((dueB k).getD j false)) = (dueB k).map V.bl := by
      have e1 := all_getD (dueB k)
      rw [ln] at e1
      have e2 : ([0, 1, 2, 3, 4, 5, 6, 7, 8, 9, 10, 11, 12, 13, 14, 15, 16, 17, 18, 19, 20, 21] : List Nat) = List.range 22 := by decide
      have e3 : ((List.range 22).map fun j => V.bl ((dueB k).getD j false)) = ((List.range 22).map fun j => (dueB k).getD j false).map V.bl := by
        rw [List.map_map]
        rfl
      rw [e2, e3, e1]
    rw [el] at e7
    refine ⟨⟨"", rfl⟩, .ref p7, rfl, p7, rfl, ⟨_, SqL.of e7⟩, fun D2 hD2 => ?_⟩
    refine lc_list (K := K) (a := p7) (xs := (dueB k).map V.bl) (fun m H' => H' = upd G7 D2 (.lst (((dueB k).take m).map fun b => V.str (b01 b)))) rfl (fun m H' hm hP => ?_) (fun m x H' hx hP => ?_) (fun H' hP => ?_)
    · subst hP
      exact SqL.of (by rw [upd_ne (ne_of_none e7 hD2)]; exact e7)
    · subst hP
      rw [List.getElem?_map] at hx
      obtain ⟨b, hb, rfl⟩ := Option.map_eq_some_iff.mp hx
      have hml : m < (dueB k).length := (List.getElem?_eq_some_iff.mp hb).1
      refine ⟨rfl, _, rfl, .inr ⟨b, rfl, b2n b, rfl, ?_, _, upd_same, ?_, ?_⟩⟩
      · cases b <;> decide
      · rw [List.length_map, List.length_take, sizeLine_eq]
        omega
      · rw [upd_upd, List.take_add_one, hb, List.map_append]
        rfl
    · subst hP
      refine ⟨"", D2, (dueB k).map b01, rfl, rfl, .inl (SqL.of ?_), ?_, ?_⟩
      · rw [upd_same, List.length_map, List.take_length, List.map_map]
        rfl
      · show ((((dueB k).map b01).map (·.length)).sum + ((dueB k).map b01).length * 0 ≤ 16777216)
        rw [join_len, ln, Nat.mul_zero]
        decide
      · exact q _ (W7.trans (same_upd hD2))
end
end K00

set_option maxRecDepth 100000
set_option maxHeartbeats 4000000
namespace K00
open PySem PySem.Spec PyProof.Rows L2 PySem.KX KX
abbrev sKeep : Stmt := topS 29
abbrev sPlain : Stmt := topS 30
theorem scKeep : FnScope ["_law_at", "_law_value"] ["_law_at", "_law_value"] (defScope sKeep) :=
  ⟨rfl, rfl, rfl, by decide +kernel, rfl, by decide +kernel, by decide +kernel⟩
theorem scPlain : FnScope ["_law_at"] ["_law_at"] (defScope sPlain) :=
  ⟨rfl, rfl, rfl, by decide +kernel, rfl, by decide +kernel, by decide +kernel⟩
def fld (i : Nat) : Str := (["index", "number", "name", "asked", "bound", "reason"] : List Str).getD i ""
def spKeep (cs : Nat → Addr) : Sp := fun vs H _ E => ∃ (i : Nat) (v : V), vs = [.int i, v] ∧ i < 6 ∧ ∀ d H', Same H H' → H' d = some (.xd [(fld i, v)]) → E (.ref (cs i)) (some d) H'
def spPlain (cs : Nat → Addr) : Sp := fun vs H _ E => ∃ i : Nat, vs = [.int i] ∧ i < 10 ∧ E (.ref (cs (i + 6))) none H
section
variable {X : Cx} {x : Str} {C : Addr} {p pos : Pos}
theorem pmk_mkP {m : Str} {j : Nat} {p2 : Pos} (M : MkP X.K X.mg x C) (hg : Gl X x) (hdb : (x == ("__debug__" : Str)) = false := by decide) :
    PMk X (.Call (.Name x p) [.Constant (.str m) j p2] [] pos) (fun _ H Q => Q (.ref C) none H) :=
  pmk_own PySem.F.excBase_ValueError M.ov M.hm M.kC (raises_own M.exC M.tyC) hg hdb
end
theorem if_no {σ : L2.St} {H : Hp} {i k : Nat} (h : i ≠ k) {A B : Prop} (b : B) : if decide (V.int (i : Int) = V.int (k : Int)) = true then A else B := by
  rw [if_neg]
  · exact b
  · intro z
    have := V.int.inj (of_decide_eq_true z)
    omega
section
variable {P : Program} {w : World} {K : PySem.W.Frag} {mg : Str → Option Value} {base : Heap} {cs : Nat → Addr}
theorem ok_keep {f : Addr} {fd : FuncData} (F : Fun K "_law_keeping" "_law_keeping" sKeep f fd) (M : Sixteen P w K mg base cs) : FnOk P w K mg base (L2.CX P w) 3 f fd ["_law_at", "_law_value"] (spKeep cs) := by
  refine F.okX scKeep (fun vs H Q E h => ?_) (fun cdv A outer s H vs Q E hr h => ?_)
  · obtain ⟨i, v, rfl, _⟩ := h
    rfl
  · obtain ⟨i, v, rfl, hi, q⟩ := h
    refine ⟨_, pss_cons (ps_if (pt_cmpR op_eq (pv 0) pe_int (nomark _)) (pss_one (ps_raise rfl (takes_of rfl rfl rfl rfl) (pmk_mkG M.c0 hr pass0 (by rfl) (pv 1)))) pss_nil)
      (pss_cons (ps_if (pt_cmpR op_eq (pv 0) pe_int (nomark _)) (pss_one (ps_raise rfl (takes_of rfl rfl rfl rfl) (pmk_mkG M.c1 hr pass0 (by rfl) (pv 1)))) pss_nil)
      (pss_cons (ps_if (pt_cmpR op_eq (pv 0) pe_int (nomark _)) (pss_one (ps_raise rfl (takes_of rfl rfl rfl rfl) (pmk_mkG M.c2 hr pass0 (by rfl) (pv 1)))) pss_nil)
      (pss_cons (ps_if (pt_cmpR op_eq (pv 0) pe_int (nomark _)) (pss_one (ps_raise rfl (takes_of rfl rfl rfl rfl) (pmk_mkG M.c3 hr pass0 (by rfl) (pv 1)))) pss_nil)
      (pss_cons (ps_if (pt_cmpR op_eq (pv 0) pe_int (nomark _)) (pss_one (ps_raise rfl (takes_of rfl rfl rfl rfl) (pmk_mkG M.c4 hr pass0 (by rfl) (pv 1)))) pss_nil)
      (pss_one (ps_raise rfl (takes_of rfl rfl rfl rfl) (pmk_mkG M.c5 hr pass0 (by rfl) (pv 1)))))))), ?_⟩
    match i, hi, q with
    | 0, _, q => exact ⟨_, rfl, rfl, _, rfl, ⟨v, rfl, (by show 1 ≤ 1000; decide), fun a na => rai_in (Q := fun cls d H' => E cls d H') na fun d H' nd sm hd => q d H' sm hd⟩⟩
    | 1, _, q => exact ⟨_, rfl, rfl, _, rfl, ⟨_, rfl, rfl, _, rfl, ⟨v, rfl, (by show 1 ≤ 1000; decide), fun a na => rai_in (Q := fun cls d H' => E cls d H') na fun d H' nd sm hd => q d H' sm hd⟩⟩⟩
    | 2, _, q => exact ⟨_, rfl, rfl, _, rfl, ⟨_, rfl, rfl, _, rfl, ⟨_, rfl, rfl, _, rfl, ⟨v, rfl, (by show 1 ≤ 1000; decide), fun a na => rai_in (Q := fun cls d H' => E cls d H') na fun d H' nd sm hd => q d H' sm hd⟩⟩⟩⟩
    | 3, _, q => exact ⟨_, rfl, rfl, _, rfl, ⟨_, rfl, rfl, _, rfl, ⟨_, rfl, rfl, _, rfl, ⟨_, rfl, rfl, _, rfl, ⟨v, rfl, (by show 1 ≤ 1000; decide), fun a na => rai_in (Q := fun cls d H' => E cls d H') na fun d H' nd sm hd => q d H' sm hd⟩⟩⟩⟩⟩
    | 4, _, q => exact ⟨_, rfl, rfl, _, rfl, ⟨_, rfl, rfl, _, rfl, ⟨_, rfl, rfl, _, rfl, ⟨_, rfl, rfl, _, rfl, ⟨_, rfl, rfl, _, rfl, ⟨v, rfl, (by show 1 ≤ 1000; decide), fun a na => rai_in (Q := fun cls d H' => E cls d H') na fun d H' nd sm hd => q d H' sm hd⟩⟩⟩⟩⟩⟩
    | 5, _, q => exact ⟨_, rfl, rfl, _, rfl, ⟨_, rfl, rfl, _, rfl, ⟨_, rfl, rfl, _, rfl, ⟨_, rfl, rfl, _, rfl, ⟨_, rfl, rfl, _, rfl, ⟨v, rfl, (by show 1 ≤ 1000; decide), fun a na => rai_in (Q := fun cls d H' => E cls d H') na fun d H' nd sm hd => q d H' sm hd⟩⟩⟩⟩⟩⟩
    | n + 6, h, _ => exact absurd h (by omega)
theorem ok_plain {f : Addr} {fd : FuncData} (F : Fun K "_law_plain" "_law_plain" sPlain f fd) (M : Sixteen P w K mg base cs) : FnOk P w K mg base (L2.CX P w) 1 f fd ["_law_at"] (spPlain cs) := by
  refine F.okX scPlain (fun vs H Q E h => ?_) (fun cdv A outer s H vs Q E hr h => ?_)
  · obtain ⟨i, rfl, _⟩ := h
    rfl
  · obtain ⟨i, rfl, hi, q⟩ := h
    refine ⟨_, pss_cons (ps_if (pt_cmpR op_eq (pv 0) pe_int (nomark _)) (pss_one (ps_raise rfl (takes_of rfl rfl rfl rfl) (pmk_mkP M.c6 (by rfl)))) pss_nil)
      (pss_cons (ps_if (pt_cmpR op_eq (pv 0) pe_int (nomark _)) (pss_one (ps_raise rfl (takes_of rfl rfl rfl rfl) (pmk_mkP M.c7 (by rfl)))) pss_nil)
      (pss_cons (ps_if (pt_cmpR op_eq (pv 0) pe_int (nomark _)) (pss_one (ps_raise rfl (takes_of rfl rfl rfl rfl) (pmk_mkP M.c8 (by rfl)))) pss_nil)
      (pss_cons (ps_if (pt_cmpR op_eq (pv 0) pe_int (nomark _)) (pss_one (ps_raise rfl (takes_of rfl rfl rfl rfl) (pmk_mkP M.c9 (by rfl)))) pss_nil)
      (pss_cons (ps_if (pt_cmpR op_eq (pv 0) pe_int (nomark _)) (pss_one (ps_raise rfl (takes_of rfl rfl rfl rfl) (pmk_mkP M.c10 (by rfl)))) pss_nil)
      (pss_cons (ps_if (pt_cmpR op_eq (pv 0) pe_int (nomark _)) (pss_one (ps_raise rfl (takes_of rfl rfl rfl rfl) (pmk_mkP M.c11 (by rfl)))) pss_nil)
      (pss_cons (ps_if (pt_cmpR op_eq (pv 0) pe_int (nomark _)) (pss_one (ps_raise rfl (takes_of rfl rfl rfl rfl) (pmk_mkP M.c12 (by rfl)))) pss_nil)
      (pss_cons (ps_if (pt_cmpR op_eq (pv 0) pe_int (nomark _)) (pss_one (ps_raise rfl (takes_of rfl rfl rfl rfl) (pmk_mkP M.c13 (by rfl)))) pss_nil)
      (pss_cons (ps_if (pt_cmpR op_eq (pv 0) pe_int (nomark _)) (pss_one (ps_raise rfl (takes_of rfl rfl rfl rfl) (pmk_mkP M.c14 (by rfl)))) pss_nil)
      (pss_one (ps_raise rfl (takes_of rfl rfl rfl rfl) (pmk_mkP M.c15 (by rfl)))))))))))), ?_⟩
    match i, hi, q with
    | 0, _, q => exact ⟨_, rfl, rfl, _, rfl, q⟩
    | 1, _, q => exact ⟨_, rfl, rfl, _, rfl, ⟨_, rfl, rfl, _, rfl, q⟩⟩
    | 2, _, q => exact ⟨_, rfl, rfl, _, rfl, ⟨_, rfl, rfl, _, rfl, ⟨_, rfl, rfl, _, rfl, q⟩⟩⟩
    | 3, _, q => exact ⟨_, rfl, rfl, _, rfl, ⟨_, rfl, rfl, _, rfl, ⟨_, rfl, rfl, _, rfl, ⟨_, rfl, rfl, _, rfl, q⟩⟩⟩⟩
    | 4, _, q => exact ⟨_, rfl, rfl, _, rfl, ⟨_, rfl, rfl, _, rfl, ⟨_, rfl, rfl, _, rfl, ⟨_, rfl, rfl, _, rfl, ⟨_, rfl, rfl, _, rfl, q⟩⟩⟩⟩⟩
    | 5, _, q => exact ⟨_, rfl, rfl, _, rfl, ⟨_, rfl, rfl, _, rfl, ⟨_, rfl, rfl, _, rfl, ⟨_, rfl, rfl, _, rfl, ⟨_, rfl, rfl, _, rfl, ⟨_, rfl, rfl, _, rfl, q⟩⟩⟩⟩⟩⟩
    | 6, _, q => exact ⟨_, rfl, rfl, _, rfl, ⟨_, rfl, rfl, _, rfl, ⟨_, rfl, rfl, _, rfl, ⟨_, rfl, rfl, _, rfl, ⟨_, rfl, rfl, _, rfl, ⟨_, rfl, rfl, _, rfl, ⟨_, rfl, rfl, _, rfl, q⟩⟩⟩⟩⟩⟩⟩
    | 7, _, q => exact ⟨_, rfl, rfl, _, rfl, ⟨_, rfl, rfl, _, rfl, ⟨_, rfl, rfl, _, rfl, ⟨_, rfl, rfl, _, rfl, ⟨_, rfl, rfl, _, rfl, ⟨_, rfl, rfl, _, rfl, ⟨_, rfl, rfl, _, rfl, ⟨_, rfl, rfl, _, rfl, q⟩⟩⟩⟩⟩⟩⟩⟩
    | 8, _, q => exact ⟨_, rfl, rfl, _, rfl, ⟨_, rfl, rfl, _, rfl, ⟨_, rfl, rfl, _, rfl, ⟨_, rfl, rfl, _, rfl, ⟨_, rfl, rfl, _, rfl, ⟨_, rfl, rfl, _, rfl, ⟨_, rfl, rfl, _, rfl, ⟨_, rfl, rfl, _, rfl, ⟨_, rfl, rfl, _, rfl, q⟩⟩⟩⟩⟩⟩⟩⟩⟩
    | 9, _, q => exact ⟨_, rfl, rfl, _, rfl, ⟨_, rfl, rfl, _, rfl, ⟨_, rfl, rfl, _, rfl, ⟨_, rfl, rfl, _, rfl, ⟨_, rfl, rfl, _, rfl, ⟨_, rfl, rfl, _, rfl, ⟨_, rfl, rfl, _, rfl, ⟨_, rfl, rfl, _, rfl, ⟨_, rfl, rfl, _, rfl, q⟩⟩⟩⟩⟩⟩⟩⟩⟩
    | n + 10, h, _ => exact absurd h (by omega)
end
end K00

set_option maxRecDepth 100000
set_option maxHeartbeats 4000000
/-! several clauses, with a name or without, of which one takes whatever the body raises -/
namespace KX
open PySem PySem.Spec PyProof.Rows L2
abbrev Sui := Addr → Value → Option Addr → TS
/-- the ends of a suite whose clause names slot i -/
def offS (i : Nat) (D : Ends) : Ends := { nx := fun σ H => D.nx (σ.set i none) H, rt := D.rt, bk := fun σ H => D.bk (σ.set i none) H, ct := fun σ H => D.ct (σ.set i none) H }
/-- one clause after the other: a class, the slot of its name if it has one, its suite -/
def wMix (K : PySem.W.Frag) (D : Ends) : List (Value × Option Nat × Sui) → WX
  | [] => fun _ _ _ _ => False
  | (c, o, ts) :: r => fun cls d σ H => ∃ b, PySem.W.exmOne K cls c = some b ∧
      (b = true → ∀ a, H a = none → match o with
        | none => ts a cls d D σ H
        | some i => i < σ.length → ts a cls d (offS i D) (σ.set i (some (.ref a))) H) ∧
      (b = false → wMix K D r cls d σ H)
inductive MixOk (X : Cx) : List ExceptHandler → List (Value × Option Nat × Sui) → Prop
  | nil : MixOk X [] []
  | bare {x : Str} {c : Value} {ts : Sui} {b₀ : Stmt} {suite : List Stmt} {np pos' : Pos} {hds : List ExceptHandler} {l : List (Value × Option Nat × Sui)} (hc : Names X x c)
      (hsu : ∀ (a : Addr) (oe : Obj) (cls : Value) (d : Option Addr) (pn : List (Addr × Obj)), Zc cls d oe → (∃ vs, oe.data = .fields vs) → PSs (X.suite a ((a, oe) :: pn)) (b₀ :: suite) (ts a cls d)) (r : MixOk X hds l) :
      MixOk X (.ExceptHandler (some (.Name x np)) none (b₀ :: suite) pos' :: hds) ((c, none, ts) :: l)
  | named {x n : Str} {c : Value} {i : Nat} {ts : Sui} {b₀ : Stmt} {suite : List Stmt} {np pos' : Pos} {hds : List ExceptHandler} {l : List (Value × Option Nat × Sui)} (hc : Names X x c) (hi : X.N[i]? = some n) (hln : X.env.kindOf n = some .local)
      (hsu : ∀ (a : Addr) (oe : Obj) (cls : Value) (d : Option Addr) (pn : List (Addr × Obj)), Zc cls d oe → (∃ vs, oe.data = .fields vs) → PSs (X.suite a ((a, oe) :: pn)) (b₀ :: suite) (ts a cls d)) (r : MixOk X hds l) :
      MixOk X (.ExceptHandler (some (.Name x np)) (some n) (b₀ :: suite) pos' :: hds) ((c, some i, ts) :: l)
section
variable {X : Cx} {body : List Stmt} {h₀ : ExceptHandler} {hds : List ExceptHandler} {l : List (Value × Option Nat × Sui)} {pos : Pos} {tb : WX → TS}
theorem ps_try_mix (hs : X.stack = X.env :: X.outer) (hf : X.env.frame = some X.env.locals) (hN : X.N.Nodup)
    (hb : ∀ (W : WX) (pn : List (Addr × Obj)) (xe : Value → Shared → Prop), Takes (X.tr pn xe) W → PassesOwn (model X.prog X.w) X.A X.env xe → PSs (X.tr pn xe) body (tb W))
    (hh : MixOk X (h₀ :: hds) l) : PS X (.Try body (h₀ :: hds) [] [] pos) (fun D σ H => tb (wMix X.K D l) D σ H) := by
  refine ⟨fun pins s σ H D I h => ?_⟩
  have ok := I.ok
  have fr0 : X.A.frames = some (X.env :: X.outer) := by rw [ok.frames, hs]
  refine wpAny_Try_except ?_
  have tk0 : Takes (X.tr (X.pn ++ pins) fun e s₁ => wpAny (model X.prog X.w) X.A (noteFrame e X.env) (fun _ s₂ => wpAny (model X.prog X.w) X.A (setFlight e none)
      (fun _ s₃ => wpAny (model X.prog X.w) X.A (handleBy e X.env (h₀ :: hds)) (SP X pins D) X.xe s₃) X.xe s₂) X.xe s₁) (wMix X.K D l) := by
    intro u s' xx
    obtain ⟨a, B, sI, pins', σ', H', cls, d, rfl, J', nb, up, sky, na, os, ag, wish⟩ := xx
    have J : Inv X pins σ' H' sI := J'.ofTry ok
    have sky' : Sky B (X.env :: X.outer) a (Zc cls d) X.env.locals s'.heap := by
      rw [← hs]
      exact sky
    show wpAny (model X.prog X.w) X.A (noteFrame (.ref a) X.env) _ _ _
    refine Sky.land Zc.steady fr0 hf sky' fun h3 fl3 up3 => ?_
    have J3 : Inv X pins σ' H' { s' with heap := h3 } := J.landed nb fl3.1 (up.trans up3) os ag
    obtain ⟨oe3, vs3, he3, hz3, hd3⟩ := fl3.there
    have off : a ∉ frs (X.env :: X.outer) := fun hm => by
      obtain ⟨_, o', e', hnf⟩ := fl3.2.2.1.mem hm
      rw [he3] at e'
      cases e'
      exact hnf _ hd3
    have nL : a ≠ X.env.locals := fun z => off (List.mem_filterMap.mpr ⟨X.env, List.mem_cons_self, by rw [hf, z]⟩)
    have nF : a ∉ X.fs := fun hm => by
      obtain ⟨e, he, z⟩ := List.mem_filterMap.mp hm
      exact off (List.mem_filterMap.mpr ⟨e, List.mem_cons_of_mem _ he, z⟩)
    have S3 := J3.suite he3 hd3 na nL nF
    have tyL : PySem.W.Looks (model X.prog X.w) h3 (typeOf (.ref a)) cls := fun A Q E s k z => wpAny_typeOf_ref (k _ _ he3) (by rw [hz3.1]; exact z)
    have asked : ∀ {x : Str} {np : Pos} {c : Value} {Q : Value → Shared → Prop} {E : Value → Shared → Prop}, Names X x c → Q c { s' with heap := h3 } → wpAny (model X.prog X.w) (X.A.mark (some (.ref a))) (eval (.Name x np) X.env) Q E { s' with heap := h3 } := fun hc z => by
      obtain ⟨hg, hdbg, hm | ⟨hm, hv, hnn⟩⟩ := hc
      · exact ld_glob (X := X.suite a ((a, oe3) :: (X.pn ++ pins))) S3 hg hm z hdbg
      · exact ld_blt (X := X.suite a ((a, oe3) :: (X.pn ++ pins))) S3 hg hm hv z hnn hdbg
    have go : ∀ {hl : List ExceptHandler} {ls : List (Value × Option Nat × Sui)}, MixOk X hl ls → wMix X.K D ls cls d σ' H' →
        wpAny (model X.prog X.w) X.A (handleBy (.ref a) X.env hl) (SP X pins D) X.xe { s' with heap := h3 } := by
      intro hl ls hk
      induction hk with
      | nil => exact fun z => z.elim
      | @bare x c ts b₀ suite np pos' hl2 l2 hc hsu r ih =>
        intro wi
        obtain ⟨b, hb1, hyes, hno⟩ := wi
        refine wpAny_handleBy_cons (codeAny_handlers_test ?_) (by intro z; cases z)
        have em := PySem.W.exm_one (M := model X.prog X.w) (J3.kIn) tyL hb1
        refine asked hc (em.here ?_)
        cases b with
        | false =>
          show wpAny _ X.A (handleBy (.ref a) X.env hl2) _ _ _
          exact ih (hno rfl)
        | true =>
          refine codeAny_handlers_suite ?_
          refine HandSPX.lands_againZ fl3 fun h4 fl4 up4 => ?_
          have J4 : Inv X pins σ' H' { s' with heap := h4 } := J.landed nb fl4.1 ((up.trans up3).trans up4) os ag
          obtain ⟨oe4, vs4, he4, hz4, hd4⟩ := fl4.there
          have S4 := J4.suite he4 hd4 na nL nF
          refine wpAny_mono ((hsu a oe4 cls d (X.pn ++ pins) hz4 ⟨_, hd4⟩).run [] _ _ H' _ S4 (hyes rfl a na)) (fun f s6 hsp => ?_) (fun _ _ z => False.elim z)
          cases f with
          | ret u =>
            obtain ⟨v6, σ6, H6, S6, r6, q6⟩ := hsp
            exact ⟨_, _, _, S6.unsuite ok, r6, q6⟩
          | next =>
            obtain ⟨σ6, H6, S6, q6⟩ := hsp
            exact ⟨_, _, S6.unsuite ok, q6⟩
          | brk =>
            obtain ⟨σ6, H6, S6, q6⟩ := hsp
            exact ⟨_, _, S6.unsuite ok, q6⟩
          | cont =>
            obtain ⟨σ6, H6, S6, q6⟩ := hsp
            exact ⟨_, _, S6.unsuite ok, q6⟩
      | @named x n c i ts b₀ suite np pos' hl2 l2 hc hi hln hsu r ih =>
        intro wi
        obtain ⟨b, hb1, hyes, hno⟩ := wi
        refine wpAny_handleBy_cons (codeAny_handlers_test ?_) (by intro z; cases z)
        have em := PySem.W.exm_one (M := model X.prog X.w) (J3.kIn) tyL hb1
        refine asked hc (em.here ?_)
        cases b with
        | false =>
          show wpAny _ X.A (handleBy (.ref a) X.env hl2) _ _ _
          exact ih (hno rfl)
        | true =>
          refine codeAny_handlers_suite_as ?_
          refine HandSPX.lands_againZ fl3 fun h4 fl4 up4 => ?_
          have J4 : Inv X pins σ' H' { s' with heap := h4 } := J.landed nb fl4.1 ((up.trans up3).trans up4) os ag
          obtain ⟨oe4, vs4, he4, hz4, hd4⟩ := fl4.there
          have S4 := J4.suite he4 hd4 na nL nF
          refine store_ok (X := X.suite a ((a, oe4) :: (X.pn ++ pins))) (v := .ref a) S4 hN hi (.inl hln) rfl (fun s5 S5 => ?_) (.inr hln)
          refine wpAny_mono ((hsu a oe4 cls d (X.pn ++ pins) hz4 ⟨_, hd4⟩).run [] s5 _ H' _ S5 (hyes rfl a na (by rw [J.len]; exact (List.getElem?_eq_some_iff.mp hi).1))) (fun f s6 hsp => ?_) (fun _ _ z => False.elim z)
          have shut : ∀ {σ6 : L2.St} {H6 : Hp} {Q : Shared → Prop}, Inv (X.suite a ((a, oe4) :: (X.pn ++ pins))) [] σ6 H6 s6 → (∀ s7, Inv X pins (σ6.set i none) H6 s7 → Q s7) →
              wpAny (model X.prog X.w) X.A (do bindName X.env n .none; unbindBehindTheSuite X.env n pos') (fun _ s7 => Q s7) X.xe s6 := fun S6 hq => gone_ok (S6.unsuite ok) hN hi hln hq
          cases f with
          | ret u =>
            obtain ⟨v6, σ6, H6, S6, r6, q6⟩ := hsp
            exact shut S6 fun s7 J7 => ⟨_, _, _, J7, r6, q6⟩
          | next =>
            obtain ⟨σ6, H6, S6, q6⟩ := hsp
            exact shut S6 fun s7 J7 => ⟨_, _, J7, q6⟩
          | brk =>
            obtain ⟨σ6, H6, S6, q6⟩ := hsp
            exact shut S6 fun s7 J7 => ⟨_, _, J7, q6⟩
          | cont =>
            obtain ⟨σ6, H6, S6, q6⟩ := hsp
            exact shut S6 fun s7 J7 => ⟨_, _, J7, q6⟩
    exact go hh wish
  refine wpAny_mono ((hb _ _ _ tk0 PassesOwn.looking).run [] s σ H D (I.toTry _) h) (fun f s1 hsp => ?_) (fun e s1 he => he)
  cases f with
  | ret u =>
    obtain ⟨v, σ', H', J', r, q⟩ := hsp
    exact ⟨v, σ', H', J'.ofTry ok, r, q⟩
  | next =>
    obtain ⟨σ', H', J', q⟩ := hsp
    exact wpAny_execs_nil ⟨σ', H', J'.ofTry ok, q⟩
  | brk =>
    obtain ⟨σ', H', J', q⟩ := hsp
    exact ⟨σ', H', J'.ofTry ok, q⟩
  | cont =>
    obtain ⟨σ', H', J', q⟩ := hsp
    exact ⟨σ', H', J'.ofTry ok, q⟩
end
end KX

set_option maxRecDepth 100000
set_option maxHeartbeats 4000000
namespace K00
open PySem PySem.Spec PyProof.Rows L2 PySem.KX KX
abbrev sRaised : Stmt := topS 31
theorem scRaised : FnScope ["_law_call", "e"] ["_law_call"] (defScope sRaised) :=
  ⟨rfl, rfl, rfl, by decide +kernel, rfl, by decide +kernel, by decide +kernel⟩
def wrd (i : Nat) : Str := (["parse", "number", "name", "undo", "many", "refused"] : List Str).getD i ""
/-- what _law_raised tells of the i-th error -/
def told (i : Nat) (v : V) : List V := if i < 6 then [.str (wrd i), v] else [.str "claim"]
structure Cau (K : PySem.W.Frag) (mg : Str → Option Value) (cs : Nat → Addr) : Prop where
  ex : ∀ k j : Nat, k < 16 → j < 16 → PySem.W.exmOne K (.ref (cs k)) (.ref (cs j)) = some ((dueB k).getD j false)
  xf : ∀ j : Nat, j < 6 → XfC K (cs j)
  no : ∀ j : Nat, j < 6 → PySem.W.findIn K (.ref (cs j)) (fld j) = some none
  m0 : mg "ParseError" = some (.ref (cs 0))
  m1 : mg "InvalidNumber" = some (.ref (cs 1))
  m2 : mg "UnknownName" = some (.ref (cs 2))
  m3 : mg "NothingToUndo" = some (.ref (cs 3))
  m4 : mg "TooMany" = some (.ref (cs 4))
  m5 : mg "Refused" = some (.ref (cs 5))
  m15 : mg "ClaimError" = some (.ref (cs 15))
def TTr (cs : Nat → Addr) : (XK → Hp → VK → Prop) → Hp → VK → Prop := fun tl H Q =>
  tl (fun cls d H' => ∃ (i : Nat) (v : V), i < 16 ∧ cls = .ref (cs i) ∧ (i < 6 → ∃ dd, d = some dd ∧ H' dd = some (.xd [(fld i, v)])) ∧ ∀ p, H' p = none → Q (.ref p) (upd H' p (.lst (told i v)))) H (fun _ H' => Q .non H')
theorem suite_in {σ' : L2.St} {H' : Hp} {a dd C : Addr} {d : Option Addr} {v : V} {w f : Str} {Q : VK} (e1 : d = some dd) (e2 : H' dd = some (.xd [(f, v)])) (hl : 1 < σ'.length) (q : ∀ p, H' p = none → Q (.ref p) (upd H' p (.lst [.str w, v])))
    {D : Ends} (hD : D.rt = Q) : tRet (tLst (tCons (tC (.str w)) (tCons (tXf a (.ref C) d C f (tVar 1)) tNil))) (offS 1 D) (σ'.set 1 (some (.ref a))) H' := by
  subst hD
  refine ⟨.ref a, ?_, rfl, rfl, dd, [(f, v)], v, e1, e2, ?_, (by show 2 ≤ sizeLine; decide), q⟩
  · rw [List.getElem?_set_self hl]
  · simp [List.lookup]
section
variable {X : Cx}
theorem raised_gives {g : Addr} {cdg : Value} {cs : Nat → Addr} {q : Str} (C : Cau X.K X.mg cs) :
    LamX.GivesTo X ["_law_call", "e"] "_law_raised" (defScope sRaised) g cdg (defBody sRaised) "_law_call" q (TTr cs) := by
  intro f c' s H Q tl act hc h
  refine ⟨_, pss_one (ps_try_mix (X := (cxOf C8.CX0 X.prog X.w X.K X.mg X.base ["_law_call", "e"] "_law_raised" (defScope sRaised) g cdg X.A X.stack s H C8.E0).nox)
      (tb := fun W D σ H => ∃ Ech : XK, (∀ cls d σ' H', Ech cls d H' → W cls d σ' H') ∧ σ[0]? = some (some (.ref f)) ∧ H c' = some (LamX.CodeO c' q) ∧ tl Ech H (fun _ H' => D.nx σ H'))
      rfl rfl scRaised.nd (fun W pn xe tk _ => ?_)
      (.named (i := 1) ⟨rfl, rfl, .inl C.m0⟩ rfl rfl (fun a oe cls d pn hz hf => pss_one (ps_ret (pe_lst (pa_cons pe_str (pa_cons (pe_xf (C.xf 0 (by decide)) (C.no 0 (by decide)) hz hf (pv 1)) pa_nil)))))
      (.bare ⟨rfl, rfl, .inl C.m15⟩ (fun a oe cls d pn hz hf => pss_one (ps_ret (pe_lst (pa_cons pe_str pa_nil))))
      (.named (i := 1) ⟨rfl, rfl, .inl C.m1⟩ rfl rfl (fun a oe cls d pn hz hf => pss_one (ps_ret (pe_lst (pa_cons pe_str (pa_cons (pe_xf (C.xf 1 (by decide)) (C.no 1 (by decide)) hz hf (pv 1)) pa_nil)))))
      (.named (i := 1) ⟨rfl, rfl, .inl C.m2⟩ rfl rfl (fun a oe cls d pn hz hf => pss_one (ps_ret (pe_lst (pa_cons pe_str (pa_cons (pe_xf (C.xf 2 (by decide)) (C.no 2 (by decide)) hz hf (pv 1)) pa_nil)))))
      (.named (i := 1) ⟨rfl, rfl, .inl C.m3⟩ rfl rfl (fun a oe cls d pn hz hf => pss_one (ps_ret (pe_lst (pa_cons pe_str (pa_cons (pe_xf (C.xf 3 (by decide)) (C.no 3 (by decide)) hz hf (pv 1)) pa_nil)))))
      (.named (i := 1) ⟨rfl, rfl, .inl C.m4⟩ rfl rfl (fun a oe cls d pn hz hf => pss_one (ps_ret (pe_lst (pa_cons pe_str (pa_cons (pe_xf (C.xf 4 (by decide)) (C.no 4 (by decide)) hz hf (pv 1)) pa_nil)))))
      (.named (i := 1) ⟨rfl, rfl, .inl C.m5⟩ rfl rfl (fun a oe cls d pn hz hf => pss_one (ps_ret (pe_lst (pa_cons pe_str (pa_cons (pe_xf (C.xf 5 (by decide)) (C.no 5 (by decide)) hz hf (pv 1)) pa_nil)))))
      .nil)))))))), ?_⟩
  · refine ⟨fun pins s' σ H' D I h' => ?_⟩
    obtain ⟨Ech, hW, h1, h2, h3⟩ := h'
    have hp := act W pn xe Ech ⟨134, 8, 134, 17⟩ ⟨134, 8, 134, 19⟩ tk hW
    have hq := pss_one (ps_expr (pos := ⟨134, 8, 134, 19⟩) hp)
    exact hq.run pins s' σ H' D I ⟨h1, h2, h3⟩
  · refine ⟨_, fun cls d σ' H' hE => ?_, rfl, hc, h⟩
    obtain ⟨i, v, hi, rfl, hx, q⟩ := hE
    match i, hi with
    | 0, _ =>
      refine ⟨_, C.ex 0 0 (by decide) (by decide), fun _ => ?_, fun z => absurd z (by decide +kernel)⟩
      intro a na hl
      obtain ⟨dd, e1, e2⟩ := hx (by decide)
      exact suite_in e1 e2 hl q rfl
    | 1, _ =>
      refine ⟨_, C.ex 1 0 (by decide) (by decide), fun z => absurd z (by decide +kernel), fun _ => ?_⟩
      refine ⟨_, C.ex 1 15 (by decide) (by decide), fun z => absurd z (by decide +kernel), fun _ => ?_⟩
      refine ⟨_, C.ex 1 1 (by decide) (by decide), fun _ => ?_, fun z => absurd z (by decide +kernel)⟩
      intro a na hl
      obtain ⟨dd, e1, e2⟩ := hx (by decide)
      exact suite_in e1 e2 hl q rfl
    | 2, _ =>
      refine ⟨_, C.ex 2 0 (by decide) (by decide), fun z => absurd z (by decide +kernel), fun _ => ?_⟩
      refine ⟨_, C.ex 2 15 (by decide) (by decide), fun z => absurd z (by decide +kernel), fun _ => ?_⟩
      refine ⟨_, C.ex 2 1 (by decide) (by decide), fun z => absurd z (by decide +kernel), fun _ => ?_⟩
      refine ⟨_, C.ex 2 2 (by decide) (by decide), fun _ => ?_, fun z => absurd z (by decide +kernel)⟩
      intro a na hl
      obtain ⟨dd, e1, e2⟩ := hx (by decide)
      exact suite_in e1 e2 hl q rfl
    | 3, _ =>
      refine ⟨_, C.ex 3 0 (by decide) (by decide), fun z => absurd z (by decide +kernel), fun _ => ?_⟩
      refine ⟨_, C.ex 3 15 (by decide) (by decide), fun z => absurd z (by decide +kernel), fun _ => ?_⟩
      refine ⟨_, C.ex 3 1 (by decide) (by decide), fun z => absurd z (by decide +kernel), fun _ => ?_⟩
      refine ⟨_, C.ex 3 2 (by decide) (by decide), fun z => absurd z (by decide +kernel), fun _ => ?_⟩
      refine ⟨_, C.ex 3 3 (by decide) (by decide), fun _ => ?_, fun z => absurd z (by decide +kernel)⟩
      intro a na hl
      obtain ⟨dd, e1, e2⟩ := hx (by decide)
      exact suite_in e1 e2 hl q rfl
    | 4, _ =>
      refine ⟨_, C.ex 4 0 (by decide) (by decide), fun z => absurd z (by decide +kernel), fun _ => ?_⟩
      refine ⟨_, C.ex 4 15 (by decide) (by decide), fun z => absurd z (by decide +kernel), fun _ => ?_⟩
      refine ⟨_, C.ex 4 1 (by decide) (by decide), fun z => absurd z (by decide +kernel), fun _ => ?_⟩
      refine ⟨_, C.ex 4 2 (by decide) (by decide), fun z => absurd z (by decide +kernel), fun _ => ?_⟩
      refine ⟨_, C.ex 4 3 (by decide) (by decide), fun z => absurd z (by decide +kernel), fun _ => ?_⟩
      refine ⟨_, C.ex 4 4 (by decide) (by decide), fun _ => ?_, fun z => absurd z (by decide +kernel)⟩
      intro a na hl
      obtain ⟨dd, e1, e2⟩ := hx (by decide)
      exact suite_in e1 e2 hl q rfl
    | 5, _ =>
      refine ⟨_, C.ex 5 0 (by decide) (by decide), fun z => absurd z (by decide +kernel), fun _ => ?_⟩
      refine ⟨_, C.ex 5 15 (by decide) (by decide), fun z => absurd z (by decide +kernel), fun _ => ?_⟩
      refine ⟨_, C.ex 5 1 (by decide) (by decide), fun z => absurd z (by decide +kernel), fun _ => ?_⟩
      refine ⟨_, C.ex 5 2 (by decide) (by decide), fun z => absurd z (by decide +kernel), fun _ => ?_⟩
      refine ⟨_, C.ex 5 3 (by decide) (by decide), fun z => absurd z (by decide +kernel), fun _ => ?_⟩
      refine ⟨_, C.ex 5 4 (by decide) (by decide), fun z => absurd z (by decide +kernel), fun _ => ?_⟩
      refine ⟨_, C.ex 5 5 (by decide) (by decide), fun _ => ?_, fun z => absurd z (by decide +kernel)⟩
      intro a na hl
      obtain ⟨dd, e1, e2⟩ := hx (by decide)
      exact suite_in e1 e2 hl q rfl
    | 6, _ =>
      refine ⟨_, C.ex 6 0 (by decide) (by decide), fun z => absurd z (by decide +kernel), fun _ => ?_⟩
      refine ⟨_, C.ex 6 15 (by decide) (by decide), fun _ => ?_, fun z => absurd z (by decide +kernel)⟩
      exact fun a na => ⟨by show 1 ≤ sizeLine; decide, q⟩
    | 7, _ =>
      refine ⟨_, C.ex 7 0 (by decide) (by decide), fun z => absurd z (by decide +kernel), fun _ => ?_⟩
      refine ⟨_, C.ex 7 15 (by decide) (by decide), fun _ => ?_, fun z => absurd z (by decide +kernel)⟩
      exact fun a na => ⟨by show 1 ≤ sizeLine; decide, q⟩
    | 8, _ =>
      refine ⟨_, C.ex 8 0 (by decide) (by decide), fun z => absurd z (by decide +kernel), fun _ => ?_⟩
      refine ⟨_, C.ex 8 15 (by decide) (by decide), fun _ => ?_, fun z => absurd z (by decide +kernel)⟩
      exact fun a na => ⟨by show 1 ≤ sizeLine; decide, q⟩
    | 9, _ =>
      refine ⟨_, C.ex 9 0 (by decide) (by decide), fun z => absurd z (by decide +kernel), fun _ => ?_⟩
      refine ⟨_, C.ex 9 15 (by decide) (by decide), fun _ => ?_, fun z => absurd z (by decide +kernel)⟩
      exact fun a na => ⟨by show 1 ≤ sizeLine; decide, q⟩
    | 10, _ =>
      refine ⟨_, C.ex 10 0 (by decide) (by decide), fun z => absurd z (by decide +kernel), fun _ => ?_⟩
      refine ⟨_, C.ex 10 15 (by decide) (by decide), fun _ => ?_, fun z => absurd z (by decide +kernel)⟩
      exact fun a na => ⟨by show 1 ≤ sizeLine; decide, q⟩
    | 11, _ =>
      refine ⟨_, C.ex 11 0 (by decide) (by decide), fun z => absurd z (by decide +kernel), fun _ => ?_⟩
      refine ⟨_, C.ex 11 15 (by decide) (by decide), fun _ => ?_, fun z => absurd z (by decide +kernel)⟩
      exact fun a na => ⟨by show 1 ≤ sizeLine; decide, q⟩
    | 12, _ =>
      refine ⟨_, C.ex 12 0 (by decide) (by decide), fun z => absurd z (by decide +kernel), fun _ => ?_⟩
      refine ⟨_, C.ex 12 15 (by decide) (by decide), fun _ => ?_, fun z => absurd z (by decide +kernel)⟩
      exact fun a na => ⟨by show 1 ≤ sizeLine; decide, q⟩
    | 13, _ =>
      refine ⟨_, C.ex 13 0 (by decide) (by decide), fun z => absurd z (by decide +kernel), fun _ => ?_⟩
      refine ⟨_, C.ex 13 15 (by decide) (by decide), fun _ => ?_, fun z => absurd z (by decide +kernel)⟩
      exact fun a na => ⟨by show 1 ≤ sizeLine; decide, q⟩
    | 14, _ =>
      refine ⟨_, C.ex 14 0 (by decide) (by decide), fun z => absurd z (by decide +kernel), fun _ => ?_⟩
      refine ⟨_, C.ex 14 15 (by decide) (by decide), fun _ => ?_, fun z => absurd z (by decide +kernel)⟩
      exact fun a na => ⟨by show 1 ≤ sizeLine; decide, q⟩
    | 15, _ =>
      refine ⟨_, C.ex 15 0 (by decide) (by decide), fun z => absurd z (by decide +kernel), fun _ => ?_⟩
      refine ⟨_, C.ex 15 15 (by decide) (by decide), fun _ => ?_, fun z => absurd z (by decide +kernel)⟩
      exact fun a na => ⟨by show 1 ≤ sizeLine; decide, q⟩
    | n + 16, hi => exact absurd hi (by omega)
end
end K00

set_option maxRecDepth 100000
set_option maxHeartbeats 4000000
/-! repr of lists of what is known, an empty dict among it -/
namespace KX
open PySem PySem.Spec PyProof.Rows L2
mutual
/-- v is read as d -/
inductive Shw (H : Hp) : V → PyData → Prop
  | non : Shw H .non .none
  | bl (b : Bool) : Shw H (.bl b) (.bool b)
  | int (i : Int) : Shw H (.int i) (.int i)
  | str (x : Str) : Shw H (.str x) (.str x)
  | lst {a : Addr} {xs : List V} {ds : List PyData} : H a = some (.lst xs) → ShwAll H xs ds → Shw H (.ref a) (.list ds)
  | tup {a : Addr} {xs : List V} {ds : List PyData} : H a = some (.tup xs) → ShwAll H xs ds → Shw H (.ref a) (.tuple ds)
  | dct {a : Addr} : H a = some (.dK []) → Shw H (.ref a) (.dict [])
inductive ShwAll (H : Hp) : List V → List PyData → Prop
  | nil : ShwAll H [] []
  | cons {v : V} {vs : List V} {d : PyData} {ds : List PyData} : Shw H v d → ShwAll H vs ds → ShwAll H (v :: vs) (d :: ds)
end
section
variable {H H' : Hp}
mutual
theorem Shw.grow (g : ∀ b o, H b = some o → (∀ ps, o ≠ .tbl ps) → H' b = some o) : ∀ {v : V} {d : PyData}, Shw H v d → Shw H' v d
  | _, _, .non => .non
  | _, _, .bl b => .bl b
  | _, _, .int i => .int i
  | _, _, .str x => .str x
  | _, _, .lst h r => .lst (g _ _ h fun _ z => nomatch z) (ShwAll.grow g r)
  | _, _, .tup h r => .tup (g _ _ h fun _ z => nomatch z) (ShwAll.grow g r)
  | _, _, .dct h => .dct (g _ _ h fun _ z => nomatch z)
theorem ShwAll.grow (g : ∀ b o, H b = some o → (∀ ps, o ≠ .tbl ps) → H' b = some o) : ∀ {vs : List V} {ds : List PyData}, ShwAll H vs ds → ShwAll H' vs ds
  | _, _, .nil => .nil
  | _, _, .cons a r => .cons (Shw.grow g a) (ShwAll.grow g r)
end
theorem ShwAll.app : ∀ {xs ys : List V} {ds es : List PyData}, ShwAll H xs ds → ShwAll H ys es → ShwAll H (xs ++ ys) (ds ++ es)
  | _, _, _, _, .nil, h => h
  | _, _, _, _, .cons a r, h => .cons a (ShwAll.app r h)
theorem ShwAll.at : ∀ {xs : List V} {ds : List PyData}, xs.length = ds.length → (∀ (i : Nat) (x : V) (d : PyData), xs[i]? = some x → ds[i]? = some d → Shw H x d) → ShwAll H xs ds
  | [], [], _, _ => .nil
  | x :: xs, d :: ds, hl, h => .cons (h 0 x d rfl rfl) (ShwAll.at (by simpa using hl) fun i y e h1 h2 => h (i + 1) y e (by simpa using h1) (by simpa using h2))
  | [], _ :: _, hl, _ => by simp at hl
  | _ :: _, [], hl, _ => by simp at hl
end
section
variable {P : Program} {w : World} {H : Hp} {h : Heap}
theorem lst_get (ok : HOk P w H h) {a : Addr} {xs : List V} (e : H a = some (.lst xs)) : xs.length ≤ sizeLine ∧ ∃ (its : List Value) (n : Nat), Vals xs its ∧ h.get? a = some { cls := .type "list", data := .seq its.toArray n } := ok a _ e
theorem tup_get (ok : HOk P w H h) {a : Addr} {xs : List V} (e : H a = some (.tup xs)) : xs.length ≤ sizeLine ∧ ∃ its : List Value, Vals xs its ∧ IsTup h a its.toArray := ok a _ e
theorem dct_get (ok : HOk P w H h) {a : Addr} (e : H a = some (.dK [])) : (a == sysModules) = false ∧ ∃ (o : Obj) (n : Nat), h.get? a = some o ∧ o.cls = .type "dict" ∧ o.data = .dict #[] n := by
  obtain ⟨_, hs, vs, r, o, es, ep, h1, h2, h3, h4⟩ := (ok a _ e : ObjOk P w H h a (.dK []))
  refine ⟨hs, o, ep, h1, h2.1, ?_⟩
  cases r
  have e0 : es.toList = [] := by
    have q := h4.2.1
    generalize es.toList = l at q
    cases q
    rfl
  rw [h3, show es = #[] from Array.toList_eq_nil_iff.mp e0]
mutual
theorem shw_reads (ok : HOk P w H h) : ∀ (d : PyData) (v : V) (u : Value), Shw H v d → RelV v u → ∃ as, Reads h u d as
  | .none, _, _, x, r => by
    cases x
    cases r
    exact ⟨[], .none⟩
  | .bool b, _, _, x, r => by
    cases x
    cases r
    exact ⟨[], .bool b⟩
  | .int i, _, _, x, r => by
    cases x
    obtain ⟨t, e⟩ := r
    subst e
    exact ⟨[], .int i t⟩
  | .str y, _, _, x, r => by
    cases x
    obtain ⟨t, e⟩ := r
    subst e
    exact ⟨[], .str y t⟩
  | .list ds, _, _, x, r => by
    cases x with
    | lst e ha =>
      cases r
      obtain ⟨_, its, n, rv, g⟩ := lst_get ok e
      obtain ⟨as, q⟩ := shw_readsAll ok ds _ its ha rv
      exact ⟨_, .list g rfl rfl q⟩
  | .tuple ds, _, _, x, r => by
    cases x with
    | tup e ha =>
      cases r
      obtain ⟨_, its, rv, ⟨o, g, gc, n, gd⟩⟩ := tup_get ok e
      obtain ⟨as, q⟩ := shw_readsAll ok ds _ its ha rv
      exact ⟨_, .tuple g gc gd q⟩
  | .dict kvs, _, _, x, r => by
    cases x with
    | dct e =>
      cases r
      obtain ⟨_, o, n, g, gc, gd⟩ := dct_get ok e
      exact ⟨_, .dict g gc gd (kvs := []) .nil .nil⟩
theorem shw_readsAll (ok : HOk P w H h) : ∀ (ds : List PyData) (vs : List V) (us : List Value), ShwAll H vs ds → Vals vs us → ∃ as, ReadsAll h us ds as
  | [], _, _, x, r => by
    cases x
    cases r
    exact ⟨[], .nil⟩
  | d :: ds, _, _, x, r => by
    cases x with
    | cons x1 x2 =>
      cases r with
      | cons r1 r2 =>
        obtain ⟨as, q1⟩ := shw_reads ok d _ _ x1 r1
        obtain ⟨bs, q2⟩ := shw_readsAll ok ds _ _ x2 r2
        exact ⟨_, .cons q1 q2⟩
end
theorem none_mem {n : Nat} : ReadAtMost h n [] := fun _ z => nomatch z
mutual
theorem shw_repr (ok : HOk P w H h) : ∀ (d : PyData) (v : V) (u : Value), Shw H v d → RelV v u → d.showable = true → d.shown.length ≤ sizeLine → ∃ bs, ReadAtMost h d.depth bs ∧ ReprK P w bs h d.depth u d.shown
  | .none, _, _, x, r, hs, hz => by
    cases x
    cases r
    refine ⟨[], none_mem, ?_⟩
    simp only [PyData.shown]
    exact .of_is ReprIs.none _ _ _
  | .bool b, _, _, x, r, hs, hz => by
    cases x
    cases r
    refine ⟨[], none_mem, ?_⟩
    simp only [PyData.shown]
    exact .of_is (ReprIs.bool b) _ _ _
  | .int i, _, _, x, r, hs, hz => by
    cases x
    obtain ⟨t, e⟩ := r
    subst e
    refine ⟨[], none_mem, ?_⟩
    simp only [PyData.shown]
    exact .of_is (ReprIs.int t (by simpa [PyData.showable] using hs)) _ _ _
  | .str y, _, _, x, r, hs, hz => by
    cases x
    obtain ⟨t, e⟩ := r
    subst e
    refine ⟨[], none_mem, ?_⟩
    simp only [PyData.shown] at hz ⊢
    exact .of_is (ReprIs.str y t hz) _ _ _
  | .list ds, v, u, x, r, hs, hz => by
    obtain ⟨as0, rd⟩ := shw_reads ok _ v u x r
    cases x with
    | lst e ha =>
      cases r
      obtain ⟨_, its, n, rv, g⟩ := lst_get ok e
      have hz1 : (listText (PyData.shownAll ds)).length ≤ sizeLine := by simpa only [PyData.shown] using hz
      obtain ⟨bs, hb, hk⟩ := shw_reprAll ok ds _ its ha rv (by simpa only [PyData.showable] using hs) fun t ht => Nat.le_trans (listText_mem_le ht) hz1
      have hna := not_mem_of_deeper rd (by simp only [PyData.depth]; omega) hb
      refine ⟨_, ReadAtMost.cons rd (by simp only [PyData.depth]; omega) hb, ?_⟩
      simp only [PyData.depth, PyData.shown]
      cases its with
      | nil =>
        cases rv
        cases ha
        simp only [PyData.shownAll, listText_nil]
        exact ReprK.listEmpty g rfl rfl
      | cons y l => exact ReprK.list g rfl rfl hna (by simpa using hk.length_eq) fun i z q => hk.item i z (by simpa using q)
  | .tuple ds, v, u, x, r, hs, hz => by
    obtain ⟨as0, rd⟩ := shw_reads ok _ v u x r
    cases x with
    | tup e ha =>
      cases r
      obtain ⟨_, its, rv, ⟨o, g, gc, n, gd⟩⟩ := tup_get ok e
      have hz1 : (tupleText (PyData.shownAll ds)).length ≤ sizeLine := by simpa only [PyData.shown] using hz
      obtain ⟨bs, hb, hk⟩ := shw_reprAll ok ds _ its ha rv (by simpa only [PyData.showable] using hs) fun t ht => Nat.le_trans (tupleText_mem_le ht) hz1
      have hna := not_mem_of_deeper rd (by simp only [PyData.depth]; omega) hb
      refine ⟨_, ReadAtMost.cons rd (by simp only [PyData.depth]; omega) hb, ?_⟩
      simp only [PyData.depth, PyData.shown]
      exact ReprK.tuple g gc gd hna hk
  | .dict kvs, v, u, x, r, hs, hz => by
    obtain ⟨as0, rd⟩ := shw_reads ok _ v u x r
    cases x with
    | dct e =>
      cases r
      obtain ⟨sy, o, n, g, gc, gd⟩ := dct_get ok e
      refine ⟨_, ReadAtMost.cons rd (n := 0) (Nat.zero_le _) none_mem, ?_⟩
      simp only [PyData.depth, PyData.shown]
      exact ReprK.dict g gc gd sy (fun z => nomatch z) .nil
theorem shw_reprAll (ok : HOk P w H h) : ∀ (ds : List PyData) (vs : List V) (us : List Value), ShwAll H vs ds → Vals vs us → PyData.showableAll ds = true → (∀ t ∈ PyData.shownAll ds, t.length ≤ sizeLine) → ∃ bs, ReadAtMost h (PyData.depthAll ds) bs ∧ ReprAllK P w bs h (PyData.depthAll ds) us (PyData.shownAll ds)
  | [], _, _, x, r, hs, hz => by
    cases x
    cases r
    refine ⟨[], none_mem, ?_⟩
    simp only [PyData.shownAll]
    exact .nil
  | d :: ds, _, _, x, r, hs, hz => by
    cases x with
    | cons x1 x2 =>
      cases r with
      | cons r1 r2 =>
        simp only [PyData.showableAll, Bool.and_eq_true] at hs
        simp only [PyData.shownAll, List.mem_cons, forall_eq_or_imp] at hz
        obtain ⟨b1, h1, k1⟩ := shw_repr ok d _ _ x1 r1 hs.1 hz.1
        obtain ⟨b2, h2, k2⟩ := shw_reprAll ok ds _ _ x2 r2 hs.2 hz.2
        simp only [PyData.depthAll, PyData.shownAll]
        refine ⟨b1 ++ b2, (h1.mono (Nat.le_max_left _ _)).append (h2.mono (Nat.le_max_right _ _)), .cons ((k1.more fun b q => List.mem_append_left _ q).level_le (Nat.le_max_left _ _)) (k2.more_le (fun b q => List.mem_append_right _ q) (Nat.le_max_right _ _))⟩
end
end
/-- repr(xs), xs a list that is not empty -/
def rReprL : List V → Hp → VK → Prop := fun vs H Q => ∃ (a : Addr) (x : V) (xs : List V) (ds : List PyData), vs = [.ref a] ∧ H a = some (.lst (x :: xs)) ∧ ShwAll H (x :: xs) ds ∧ (PyData.list ds).showable = true ∧ (PyData.list ds).depth ≤ 60 ∧ (PyData.list ds).shown.length ≤ 1000000 ∧ Q (.str (PyData.list ds).shown) H
theorem call_reprL {X : Cx} (hg : X.A.guards = some []) (hu : X.A.units + 64 < cLine) : CallR X (.builtin "repr") rReprL := by
  intro pins s σ H vs us Q I r h
  obtain ⟨a, x, xs, ds, rfl, e, ha, hs, hd, hz, q⟩ := h
  obtain ⟨u, rfl, rr⟩ := vals1 r
  obtain rfl : u = Value.ref a := rr
  have hz1 : (listText (PyData.shownAll ds)).length ≤ sizeLine := by
    simp only [PyData.shown] at hz
    rw [sizeLine_eq]
    omega
  obtain ⟨as0, rd⟩ := shw_reads I.hok (.list ds) (.ref a) (.ref a) (.lst e ha) rfl
  obtain ⟨_, its, n, rv, g⟩ := lst_get I.hok e
  obtain ⟨bs, hb, hk⟩ := shw_reprAll I.hok ds _ its ha rv (by simpa only [PyData.showable] using hs) fun t ht => Nat.le_trans (listText_mem_le ht) hz1
  have hna := not_mem_of_deeper rd (by simp only [PyData.depth]; omega) hb
  simp only [PyData.depth] at hd
  simp only [PyData.shown] at q
  cases its with
  | nil => cases rv
  | cons y l =>
    refine call_repr_slot (by omega) ⟨_, g, rfl⟩ F.slot_list_repr.toG ?_
    refine call_list_reprK g rfl rfl hna (by simpa using hk.length_eq) (fun i z w' => hk.item i z (by simpa using w')) hg (fun b _ => Clear.nil b) (by show X.A.units + 1 + _ < _; omega) (fun _ _ z => z) (fun h' t tk kp => ?_) hz1
    exact ⟨_, _, rfl, .str _, H, I.kept kp, ⟨t, rfl⟩, q⟩
end KX

set_option autoImplicit false
set_option maxRecDepth 100000
set_option maxHeartbeats 4000000
namespace K00
open PySem PySem.Spec PyProof.Rows L2 PySem.KX KX
abbrev sRight : Stmt := topS 32
abbrev NR : List Str := ["_law_creel_here", "_law_made_here", "_law_told", "_law_word", "_law_due_here", "_law_odd", "_law_value", "_law_error", "_law_at", "_law_turn"]
theorem scRight : FnScope NR ["_law_creel_here"] (defScope sRight) :=
  ⟨rfl, rfl, rfl, by decide +kernel, rfl, by decide +kernel, by decide +kernel⟩
abbrev stR (i : Nat) : Stmt := (defBody sRight).getD i (.Pass ⟨0, 0, 0, 0⟩)
/-- a def of the module, with its promise -/
structure Fnc (P : Program) (w : World) (K : PySem.W.Frag) (mg : Str → Option Value) (base : Heap) (CX : CXT) (k : Nat) (x : Str) (ps : List Str) (sp : Sp) : Prop where
  ex : ∃ (f : Addr) (fd : FuncData), FnOk P w K mg base CX k f fd ps sp ∧ Binds K fd ps [] ∧ mg x = some (.ref f) ∧ PySem.W.keepIn K (.ref f) = true
section
variable {X : Cx} {CX : CXT} {k j : Nat} {x : Str} {ps : List Str} {sp : Sp} {E : XK} {p pos : Pos} {e : Expr} {es : List Expr} {t : TA}
theorem pe_fnc (F : Fnc X.prog X.w X.K X.mg X.base CX k x ps sp) (hr : Room j X.A) (hk : k ≤ j) (hg : Gl X x) (hx : Passes CX X E) (ha : PA X (e :: es) t) (hdb : (x == ("__debug__" : Str)) = false := by decide)
    (he : starEach (e :: es) X.env = (false, eval e X.env) :: starEach es X.env := by rfl) (hpl : (backTo pos (starEach es X.env)).any (·.1) = false := by rfl) : PE X (.Call (.Name x p) (e :: es) [] pos) (tCall sp [] E t) := by
  obtain ⟨f, fd, G, hb, hm, hkp⟩ := F.ex
  exact pe_call G (hr.mono hk) hg hm hkp hb .nil hx ha hdb he hpl
theorem ps_imp {st : Stmt} {t u : TS} (h : PS X st t) (i : ∀ D σ H, u D σ H → t D σ H) : PS X st u := ⟨fun pins s σ H D I q => h.run pins s σ H D I (i _ _ _ q)⟩
end
/-- what _law_right calls, and the names it takes from the module -/
structure RF (P : Program) (w : World) (K : PySem.W.Frag) (mg : Str → Option Value) (base : Heap) (cs : Nat → Addr) : Prop where
  one : Fnc P w K mg base CX0 2 "_law_one_of" ["_law_creel_here", "_law_items"] spOne
  fish : Fnc P w K mg base CX0 1 "_law_fish" ["_law_creel_here", "_law_total"] spFish
  made : Fnc P w K mg base CX0 3 "_law_made" ["_law_value"] (spMade cs)
  kinds : Fnc P w K mg base CX0 1 "_law_kinds" ["_law_error"] (spKinds cs)
  due : Fnc P w K mg base CX0 1 "_law_due" ["_law_at"] spDue
  keep : Fnc P w K mg base (L2.CX P w) 3 "_law_keeping" ["_law_at", "_law_value"] (spKeep cs)
  plain : Fnc P w K mg base (L2.CX P w) 1 "_law_plain" ["_law_at"] (spPlain cs)
  isn : Fnc P w K mg base CX0 1 "is_name" ["value"] (spName K)
  lin : Fnc P w K mg base CX0 1 "_law_is_name" ["_law_value"] (spName K)
  raised : ∃ (f : Addr) (fd : FuncData), Fun K "_law_raised" "_law_raised" sRaised f fd ∧ Binds K fd ["_law_call"] [] ∧ mg "_law_raised" = some (.ref f)
  cau : Cau K mg cs
  mRange : mg "range" = none
  mRepr : mg "repr" = none
/-- the values of which errors are made -/
def vals10 : List PyData := [.none, .int 0, .bool true, .str "name", .tuple [.str "a", .tuple [.int 1]], .list [.int 1, .int 2], .dict [], .int (-5), .int (10 ^ 59)]
def OkD (d : PyData) : Prop := d.showable = true ∧ d.depth ≤ 2 ∧ d.shown.length ≤ 200
theorem okD_vals : ∀ d ∈ vals10, OkD d := by
  have h : (vals10.all fun d => d.showable && decide (d.depth ≤ 2) && decide (d.shown.length ≤ 200)) = true := by decide +kernel
  intro d hd
  have h1 := List.all_eq_true.mp h d hd
  simp only [Bool.and_eq_true, decide_eq_true_eq] at h1
  exact ⟨h1.1.1, h1.1.2, h1.2⟩
theorem okD_int {i : Int} (h0 : 0 ≤ i) (h1 : i < 99) : OkD (.int i) := by
  have h : ((List.range 99).all fun n => (PyData.int (n : Int)).showable && decide ((PyData.int (n : Int)).depth ≤ 2) && decide ((PyData.int (n : Int)).shown.length ≤ 200)) = true := by decide +kernel
  have h2 := List.all_eq_true.mp h i.toNat (List.mem_range.mpr (by omega))
  have e : ((i.toNat : Nat) : Int) = i := Int.toNat_of_nonneg h0
  rw [e] at h2
  simp only [Bool.and_eq_true, decide_eq_true_eq] at h2
  exact ⟨h2.1.1, h2.1.2, h2.2⟩
abbrev creel (x y c : Int) : HO := .lst [.int x, .int y, .int c]
/-- all stays but the creel at a -/
def Grw (a : Addr) (H H' : Hp) : Prop := ∀ b o, b ≠ a → H b = some o → H' b = some o
theorem Grw.refl {a : Addr} {H : Hp} : Grw a H H := fun _ _ _ h => h
theorem Grw.trans {a : Addr} {H H1 H2 : Hp} (g : Grw a H H1) (k : Grw a H1 H2) : Grw a H H2 := fun b o n e => k b o n (g b o n e)
theorem Grw.same {a : Addr} {H H1 : Hp} (s : Same H H1) : Grw a H H1 := fun b o _ e => s b o e
theorem Grw.upd {a : Addr} {H : Hp} {o : HO} : Grw a H (upd H a o) := fun b u n e => by rw [upd_ne n]; exact e
section
variable {P : Program} {w : World} {K : PySem.W.Frag} {mg : Str → Option Value} {base : Heap} {cs : Nat → Addr} {f : Addr} {cdv : Value} {A : Around} {outer : List Env} {s0 : Shared} {H0 : Hp} {E : XK} {k : Nat}
abbrev RX (P : Program) (w : World) (K : PySem.W.Frag) (mg : Str → Option Value) (base : Heap) (f : Addr) (cdv : Value) (A : Around) (outer : List Env) (s0 : Shared) (H0 : Hp) (E : XK) : Cx := cxOf CX0 P w K mg base NR "_law_right" (defScope sRight) f cdv A outer s0 H0 E
abbrev St0 (a : Addr) (mh tl wd du od v : Option V) : L2.St := [some (.ref a), mh, tl, wd, du, od, v, none, none, none]
def u0 : TS := fun D σ H => ∃ a x y c, σ = St0 a none none none none none none ∧ H a = some (creel x y c) ∧ Cr x y c ∧ c ≤ 500 ∧
  ∀ (v : V) (d : PyData) (x' c' : Int) (H' : Hp), OkD d → Cr x' y c' → c' ≤ c + 2 → H' a = some (creel x' y c') → Grw a H H' → (∀ o, Shw (upd H' a o) v d) → D.nx (St0 a none none none none none (some v)) H'
theorem right0 (R : RF P w K mg base cs) (hr : Room k (A.deeper (envOfC "_law_right" (defScope sRight) s0.heap.objs.size f cdv))) (hk : 5 ≤ k) : PS (RX P w K mg base f cdv A outer s0 H0 E).nox (stR 0) u0 := by
  refine ps_imp (ps_set (i := 6) scRight.nd rfl (.inr rfl) (pe_fnc R.one hr (by omega) (by rfl) pass0 (pa_cons (pv 0) (pa_cons
    (pe_lst (pa_cons pe_non (pa_cons pe_int (pa_cons pe_bl (pa_cons pe_str (pa_cons (pe_tup (pa_cons pe_str (pa_cons (pe_tup (pa_cons pe_int pa_nil)) pa_nil))) (pa_cons (pe_lst (pa_cons pe_int (pa_cons pe_int pa_nil)))
      (pa_cons pe_dnewK (pa_cons (pe_un un_neg pe_int) (pa_cons (pe_op op_pow pe_int pe_int) (pa_cons (pe_fnc R.fish hr (by omega) (by rfl) pass0 (pa_cons (pv 0) (pa_cons pe_int pa_nil))) pa_nil))))))))))) pa_nil)))) ?_
  rintro D σ H ⟨a, x, y, c, rfl, ha, C, hc, q⟩
  refine ⟨.ref a, rfl, (by show 1 ≤ sizeLine; decide), fun p1 n1 => ⟨by show 2 ≤ sizeLine; decide, fun p2 n2 => ⟨by show 2 ≤ sizeLine; decide, fun p3 n3 => fun p4 n4 => ⟨5, rfl, 10, 59, rfl, rfl, (by constructor <;> decide), ?_⟩⟩⟩⟩
  have s1 : Same H (upd H p1 (.tup [V.int 1])) := same_upd n1
  have s2 := s1.trans (same_upd (o := .tup [V.str "a", V.ref p1]) n2)
  have s3 := s2.trans (same_upd (o := .lst [V.int 1, V.int 2]) n3)
  have s4 := s3.trans (same_upd (o := .dK []) n4)
  have e1 := ((same_upd (o := .tup [V.str "a", V.ref p1]) n2).trans ((same_upd (o := .lst [V.int 1, V.int 2]) n3).trans (same_upd (o := .dK []) n4))) _ _ (upd_same (H := H) (a := p1) (o := .tup [V.int 1]))
  have e2 := ((same_upd (o := .lst [V.int 1, V.int 2]) n3).trans (same_upd (o := .dK []) n4)) _ _ (upd_same (a := p2) (o := .tup [V.str "a", V.ref p1]))
  have e3 := (same_upd (o := .dK []) n4) _ _ (upd_same (a := p3) (o := .lst [V.int 1, V.int 2]))
  have k1 : p1 ≠ a := (ne_of_none ha n1).symm
  have k2 : p2 ≠ a := (ne_of_none (s1 _ _ ha) n2).symm
  have k3 : p3 ≠ a := (ne_of_none (s2 _ _ ha) n3).symm
  have k4 : p4 ≠ a := (ne_of_none (s3 _ _ ha) n4).symm
  have e4 := upd_same (H := upd (upd (upd H p1 (.tup [V.int 1])) p2 (.tup [V.str "a", V.ref p1])) p3 (.lst [V.int 1, V.int 2])) (a := p4) (o := .dK [])
  have h4 := s4 _ _ ha
  clear s1 s2 s3
  generalize upd (upd (upd (upd H p1 (.tup [V.int 1])) p2 (.tup [V.str "a", V.ref p1])) p3 (.lst [V.int 1, V.int 2])) p4 (.dK []) = H4 at s4 e1 e2 e3 e4 h4 ⊢
  refine ⟨.ref a, rfl, a, x, y, c, 99, rfl, h4, C, by omega, by decide, by decide, fun r x' c' hr0 hr1 C' hc' => ⟨by show 10 ≤ sizeLine; decide, fun p5 n5 => ?_⟩⟩
  have k5 : p5 ≠ a := (ne_of_none (upd_same (a := a)) n5).symm
  refine ⟨a, .ref p5, x', y, c', rfl, by rw [upd_ne k5.symm, upd_same], C', by omega, .inl ⟨p5, _, rfl, upd_same, k5, by show 0 < 10; decide, by show 10 ≤ 1000; decide, fun i v x2 c2 hv C2 hc2 => ?_⟩⟩
  have keep : ∀ p u, H4 p = some u → p ≠ a → ∀ o, upd (upd (upd (upd H4 a (creel x' y c')) p5 (.lst [V.non, V.int 0, V.bl true, V.str "name", V.ref p2, V.ref p3, V.ref p4, V.int (-5), V.int (10 ^ (59 : Int).toNat), V.int r])) a (creel x2 y c2)) a o p = some u := fun p u e n o => by
    have e' : upd H4 a (creel x' y c') p = some u := by rw [upd_ne n]; exact e
    rw [upd_upd, upd_ne n, upd_ne (ne_of_none e' n5)]
    exact e'
  have fin : ∀ d, OkD d → (∀ o, Shw (upd (upd (upd (upd H4 a (creel x' y c')) p5 (.lst [V.non, V.int 0, V.bl true, V.str "name", V.ref p2, V.ref p3, V.ref p4, V.int (-5), V.int (10 ^ (59 : Int).toNat), V.int r])) a (creel x2 y c2)) a o) v d) →
      D.nx (St0 a none none none none none (some v)) (upd (upd (upd H4 a (creel x' y c')) p5 (.lst [V.non, V.int 0, V.bl true, V.str "name", V.ref p2, V.ref p3, V.ref p4, V.int (-5), V.int (10 ^ (59 : Int).toNat), V.int r])) a (creel x2 y c2)) := fun d hd hs => by
    refine q v d x2 c2 _ hd C2 (by omega) upd_same (fun b o n e => ?_) hs
    rw [upd_ne n, upd_ne (ne_of_none (show upd H4 a (creel x' y c') b = some o by rw [upd_ne n]; exact s4 _ _ e) n5), upd_ne n]
    exact s4 _ _ e
  match i, hv with
  | 0, hv =>
    cases hv
    exact fin .none (okD_vals _ (by simp [vals10])) fun o => .non
  | 1, hv =>
    cases hv
    exact fin (.int 0) (okD_vals _ (by simp [vals10])) fun o => .int 0
  | 2, hv =>
    cases hv
    exact fin (.bool true) (okD_vals _ (by simp [vals10])) fun o => .bl true
  | 3, hv =>
    cases hv
    exact fin (.str "name") (okD_vals _ (by simp [vals10])) fun o => .str _
  | 4, hv =>
    cases hv
    exact fin (.tuple [.str "a", .tuple [.int 1]]) (okD_vals _ (by simp [vals10])) fun o => .tup (keep _ _ e2 k2 o) (.cons (.str _) (.cons (.tup (keep _ _ e1 k1 o) (.cons (.int 1) .nil)) .nil))
  | 5, hv =>
    cases hv
    exact fin (.list [.int 1, .int 2]) (okD_vals _ (by simp [vals10])) fun o => .lst (keep _ _ e3 k3 o) (.cons (.int 1) (.cons (.int 2) .nil))
  | 6, hv =>
    cases hv
    exact fin (.dict []) (okD_vals _ (by simp [vals10])) fun o => .dct (keep _ _ e4 k4 o)
  | 7, hv =>
    cases hv
    exact fin (.int (-5)) (okD_vals _ (by simp [vals10])) fun o => .int _
  | 8, hv =>
    cases hv
    exact fin (.int (10 ^ 59)) (okD_vals _ (by simp [vals10])) fun o => .int _
  | 9, hv =>
    cases hv
    exact fin (.int r) (okD_int hr0 hr1) fun o => .int _
  | n + 10, hv => simp at hv
end
end K00

set_option autoImplicit false
set_option maxRecDepth 100000
set_option maxHeartbeats 4000000
namespace K00
open PySem PySem.Spec PyProof.Rows L2 PySem.KX KX
section
variable {P : Program} {w : World} {K : PySem.W.Frag} {mg : Str → Option Value} {base : Heap} {cs : Nat → Addr} {f : Addr} {cdv : Value} {A : Around} {outer : List Env} {s0 : Shared} {H0 : Hp} {E : XK} {k : Nat}
def u1 (cs : Nat → Addr) : TS := fun D σ H => ∃ a v, σ = St0 a none none none none none (some v) ∧
  ∀ (ps : Nat → Addr) (L : Addr) (H' : Hp), Same H H' → H' L = some (.lst ((List.range 16).map fun i => V.ref (ps i))) → (∀ i, i < 16 → HasExc H' (ps i) (cs i)) → D.nx (St0 a (some (.ref L)) none none none none (some v)) H'
theorem right1 (R : RF P w K mg base cs) (hr : Room k (A.deeper (envOfC "_law_right" (defScope sRight) s0.heap.objs.size f cdv))) (hk : 5 ≤ k) : PS (RX P w K mg base f cdv A outer s0 H0 E).nox (stR 1) (u1 cs) := by
  refine ps_imp (ps_set (i := 1) scRight.nd rfl (.inl rfl) (pe_fnc R.made hr (by omega) (by rfl) pass0 (pa_cons (pv 6) pa_nil))) ?_
  rintro D σ H ⟨a, v, rfl, q⟩
  exact ⟨v, rfl, v, rfl, fun ps L H' s h1 h2 => q ps L H' s h1 h2⟩
def u2 (cs : Nat → Addr) : TS := fun D σ H => ∃ (a : Addr) (v : V) (ps : Nat → Addr) (L : Addr), σ = St0 a (some (.ref L)) none none none none (some v) ∧ H L = some (.lst ((List.range 16).map fun i => V.ref (ps i))) ∧ (∀ i, i < 16 → HasExc H (ps i) (cs i)) ∧
  ∀ H', Same H H' → D.nx σ H'
theorem right2 (R : RF P w K mg base cs) (hr : Room k (A.deeper (envOfC "_law_right" (defScope sRight) s0.heap.objs.size f cdv))) (hk : 5 ≤ k) : PS (RX P w K mg base f cdv A outer s0 H0 E).nox (stR 2) (u2 cs) := by
  refine ps_imp (ps_if (pt_cmpR (op_neD hr.units) (pe_lc (own := [("_law_error", 7)]) (g := gName 7) (tt := tYes) rfl scRight.nd (pi_list (pv 1)) (blkOk_by (N := NR) (sc := defScope sRight) (by decide +kernel))
        (fun _ _ _ _ _ => pg_name (i := 7) scRight.nd rfl (Or.inl rfl)) (fun _ _ _ _ _ => pts_nil) (fun _ _ _ _ _ => pe_fnc R.kinds hr (by omega) (by rfl) pass0 (pa_cons (pv 7) pa_nil)))
      (pe_lc (own := [("_law_at", 8)]) (g := gName 8) (tt := tYes) rfl scRight.nd (pi_range1 (by rfl) R.mRange (pa_cons pe_int pa_nil)) (blkOk_by (N := NR) (sc := defScope sRight) (by decide +kernel))
        (fun _ _ _ _ _ => pg_name (i := 8) scRight.nd rfl (Or.inl rfl)) (fun _ _ _ _ _ => pts_nil) (fun _ _ _ _ _ => pe_fnc R.due hr (by omega) (by rfl) pass0 (pa_cons (pv 8) pa_nil))) (nomark _))
    (pss_one (ps_ret pe_bl)) pss_nil) ?_
  rintro D σ H ⟨a, v, ps, L, rfl, hL, hx, q⟩
  refine ⟨.ref L, rfl, L, rfl, ⟨_, SqL.of hL⟩, fun D1 n1 => ?_⟩
  refine lc_list (K := K) (a := L) (xs := (List.range 16).map fun i => V.ref (ps i)) (fun m H' => Same H H' ∧ H' D1 = some (.lst ((List.range m).map fun i : Nat => V.str (bitsT (dueB (i : Int)))))) ⟨same_upd n1, upd_same⟩ (fun m H' hm hP => SqL.of (hP.1 _ _ hL)) (fun m x H' hx1 hP => ?_) (fun H1 hP => ?_)
  · obtain ⟨s1, d1⟩ := hP
    rw [List.getElem?_map] at hx1
    obtain ⟨j, hj, rfl⟩ := Option.map_eq_some_iff.mp hx1
    obtain ⟨hj1, hj2⟩ := List.getElem?_eq_some_iff.mp hj
    rw [List.getElem_range] at hj2
    subst hj2
    rw [List.length_range] at hj1
    refine ⟨rfl, .ref (ps m), rfl, ps m, m, rfl, hj1, HasExc.same (hx m hj1) s1, fun H2 s2 => ⟨_, s2 _ _ d1, ?_, fun b o e => ?_, ?_⟩⟩
    · rw [List.length_map, List.length_range, sizeLine_eq]
      omega
    · rw [upd_ne (ne_of_none e n1)]
      exact s2 _ _ (s1 _ _ e)
    · rw [upd_same, List.range_succ, List.map_append]
      rfl
  obtain ⟨s1, d1⟩ := hP
  rw [List.length_map, List.length_range] at d1
  refine ⟨16, rfl, by decide, by decide, fun D2 n2 => ?_⟩
  refine lc_range (fun m H' => Same H1 H' ∧ H' D2 = some (.lst ((List.range m).map fun i : Nat => V.str (bitsT (dueB (i : Int)))))) ⟨same_upd n2, upd_same⟩ (fun m H' hm hP => ?_) (fun H2 hP => ?_)
  · obtain ⟨s2, d2⟩ := hP
    refine ⟨rfl, _, rfl, (m : Int), by rw [Int.zero_add]; rfl, by omega, by omega, fun H3 s3 => ⟨_, s3 _ _ d2, ?_, fun b o e => ?_, ?_⟩⟩
    · rw [List.length_map, List.length_range, sizeLine_eq]
      omega
    · rw [upd_ne (ne_of_none e n2)]
      exact s3 _ _ (s2 _ _ e)
    · rw [upd_same, List.range_succ, List.map_append]
      rfl
  obtain ⟨s2, d2⟩ := hP
  have dp : ∀ (l : List Nat) (H' : Hp), DpAll K H' (l.map fun i : Nat => V.str (bitsT (dueB (i : Int)))) (l.map fun i : Nat => PyData.str (bitsT (dueB (i : Int)))) := fun l H' => by
    induction l with
    | nil => exact .nil
    | cons i l ih => exact .cons (.str _) ih
  refine ⟨.list ((List.range 16).map fun i : Nat => PyData.str (bitsT (dueB (i : Int)))), .list ((List.range 16).map fun i : Nat => PyData.str (bitsT (dueB (i : Int)))), .lst (SqL.of (s2 _ _ d1)) (dp _ _), .lst (SqL.of d2) (dp _ _), by decide +kernel, by decide +kernel, ?_⟩
  refine ⟨_, rfl, ?_⟩
  have e0 : (!PyData.eqv (.list ((List.range 16).map fun i : Nat => PyData.str (bitsT (dueB (i : Int))))) (.list ((List.range 16).map fun i : Nat => PyData.str (bitsT (dueB (i : Int)))))) = false := by decide +kernel
  rw [e0]
  exact q _ (s1.trans s2)
end
end K00

set_option autoImplicit false
set_option maxRecDepth 100000
set_option maxHeartbeats 4000000
namespace K00
open PySem PySem.Spec PyProof.Rows L2 PySem.KX KX
section
variable {P : Program} {w : World} {K : PySem.W.Frag} {mg : Str → Option Value} {base : Heap} {cs : Nat → Addr} {f c Pt : Addr} {A : Around} {outer : List Env} {s0 : Shared} {H0 : Hp} {E : XK} {k : Nat}
abbrev lamQ : Str := "_law_right.<locals>.<lambda>"
theorem tabs_put {T : List (Addr × Str)} {H : Hp} {D : Addr} {xs : List V} {o : HO} (t : LamX.Tabs T H) (e : H D = some (.lst xs)) : LamX.Tabs T (upd H D o) := fun p hp => by
  obtain ⟨ps, h1, h2, h3⟩ := t p hp
  refine ⟨ps, ?_, h2, fun pos cv hc => ?_⟩
  · rw [upd_ne (fun z => by rw [z, e] at h1; cases h1)]
    exact h1
  · obtain ⟨c, e1, e2⟩ := h3 pos cv hc
    refine ⟨c, e1, ?_⟩
    rw [upd_ne (fun z => by rw [z, e] at e2; unfold LamX.CodeO at e2; cases e2)]
    exact e2
def u3 (Pt : Addr) : TS := fun D σ H => ∃ a v mh, σ = St0 a mh none none none none (some v) ∧ LamX.Tabs [(Pt, lamQ)] H ∧
  ∀ (ps : Nat → Addr) (L : Addr) (H' : Hp), LamX.ExtN H H' → LamX.Tabs [(Pt, lamQ)] H' → H' L = some (.lst ((List.range 6).map fun i => V.ref (ps i))) → (∀ i, i < 6 → H' (ps i) = some (.lst [.str (wrd i), v])) → D.nx (St0 a mh (some (.ref L)) none none none (some v)) H'
theorem right3 (R : RF P w K mg base cs) (TB : LamX.TabB base mg c Pt) (hr : Room k (A.deeper (envOfC "_law_right" (defScope sRight) s0.heap.objs.size f (.ref c)))) (hk : 5 ≤ k) : PS (RX P w K mg base f (.ref c) A outer s0 H0 E).nox (stR 3) (u3 Pt) := by
  obtain ⟨g, gd, Fr, br, gm⟩ := R.raised
  obtain ⟨oc, od, kV, doc, pm, an, cdv, ct, osl, rfl, lk, hcd⟩ := Fr.ex
  refine ps_imp (ps_setLc (i := 2) rfl scRight.nd rfl rfl (sw_true rfl rfl rfl (by decide +kernel)) (own := [("_law_at", 8)]) (g := gName 8) (tt := tYes) (pi_range1 (by rfl) R.mRange (pa_cons pe_int pa_nil)) (blkOk_by (N := NR) (sc := defScope sRight) (by decide +kernel))
        (fun _ _ _ _ _ => pg_name (i := 8) scRight.nd rfl (Or.inr rfl)) (fun _ _ _ _ _ => pts_nil)
        (fun _ _ _ _ _ => LamX.pe_lamcall (T := [(Pt, lamQ)]) (TT := TTr cs) (Ng := ["_law_call", "e"]) (k := 3) (t := fun E => tCall (spKeep cs) [] E (tCons (tVar 8) (tCons (tVar 6) tNil)))
          (by rfl) gm Fr.kp lk hcd br scRaised rfl (.inl rfl) (raised_gives R.cau) TB rfl (by exact List.mem_singleton.mpr rfl) (fun p hp _ => by rw [List.mem_singleton.mp hp]; rfl) (hr.mono hk) (LamX.lamS_by (by rfl)) rfl (fun _ _ _ _ _ => rfl)
          (fun A outer s H E f c' hr2 => pe_fnc R.keep hr2 (Nat.le_refl _) (by rfl) (passes_call (takes_of rfl rfl rfl rfl) (fun _ _ _ _ z => z)) (pa_cons (pv 8) (pa_cons (pv 6) pa_nil))))) ?_
  rintro D σ H ⟨a, v, mh, rfl, hT, q⟩
  refine ⟨6, rfl, by decide, by decide, fun D1 n1 => ?_⟩
  refine lc_range (fun m H' => LamX.ExtN H H' ∧ LamX.Tabs [(Pt, lamQ)] H' ∧ ∃ qs : Nat → Addr, H' D1 = some (.lst ((List.range m).map fun i : Nat => V.ref (qs i))) ∧ ∀ i, i < m → H' (qs i) = some (.lst [.str (wrd i), v]))
    ⟨.of (same_upd n1), hT.ext (same_upd n1), fun _ => 0, upd_same, fun i hi => absurd hi (Nat.not_lt_zero i)⟩ (fun m H1 hm hP => ?_) (fun H1 hP => ?_)
  · obtain ⟨x1, t1, qs, d1, hq⟩ := hP
    refine ⟨rfl, t1, fun H2 x2 t2 => ?_⟩
    refine ⟨_, rfl, v, rfl, m, v, by rw [Int.zero_add]; rfl, hm, fun d H3 s3 hd => ⟨m, v, by omega, rfl, fun _ => ⟨d, rfl, hd⟩, fun p np => ?_⟩⟩
    have et : told m v = [.str (wrd m), v] := if_pos hm
    rw [et]
    have y1 : ∀ b o, H1 b = some o → (∀ ps, o ≠ .tbl ps) → upd H3 p (.lst [.str (wrd m), v]) b = some o := fun b o e n => (same_upd np) _ _ (s3 _ _ (x2 _ _ e n))
    have d3 := y1 _ _ d1 fun _ z => nomatch z
    have nP : p ≠ D1 := (ne_of_none (s3 _ _ (x2 _ _ d1 fun _ z => nomatch z)) np).symm
    refine ⟨_, d3, ?_, fun b o e n => ?_, ?_, fun i => if i = m then p else qs i, ?_, fun i hi => ?_⟩
    · rw [List.length_map, List.length_range, sizeLine_eq]
      omega
    · rw [upd_ne (ne_of_none e n1)]
      exact y1 _ _ (x1 _ _ e n) n
    · exact tabs_put ((t2.ext s3).ext (same_upd np)) d3
    · rw [upd_same, List.range_succ, List.map_append]
      show some (HO.lst (_ ++ [V.ref p])) = some (HO.lst (_ ++ [V.ref (if m = m then p else qs m)]))
      rw [if_pos rfl]
      congr 3
      refine List.map_congr_left fun i hi => ?_
      have := List.mem_range.mp hi
      show V.ref (qs i) = V.ref (if i = m then p else qs i)
      rw [if_neg (by omega)]
    · show upd _ _ _ (if i = m then p else qs i) = _
      by_cases e : i = m
      · subst e
        rw [if_pos rfl, upd_ne nP, upd_same]
      · rw [if_neg e]
        have hi2 : i < m := by omega
        have z := hq i hi2
        have nq : qs i ≠ D1 := fun w' => by
          rw [w', d1] at z
          have z2 := HO.lst.inj (Option.some.inj z)
          cases m with
          | zero => omega
          | succ m =>
            rw [List.range_succ_eq_map] at z2
            simp at z2
        rw [upd_ne nq]
        exact y1 _ _ z fun _ w' => nomatch w'
  · obtain ⟨x1, t1, qs, d1, hq⟩ := hP
    exact q qs D1 H1 x1 t1 d1 hq
def u4 (Pt : Addr) : TS := fun D σ H => ∃ a v mh L xs, σ = St0 a mh (some (.ref L)) none none none (some v) ∧ LamX.Tabs [(Pt, lamQ)] H ∧ H L = some (.lst xs) ∧ xs.length = 6 ∧
  ∀ (ps : Nat → Addr) (M : Addr) (H' : Hp), LamX.ExtN H H' → LamX.Tabs [(Pt, lamQ)] H' → H' M = some (.lst (xs ++ (List.range 10).map fun i => V.ref (ps i))) → (∀ i, i < 10 → H' (ps i) = some (.lst [.str "claim"])) → D.nx (St0 a mh (some (.ref M)) none none none (some v)) H'
theorem right4 (R : RF P w K mg base cs) (TB : LamX.TabB base mg c Pt) (hr : Room k (A.deeper (envOfC "_law_right" (defScope sRight) s0.heap.objs.size f (.ref c)))) (hk : 5 ≤ k) : PS (RX P w K mg base f (.ref c) A outer s0 H0 E).nox (stR 4) (u4 Pt) := by
  obtain ⟨g, gd, Fr, br, gm⟩ := R.raised
  obtain ⟨oc, od, kV, doc, pm, an, cdv, ct, osl, rfl, lk, hcd⟩ := Fr.ex
  refine ps_imp (ps_set (i := 2) scRight.nd rfl (.inl rfl) (pe_op op_cat (pv 2) (pe_lc (own := [("_law_at", 8)]) (g := gName 8) (tt := tYes) rfl scRight.nd (pi_range1 (by rfl) R.mRange (pa_cons pe_int pa_nil)) (blkOk_by (N := NR) (sc := defScope sRight) (by decide +kernel))
        (fun _ _ _ _ _ => pg_name (i := 8) scRight.nd rfl (Or.inr rfl)) (fun _ _ _ _ _ => pts_nil)
        (fun _ _ _ _ _ => LamX.pe_lamcall (T := [(Pt, lamQ)]) (TT := TTr cs) (Ng := ["_law_call", "e"]) (k := 1) (t := fun E => tCall (spPlain cs) [] E (tCons (tVar 8) tNil))
          (by rfl) gm Fr.kp lk hcd br scRaised rfl (.inl rfl) (raised_gives R.cau) TB rfl (by exact List.mem_singleton.mpr rfl) (fun p hp _ => by rw [List.mem_singleton.mp hp]; rfl) (hr.mono (by omega)) (LamX.lamS_by (by rfl)) rfl (fun _ _ _ _ _ => rfl)
          (fun A outer s H E f c' hr2 => pe_fnc R.plain hr2 (Nat.le_refl _) (by rfl) (passes_call (takes_of rfl rfl rfl rfl) (fun _ _ _ _ z => z)) (pa_cons (pv 8) pa_nil)))))) ?_
  rintro D σ H ⟨a, v, mh, L, xs, rfl, hT, hL, h6, q⟩
  refine ⟨.ref L, rfl, 10, rfl, by decide, by decide, fun D1 n1 => ?_⟩
  have nL : L ≠ D1 := ne_of_none hL n1
  refine lc_range (fun m H' => LamX.ExtN H H' ∧ LamX.Tabs [(Pt, lamQ)] H' ∧ ∃ qs : Nat → Addr, H' D1 = some (.lst ((List.range m).map fun i : Nat => V.ref (qs i))) ∧ ∀ i, i < m → H' (qs i) = some (.lst [.str "claim"]))
    ⟨.of (same_upd n1), hT.ext (same_upd n1), fun _ => 0, upd_same, fun i hi => absurd hi (Nat.not_lt_zero i)⟩ (fun m H1 hm hP => ?_) (fun H1 hP => ?_)
  · obtain ⟨x1, t1, qs, d1, hq⟩ := hP
    have hm2 : m < 10 := hm
    refine ⟨rfl, t1, fun H2 x2 t2 => ?_⟩
    refine ⟨_, rfl, m, by rw [Int.zero_add]; rfl, hm2, m + 6, .non, by omega, rfl, fun z => absurd z (by omega), fun p np => ?_⟩
    have et : told (m + 6) .non = [.str "claim"] := if_neg (by omega)
    rw [et]
    have y1 : ∀ b o, H1 b = some o → (∀ ps, o ≠ .tbl ps) → upd H2 p (.lst [.str "claim"]) b = some o := fun b o e n => (same_upd np) _ _ (x2 _ _ e n)
    have d3 := y1 _ _ d1 fun _ z => nomatch z
    have nP : p ≠ D1 := (ne_of_none (x2 _ _ d1 fun _ z => nomatch z) np).symm
    refine ⟨_, d3, ?_, fun b o e n => ?_, ?_, fun i => if i = m then p else qs i, ?_, fun i hi => ?_⟩
    · rw [List.length_map, List.length_range, sizeLine_eq]
      omega
    · rw [upd_ne (ne_of_none e n1)]
      exact y1 _ _ (x1 _ _ e n) n
    · exact tabs_put (t2.ext (same_upd np)) d3
    · rw [upd_same, List.range_succ, List.map_append]
      show some (HO.lst (_ ++ [V.ref p])) = some (HO.lst (_ ++ [V.ref (if m = m then p else qs m)]))
      rw [if_pos rfl]
      congr 3
      refine List.map_congr_left fun i hi => ?_
      have := List.mem_range.mp hi
      show V.ref (qs i) = V.ref (if i = m then p else qs i)
      rw [if_neg (by omega)]
    · show upd _ _ _ (if i = m then p else qs i) = _
      by_cases e : i = m
      · subst e
        rw [if_pos rfl, upd_ne nP, upd_same]
      · rw [if_neg e]
        have hi2 : i < m := by omega
        have z := hq i hi2
        have nq : qs i ≠ D1 := fun w' => by
          rw [w', d1] at z
          have z2 := HO.lst.inj (Option.some.inj z)
          cases m with
          | zero => omega
          | succ m =>
            rw [List.range_succ_eq_map] at z2
            simp at z2
        rw [upd_ne nq]
        exact y1 _ _ z fun _ w' => nomatch w'
  · obtain ⟨x1, t1, qs, d1, hq⟩ := hP
    have d1' : H1 D1 = some (.lst ((List.range 10).map fun i : Nat => V.ref (qs i))) := d1
    refine ⟨L, D1, _, _, rfl, rfl, x1 _ _ hL (fun _ z => nomatch z), d1', ?_, fun p np => ?_⟩
    · rw [h6, List.length_map, List.length_range, sizeLine_eq]
      omega
    · exact q qs p _ (x1.trans (.of (same_upd np))) (t1.ext (same_upd np)) upd_same fun i hi => (same_upd np) _ _ (hq i hi)
end
end K00

set_option autoImplicit false
set_option maxRecDepth 100000
set_option maxHeartbeats 4000000
namespace K00
open PySem PySem.Spec PyProof.Rows L2 PySem.KX KX
section
variable {P : Program} {w : World} {K : PySem.W.Frag} {mg : Str → Option Value} {base : Heap} {cs : Nat → Addr} {f c Pt : Addr} {A : Around} {outer : List Env} {s0 : Shared} {H0 : Hp} {E : XK} {k : Nat}
def u5 : TS := fun D σ H => ∃ a v mh tl, σ = St0 a mh tl none none none (some v) ∧
  ∀ (ps : Nat → Addr) (C1 M : Addr) (H' : Hp), Same H H' → H' M = some (.lst (((List.range 6).map fun i : Nat => V.ref (ps i)) ++ List.replicate 10 (V.ref C1))) → (∀ i, i < 6 → H' (ps i) = some (.lst [.str (wrd i), v])) → H' C1 = some (.lst [.str "claim"]) →
    D.nx (St0 a mh tl none (some (.ref M)) none (some v)) H'
theorem right5 (R : RF P w K mg base cs) (hr : Room k (A.deeper (envOfC "_law_right" (defScope sRight) s0.heap.objs.size f (.ref c)))) (hk : 5 ≤ k) : PS (RX P w K mg base f (.ref c) A outer s0 H0 E).nox (stR 5) u5 := by
  refine ps_imp (ps_set (i := 4) scRight.nd rfl (.inl rfl) (pe_op op_cat (pe_lc (own := [("_law_word", 3)]) (g := gName 3) (tt := tYes) rfl scRight.nd
        (pi_tup (pe_tup (pa_cons pe_str (pa_cons pe_str (pa_cons pe_str (pa_cons pe_str (pa_cons pe_str (pa_cons pe_str pa_nil)))))))) (blkOk_by (N := NR) (sc := defScope sRight) (by decide +kernel))
        (fun _ _ _ _ _ => pg_name (i := 3) scRight.nd rfl (Or.inl rfl)) (fun _ _ _ _ _ => pts_nil)
        (fun _ _ _ _ _ => pe_lst (pa_cons (pv 3) (pa_cons (pv 6) pa_nil))))
      (pe_op op_rep (pe_lst (pa_cons (pe_lst (pa_cons pe_str pa_nil)) pa_nil)) pe_int))) ?_
  rintro D σ H ⟨a, v, mh, tl, rfl, q⟩
  refine ⟨by show 6 ≤ sizeLine; decide, fun T nT => ⟨T, rfl, ⟨_, SqT.of upd_same⟩, fun D1 n1 => ?_⟩⟩
  have sT : Same H _ := same_upd (o := .tup [V.str "parse", V.str "number", V.str "name", V.str "undo", V.str "many", V.str "refused"]) nT
  have eT : (upd H T (.tup [V.str "parse", V.str "number", V.str "name", V.str "undo", V.str "many", V.str "refused"])) T = some (.tup ((List.range 6).map fun i : Nat => V.str (wrd i))) := upd_same
  generalize upd H T _ = G at sT eT n1 ⊢
  refine lc_tup (K := K) (a := T) (xs := (List.range 6).map fun i : Nat => V.str (wrd i)) (fun m H' => Same G H' ∧ ∃ qs : Nat → Addr, H' D1 = some (.lst ((List.range m).map fun i : Nat => V.ref (qs i))) ∧ ∀ i, i < m → H' (qs i) = some (.lst [.str (wrd i), v]))
    ⟨same_upd n1, fun _ => 0, upd_same, fun i hi => absurd hi (Nat.not_lt_zero i)⟩ (fun m H' hm hP => SqT.of (hP.1 _ _ eT)) (fun m x H1 hx hP => ?_) (fun H1 hP => ?_)
  · obtain ⟨s1, qs, d1, hq⟩ := hP
    rw [List.getElem?_map] at hx
    obtain ⟨j, hj, rfl⟩ := Option.map_eq_some_iff.mp hx
    obtain ⟨hj1, hj2⟩ := List.getElem?_eq_some_iff.mp hj
    rw [List.getElem_range] at hj2
    subst hj2
    rw [List.length_range] at hj1
    refine ⟨rfl, _, rfl, v, rfl, (by show 2 ≤ sizeLine; decide), fun p np => ?_⟩
    have s2 : Same H1 (upd H1 p (.lst [.str (wrd m), v])) := same_upd np
    have nP : p ≠ D1 := (ne_of_none d1 np).symm
    refine ⟨_, s2 _ _ d1, ?_, fun b o e => ?_, fun i => if i = m then p else qs i, ?_, fun i hi => ?_⟩
    · rw [List.length_map, List.length_range, sizeLine_eq]
      omega
    · rw [upd_ne (ne_of_none e n1)]
      exact s2 _ _ (s1 _ _ e)
    · rw [upd_same, List.range_succ, List.map_append]
      show some (HO.lst (_ ++ [V.ref p])) = some (HO.lst (_ ++ [V.ref (if m = m then p else qs m)]))
      rw [if_pos rfl]
      congr 3
      refine List.map_congr_left fun i hi => ?_
      have := List.mem_range.mp hi
      show V.ref (qs i) = V.ref (if i = m then p else qs i)
      rw [if_neg (by omega)]
    · show upd _ _ _ (if i = m then p else qs i) = _
      by_cases e : i = m
      · subst e
        rw [if_pos rfl, upd_ne nP, upd_same]
      · rw [if_neg e]
        have hi2 : i < m := by omega
        have z := hq i hi2
        have nq : qs i ≠ D1 := fun w' => by
          rw [w', d1] at z
          have z2 := HO.lst.inj (Option.some.inj z)
          cases m with
          | zero => omega
          | succ m =>
            rw [List.range_succ_eq_map] at z2
            simp at z2
        rw [upd_ne nq]
        exact s2 _ _ z
  · obtain ⟨s1, qs, d1, hq⟩ := hP
    rw [List.length_map, List.length_range] at d1 hq
    refine ⟨by show 1 ≤ sizeLine; decide, fun C1 nC => ⟨by show 1 ≤ sizeLine; decide, fun L1 nL => ?_⟩⟩
    have s2 := (same_upd (o := .lst [V.str "claim"]) nC).trans (same_upd (o := .lst [V.ref C1]) nL)
    have eC := (same_upd (o := .lst [V.ref C1]) nL) _ _ (upd_same (H := H1) (a := C1) (o := .lst [V.str "claim"]))
    refine ⟨L1, 10, _, rfl, rfl, upd_same, by decide, by decide, by show 1 * 10 ≤ sizeLine; decide, fun R1 nR => ?_⟩
    have er : (List.replicate (Int.toNat 10) [V.ref C1]).flatten = List.replicate 10 (V.ref C1) := rfl
    rw [er]
    have s3 := s2.trans (same_upd (o := .lst (List.replicate 10 (V.ref C1))) nR)
    refine ⟨D1, R1, _, _, rfl, rfl, s3 _ _ d1, upd_same, ?_, fun p np => ?_⟩
    · rw [List.length_map, List.length_range, List.length_replicate, sizeLine_eq]
      omega
    · have s4 := s3.trans (same_upd (o := .lst (((List.range 6).map fun i : Nat => V.ref (qs i)) ++ List.replicate 10 (V.ref C1))) np)
      exact q qs C1 p _ ((sT.trans s1).trans s4) upd_same (fun i hi => s4 _ _ (hq i hi)) ((same_upd np) _ _ ((same_upd nR) _ _ eC))
/-- what is told of the sixteen errors -/
def toldD (d : PyData) : List PyData := ((List.range 6).map fun i : Nat => PyData.list [.str (wrd i), d]) ++ List.replicate 10 (PyData.list [.str "claim"])
theorem sum_le {l : List Nat} {B : Nat} (h : ∀ x ∈ l, x ≤ B) : l.sum ≤ l.length * B := by
  induction l with
  | nil => simp
  | cons x l ih =>
    have h1 := h x List.mem_cons_self
    have h2 := ih fun y hy => h y (List.mem_cons_of_mem _ hy)
    rw [List.sum_cons, List.length_cons, Nat.succ_mul]
    omega
theorem listText_le {ts : List Str} {B : Nat} (h : ∀ t ∈ ts, t.length ≤ B) : (listText ts).length ≤ ts.length * B + 2 * ts.length + 3 := by
  have h1 := listText_len_le ts
  have h2 := sum_le (l := ts.map (·.length)) (B := B) fun x hx => by
    obtain ⟨t, ht, rfl⟩ := List.mem_map.mp hx
    exact h t ht
  rw [List.length_map] at h2
  omega
theorem wrd_short : ∀ i, i < 6 → (PyData.str (wrd i)).shown.length ≤ 200 := by
  have h : ((List.range 6).all fun i => decide ((PyData.str (wrd i)).shown.length ≤ 200)) = true := by decide +kernel
  intro i hi
  exact of_decide_eq_true (List.all_eq_true.mp h i (List.mem_range.mpr hi))
theorem toldD_ok {d : PyData} (o : OkD d) : (PyData.list (toldD d)).showable = true ∧ (PyData.list (toldD d)).depth ≤ 60 ∧ (PyData.list (toldD d)).shown.length ≤ 1000000 := by
  obtain ⟨h1, h2, h3⟩ := o
  refine ⟨?_, ?_, ?_⟩
  · simp [toldD, List.range_succ, PyData.showable, PyData.showableAll, h1, List.replicate]
  · simp [toldD, List.range_succ, PyData.depth, PyData.depthAll, List.replicate]
    omega
  · have inner : ∀ i, i < 6 → (PyData.list [.str (wrd i), d]).shown.length ≤ 1000 := fun i hi => by
      have z := listText_le (ts := PyData.shownAll [.str (wrd i), d]) (B := 200) (fun t ht => by
        simp only [PyData.shownAll, List.mem_cons, List.not_mem_nil, or_false] at ht
        rcases ht with rfl | rfl
        · exact wrd_short i hi
        · exact h3)
      have e : (PyData.shownAll [.str (wrd i), d]).length = 2 := by simp [PyData.shownAll]
      rw [e] at z
      simp only [PyData.shown] at z ⊢
      omega
    have cl : (PyData.list [.str "claim"]).shown.length ≤ 1000 := by decide +kernel
    have all : ∀ (l : List PyData), (∀ y ∈ l, y.shown.length ≤ 1000) → ∀ t ∈ PyData.shownAll l, t.length ≤ 1000 := fun l => by
      induction l with
      | nil =>
        intro _ t ht
        simp [PyData.shownAll] at ht
      | cons y l ih =>
        intro hy t ht
        simp only [PyData.shownAll, List.mem_cons] at ht
        rcases ht with rfl | ht
        · exact hy y List.mem_cons_self
        · exact ih (fun z hz => hy z (List.mem_cons_of_mem _ hz)) t ht
    have z := listText_le (ts := PyData.shownAll (toldD d)) (B := 1000) (all _ fun y hy => by
      rcases List.mem_append.mp hy with m | m
      · obtain ⟨i, hi, rfl⟩ := List.mem_map.mp m
        exact inner i (List.mem_range.mp hi)
      · rw [(List.mem_replicate.mp m).2]
        exact cl)
    have e : (PyData.shownAll (toldD d)).length = 16 := by simp [toldD, List.range_succ, PyData.shownAll, List.replicate]
    rw [e] at z
    simp only [PyData.shown]
    omega
def u6 : TS := fun D σ H => ∃ (a : Addr) (v : V) (d : PyData) (mh : Option V) (L M : Addr) (ps qs ts : Nat → Addr) (C1 : Addr), σ = St0 a mh (some (.ref L)) none (some (.ref M)) none (some v) ∧ OkD d ∧ Shw H v d ∧
  H L = some (.lst (((List.range 6).map fun i : Nat => V.ref (ps i)) ++ (List.range 10).map fun i : Nat => V.ref (qs i))) ∧ (∀ i, i < 6 → H (ps i) = some (.lst [.str (wrd i), v])) ∧ (∀ i, i < 10 → H (qs i) = some (.lst [.str "claim"])) ∧
  H M = some (.lst (((List.range 6).map fun i : Nat => V.ref (ts i)) ++ List.replicate 10 (V.ref C1))) ∧ (∀ i, i < 6 → H (ts i) = some (.lst [.str (wrd i), v])) ∧ H C1 = some (.lst [.str "claim"]) ∧ D.nx σ H
theorem right6 (R : RF P w K mg base cs) (hG : A.guards = some []) (hr : Room k (A.deeper (envOfC "_law_right" (defScope sRight) s0.heap.objs.size f (.ref c)))) (hk : 5 ≤ k) : PS (RX P w K mg base f (.ref c) A outer s0 H0 E).nox (stR 6) u6 := by
  have hG2 : (A.deeper (envOfC "_law_right" (defScope sRight) s0.heap.objs.size f (.ref c))).guards = some [] := hG
  refine ps_imp (ps_if (pt_cmpR op_ne (pe_callB (call_reprL hG2 hr.units) (by rfl) R.mRepr (by decide +kernel) (pa_cons (pv 2) pa_nil)) (pe_callB (call_reprL hG2 hr.units) (by rfl) R.mRepr (by decide +kernel) (pa_cons (pv 4) pa_nil)) (nomark _))
    (pss_one (ps_ret pe_bl)) pss_nil) ?_
  rintro D σ H ⟨a, v, d, mh, L, M, ps, qs, ts, C1, rfl, ok, sh, hL, hp, hq, hM, ht, hC, q⟩
  obtain ⟨o1, o2, o3⟩ := toldD_ok ok
  have inner : ∀ (rs : Nat → Addr) (l : List Nat), (∀ i ∈ l, H (rs i) = some (.lst [.str (wrd i), v])) → ShwAll H (l.map fun i : Nat => V.ref (rs i)) (l.map fun i : Nat => PyData.list [.str (wrd i), d]) := fun rs l => by
    induction l with
    | nil => exact fun _ => .nil
    | cons i l ih => exact fun h => .cons (.lst (h i List.mem_cons_self) (.cons (.str _) (.cons sh .nil))) (ih fun j hj => h j (List.mem_cons_of_mem _ hj))
  have cl1 : ∀ (l : List Nat), (∀ i ∈ l, H (qs i) = some (.lst [.str "claim"])) → ShwAll H (l.map fun i : Nat => V.ref (qs i)) (List.replicate l.length (PyData.list [.str "claim"])) := fun l => by
    induction l with
    | nil => exact fun _ => .nil
    | cons i l ih => exact fun h => .cons (.lst (h i List.mem_cons_self) (.cons (.str _) .nil)) (ih fun j hj => h j (List.mem_cons_of_mem _ hj))
  have cl2 : ∀ n : Nat, ShwAll H (List.replicate n (V.ref C1)) (List.replicate n (PyData.list [.str "claim"])) := fun n => by
    induction n with
    | zero => exact .nil
    | succ n ih => exact .cons (.lst hC (.cons (.str _) .nil)) ih
  have A1 : ShwAll H (((List.range 6).map fun i : Nat => V.ref (ps i)) ++ (List.range 10).map fun i : Nat => V.ref (qs i)) (toldD d) :=
    ShwAll.app (inner ps _ fun i hi => hp i (List.mem_range.mp hi)) (cl1 (List.range 10) fun i hi => hq i (List.mem_range.mp hi))
  have A2 : ShwAll H (((List.range 6).map fun i : Nat => V.ref (ts i)) ++ List.replicate 10 (V.ref C1)) (toldD d) :=
    ShwAll.app (inner ts _ fun i hi => ht i (List.mem_range.mp hi)) (cl2 10)
  refine ⟨.ref L, rfl, L, _, _, toldD d, rfl, hL, A1, o1, o2, o3, .ref M, rfl, M, _, _, toldD d, rfl, hM, A2, o1, o2, o3, rfl, _, rfl, ?_⟩
  have e0 : (!decide (V.str (PyData.list (toldD d)).shown = V.str (PyData.list (toldD d)).shown)) = false := by simp
  rw [e0]
  exact q
end
end K00

set_option autoImplicit false
set_option maxRecDepth 100000
set_option maxHeartbeats 4000000
namespace K00
open PySem PySem.Spec PyProof.Rows L2 PySem.KX KX
instance decMulOk (x : Str) (n : Int) : Decidable (MulOk x n) := by
  unfold MulOk
  infer_instance
/-- 'a' * n -/
theorem as_ok {n : Int} (h0 : 0 ≤ n) (h1 : n < 99) : MulOk "a" n ∧ (Txt.mul "a" n).length ≤ 200 ∧ ∀ ch ∈ (Txt.mul "a" n).cps.toList, ch < 128 := by
  have h : ((List.range 99).all fun m => decide (MulOk "a" (m : Int)) && decide ((Txt.mul "a" (m : Int)).length ≤ 200) && (Txt.mul "a" (m : Int)).cps.toList.all fun ch => decide (ch < 128)) = true := by decide +kernel
  have z := List.all_eq_true.mp h n.toNat (List.mem_range.mpr (by omega))
  have e : ((n.toNat : Nat) : Int) = n := Int.toNat_of_nonneg h0
  rw [e, Bool.and_eq_true, Bool.and_eq_true] at z
  exact ⟨of_decide_eq_true z.1.1, of_decide_eq_true z.1.2, fun ch hc => of_decide_eq_true (List.all_eq_true.mp z.2 ch hc)⟩
theorem op_as {X : Cx} : OpR X (binaryOp .Mult) (fun x y H Q => ∃ n : Int, x = .str "a" ∧ y = .int n ∧ 0 ≤ n ∧ n < 99 ∧ Q (.str (Txt.mul "a" n)) H) := by
  intro pins s σ H x y v u Q I rx ry h
  obtain ⟨n, rfl, rfl, h0, h1, q⟩ := h
  obtain ⟨t, rfl⟩ := rx
  obtain ⟨t', rfl⟩ := ry
  exact PySem.SB.mul (as_ok h0 h1).1 fun t2 k => ⟨.str _, H, I.tok _, ⟨_, rfl⟩, q⟩
theorem join_one (l : List Nat) : Txt.join "" (l.map fun ch => SX.S [ch]) = SX.S l := by
  have e := SX.join_S [] (l.map fun ch => [ch])
  rw [List.map_map] at e
  refine e.trans (congrArg SX.S ?_)
  clear e
  induction l with
  | nil => rfl
  | cons c l ih =>
    cases l with
    | nil => rfl
    | cons d l =>
      show [c] ++ ([] ++ TL.joinL [] ((d :: l).map fun ch => [ch])) = c :: d :: l
      rw [ih]
      rfl
section
variable {P : Program} {w : World} {K : PySem.W.Frag} {mg : Str → Option Value} {base : Heap} {cs : Nat → Addr} {f c Pt : Addr} {A : Around} {outer : List Env} {s0 : Shared} {H0 : Hp} {E : XK} {k : Nat}
def u7 : TS := fun D σ H => ∃ a x y c mh tl du v, σ = St0 a mh tl none du none v ∧ H a = some (creel x y c) ∧ Cr x y c ∧ c ≤ 600 ∧
  ∀ (l : List Nat) (x' c' : Int) (H' : Hp), l.length ≤ 10 → (∀ ch ∈ l, ch < 128) → Cr x' y c' → c' ≤ c + 11 → H' a = some (creel x' y c') → Grw a H H' → D.nx (St0 a mh tl (some (.str (SX.S l))) du none v) H'
theorem right7 (R : RF P w K mg base cs) (hr : Room k (A.deeper (envOfC "_law_right" (defScope sRight) s0.heap.objs.size f (.ref c)))) (hk : 5 ≤ k) : PS (RX P w K mg base f (.ref c) A outer s0 H0 E).nox (stR 7) u7 := by
  refine ps_imp (ps_set (i := 3) scRight.nd rfl (.inl rfl) (pe_join pe_str (pe_lc (own := [("_law_turn", 9)]) (g := gName 9) (tt := tYes) rfl scRight.nd
        (pi_range1 (by rfl) R.mRange (pa_cons (pe_fnc R.fish hr (by omega) (by rfl) pass0 (pa_cons (pv 0) (pa_cons pe_int pa_nil))) pa_nil)) (blkOk_by (N := NR) (sc := defScope sRight) (by decide +kernel))
        (fun _ _ _ _ _ => pg_name (i := 9) scRight.nd rfl (Or.inl rfl)) (fun _ _ _ _ _ => pts_nil)
        (fun _ _ _ _ _ => pe_fnc R.one hr (by omega) (by rfl) pass0 (pa_cons (pv 0) (pa_cons pe_str pa_nil)))))) ?_
  rintro D σ H ⟨a, x, y, c, mh, tl, du, v, rfl, ha, C, hc, q⟩
  refine ⟨⟨"", rfl⟩, .ref a, rfl, a, x, y, c, 11, rfl, ha, C, by omega, by decide, by decide, fun r x1 c1 hr0 hr1 C1 hc1 => ⟨r, rfl, by omega, by omega, fun D1 n1 => ?_⟩⟩
  have nD : D1 ≠ a := fun z => by rw [z, upd_same] at n1; cases n1
  refine lc_range (fun m H' => ∃ (x2 c2 : Int) (l : List Nat), Cr x2 y c2 ∧ c2 ≤ c1 + m ∧ H' a = some (creel x2 y c2) ∧ Grw a H H' ∧ l.length = m ∧ (∀ ch ∈ l, ch < 128) ∧ H' D1 = some (.lst (l.map fun ch => V.str (SX.S [ch]))))
    ⟨x1, c1, [], C1, by omega, by rw [upd_ne nD.symm, upd_same], fun b o n e => ?_, rfl, by simp, upd_same⟩ (fun m H' hm hP => ?_) (fun H' hP => ?_)
  · have e' : upd H a (creel x1 y c1) b = some o := by rw [upd_ne n]; exact e
    rw [upd_ne (ne_of_none e' n1)]
    exact e'
  · obtain ⟨x2, c2, l, C2, hc2, ha2, g2, hl, hch, d2⟩ := hP
    refine ⟨rfl, .ref a, rfl, a, .str "abkzyx", x2, y, c2, rfl, ha2, C2, by omega, .inr ⟨"abkzyx", rfl, by decide, by decide, fun i ch x3 c3 hi C3 hc3 => ?_⟩⟩
    have h128 : ch < 128 := by
      have hm := List.mem_of_getElem? hi
      have all : (("abkzyx" : Str).cps.toList.all fun c => decide (c < 128)) = true := by decide +kernel
      exact of_decide_eq_true (List.all_eq_true.mp all ch hm)
    refine ⟨_, by rw [upd_ne nD]; exact d2, ?_, x3, c3, l ++ [ch], C3, by omega, by rw [upd_ne nD.symm, upd_same], fun b o n e => ?_, by simp [hl], fun y' hy => ?_, ?_⟩
    · rw [List.length_map, hl, sizeLine_eq]
      omega
    · have e1 := g2 b o n e
      by_cases hb : b = D1
      · exfalso
        rw [hb] at e n
        have e' : upd H a (creel x1 y c1) D1 = some o := by rw [upd_ne n]; exact e
        rw [n1] at e'
        cases e'
      · rw [upd_ne hb, upd_ne n]
        exact e1
    · rcases List.mem_append.mp hy with m1 | m1
      · exact hch y' m1
      · rw [List.mem_singleton.mp m1]
        exact h128
    · rw [upd_same, List.map_append]
      rfl
  · obtain ⟨x2, c2, l, C2, hc2, ha2, g2, hl, hch, d2⟩ := hP
    refine ⟨"", D1, l.map fun ch => SX.S [ch], rfl, rfl, .inl (SqL.of (by rw [List.map_map]; exact d2)), ?_, ?_⟩
    · have s1 : (((l.map fun ch => SX.S [ch]).map (·.length)).sum) = l.length := by
        clear hl hch d2
        induction l with
        | nil => rfl
        | cons ch l ih =>
          simp only [List.map_cons, List.sum_cons, List.length_cons]
          rw [ih, SX.S_len]
          simp
          omega
      have e0 : ("" : Str).length = 0 := rfl
      rw [s1, e0, Nat.mul_zero]
      omega
    · show D.nx _ _
      rw [join_one]
      exact q l x2 c2 H' (by omega) hch C2 (by omega) ha2 g2
end
end K00

set_option autoImplicit false
set_option maxRecDepth 100000
set_option maxHeartbeats 4000000
namespace K00
open PySem PySem.Spec PyProof.Rows L2 PySem.KX KX
/-- x is a name or not, whatever is made later; the creel at a may change -/
def Nm (K : PySem.W.Frag) (a : Addr) (H : Hp) (x : V) : Prop := ∃ b, ∀ H', Grw a H H' → NameOf K H' x b
section
variable {K : PySem.W.Frag} {a : Addr} {H H' : Hp} {x : V}
theorem Nm.grow (n : Nm K a H x) (g : Grw a H H') : Nm K a H' x := n.imp fun b h H2 g2 => h H2 (g.trans g2)
theorem Nm.str {z : Str} (h : z.length ≤ 1000) (ok : ∀ c ∈ z.cps.toList, c < 128) : Nm K a H (.str z) := ⟨_, fun _ _ => .str z h fun c hc => Nat.lt_trans (ok c hc) (by decide)⟩
theorem Nm.S {l : List Nat} (h : l.length ≤ 1000) (ok : ∀ c ∈ l, c < 128) : Nm K a H (.str (SX.S l)) := .str (by rw [SX.S_len]; exact h) fun c hc => ok c (by simpa using hc)
theorem Nm.lit {z : Str} (h : (decide (z.length ≤ 1000) && z.cps.toList.all fun c => decide (c < 128)) = true) : Nm K a H (.str z) := by
  rw [Bool.and_eq_true] at h
  exact .str (of_decide_eq_true h.1) fun c hc => of_decide_eq_true (List.all_eq_true.mp h.2 c hc)
end
section
variable {P : Program} {w : World} {K : PySem.W.Frag} {mg : Str → Option Value} {base : Heap} {cs : Nat → Addr} {f c Pt : Addr} {A : Around} {outer : List Env} {s0 : Shared} {H0 : Hp} {E : XK} {k : Nat}
def u8 (K : PySem.W.Frag) : TS := fun D σ H => ∃ (a : Addr) (l : List Nat) (o : HO) (mh tl du v : Option V), σ = St0 a mh tl (some (.str (SX.S l))) du none v ∧ l.length ≤ 10 ∧ (∀ ch ∈ l, ch < 128) ∧ H a = some o ∧
  ∀ (xs : List V) (M : Addr) (H' : Hp), Same H H' → xs.length = 13 → H' M = some (.lst xs) → (∀ x ∈ xs, Nm K a H' x) → D.nx (St0 a mh tl (some (.str (SX.S l))) du (some (.ref M)) v) H'
theorem right8 (R : RF P w K mg base cs) (hr : Room k (A.deeper (envOfC "_law_right" (defScope sRight) s0.heap.objs.size f (.ref c)))) (hk : 5 ≤ k) : PS (RX P w K mg base f (.ref c) A outer s0 H0 E).nox (stR 8) (u8 K) := by
  refine ps_imp (ps_set (i := 5) scRight.nd rfl (.inl rfl) (pe_lst (pa_cons (pe_upper (pv 3)) (pa_cons (pe_op op_add_str (pv 3) pe_str) (pa_cons (pe_op op_add_str pe_str (pv 3)) (pa_cons (pe_op op_add_str (pv 3) pe_str) (pa_cons pe_str (pa_cons pe_str (pa_cons pe_non (pa_cons pe_int
    (pa_cons (pe_tup (pa_cons (pv 3) pa_nil)) (pa_cons (pe_lst (pa_cons (pv 3) pa_nil)) (pa_cons (pe_disp (pps_cons (pv 3) pe_int pps_nil) rfl rfl (List.cons_ne_nil _ _) (by decide)) (pa_cons pe_bl (pa_cons pe_str pa_nil))))))))))))))) ?_
  rintro D σ H ⟨a, l, o, mh, tl, du, v, rfl, hl, hch, ha, q⟩
  have lz : (SX.S l).length ≤ 10 := by rw [SX.S_len]; exact hl
  have z1 : sizeLine = 16777216 := sizeLine_eq
  have l1 : ("1" : Str).length = 1 := rfl
  have l2 : (" " : Str).length = 1 := rfl
  have l3 : ("_" : Str).length = 1 := rfl
  refine ⟨_, rfl, ⟨_, rfl⟩, SX.S l, rfl, rfl, by omega, _, rfl, SX.S l, "1", rfl, rfl, by omega, _, rfl, " ", SX.S l, rfl, rfl, by omega, _, rfl, SX.S l, "_", rfl, rfl, by omega, ?_⟩
  refine ⟨_, rfl, (by show 1 ≤ sizeLine; decide), fun p1 n1 => ⟨_, rfl, (by show 1 ≤ sizeLine; decide), fun p2 n2 => fun p3 n3 => ⟨_, rfl, ?_⟩⟩⟩
  refine ⟨upd_same, [(.inr (SX.S l), .int 1)], rfl, (by show 1 ≤ 15; decide), (by show 13 ≤ sizeLine; decide), fun M nM => ?_⟩
  have s1 : Same H (upd H p1 (.tup [V.str (SX.S l)])) := same_upd n1
  have s2 := same_upd (o := .lst [V.str (SX.S l)]) n2
  have n3' := n3
  have s3 := same_upd (o := .dK (mergeK [] [((.inr (SX.S l) : Key), V.int 1)])) n3
  rw [upd_upd]
  rw [upd_upd] at nM
  have e1 := s3 _ _ (s2 _ _ (upd_same (H := H) (a := p1) (o := .tup [V.str (SX.S l)])))
  have e2 := s3 _ _ (upd_same (H := upd H p1 (.tup [V.str (SX.S l)])) (a := p2) (o := .lst [V.str (SX.S l)]))
  have e3 := upd_same (H := upd (upd H p1 (.tup [V.str (SX.S l)])) p2 (.lst [V.str (SX.S l)])) (a := p3) (o := .dK (mergeK [] [((.inr (SX.S l) : Key), V.int 1)]))
  have k1 : p1 ≠ a := (ne_of_none ha n1).symm
  have k2 : p2 ≠ a := (ne_of_none (s1 _ _ ha) n2).symm
  have k3 : p3 ≠ a := (ne_of_none (s2 _ _ (s1 _ _ ha)) n3).symm
  have sA := (s1.trans s2).trans s3
  generalize upd (upd (upd H p1 (.tup [V.str (SX.S l)])) p2 (.lst [V.str (SX.S l)])) p3 (.dK (mergeK [] [((.inr (SX.S l) : Key), V.int 1)])) = G at e1 e2 e3 sA nM ⊢
  have all : l.all (· < 128) = true := List.all_eq_true.mpr fun ch hc => decide_eq_true (hch ch hc)
  refine q _ M _ (sA.trans (same_upd nM)) rfl upd_same ?_
  have up : ∀ c, c < 128 → PyProof.Rows.up1 c < 128 := fun c hc => by
    unfold PyProof.Rows.up1
    split <;> omega
  have g0 : Grw a G (upd G M (.lst [V.str (Txt.upper (SX.S l)), V.str (SX.S l ++ "1"), V.str (" " ++ SX.S l), V.str (SX.S l ++ "_"), V.str "", V.str "*1", V.non, V.int 0, V.ref p1, V.ref p2, V.ref p3, V.bl true, V.str "a\n"])) := Grw.same (same_upd nM)
  have cat1 : ∀ r : List Nat, (∀ ch ∈ r, ch < 128) → ∀ ch ∈ l ++ r, ch < 128 := fun r hr ch hc => by
    rcases List.mem_append.mp hc with m | m
    · exact hch ch m
    · exact hr ch m
  have cat2 : ∀ r : List Nat, (∀ ch ∈ r, ch < 128) → ∀ ch ∈ r ++ l, ch < 128 := fun r hr ch hc => by
    rcases List.mem_append.mp hc with m | m
    · exact hr ch m
    · exact hch ch m
  have w1 : (SX.S l ++ ("1" : Str)) = SX.S (l ++ [49]) := SX.S_cat l [49]
  have w2 : ((" " : Str) ++ SX.S l) = SX.S ([32] ++ l) := SX.S_cat [32] l
  have w3 : (SX.S l ++ ("_" : Str)) = SX.S (l ++ [95]) := SX.S_cat l [95]
  intro x hx
  refine Nm.grow ?_ g0
  simp only [List.mem_cons, List.not_mem_nil, or_false] at hx
  rcases hx with rfl | rfl | rfl | rfl | rfl | rfl | rfl | rfl | rfl | rfl | rfl | rfl | rfl
  · rw [SX.upper_S all]
    exact .S (by rw [List.length_map]; omega) fun ch hc => by
      obtain ⟨d, hd, rfl⟩ := List.mem_map.mp hc
      exact up d (hch d hd)
  · rw [w1]
    exact .S (by rw [List.length_append]; show l.length + 1 ≤ 1000; omega) (cat1 _ (by simp))
  · rw [w2]
    exact .S (by rw [List.length_append]; show 1 + l.length ≤ 1000; omega) (cat2 _ (by simp))
  · rw [w3]
    exact .S (by rw [List.length_append]; show l.length + 1 ≤ 1000; omega) (cat1 _ (by simp))
  · exact .lit (by decide +kernel)
  · exact .lit (by decide +kernel)
  · exact ⟨false, fun H2 _ => .odd (.base .non) (by decide +kernel)⟩
  · exact ⟨false, fun H2 _ => .odd (.base (.int 0)) (by decide +kernel)⟩
  · exact ⟨false, fun H2 g => .odd (.base (.tup (g _ _ k1 e1))) (by decide +kernel)⟩
  · exact ⟨false, fun H2 g => .odd (.base (.lst (g _ _ k2 e2))) (by decide +kernel)⟩
  · exact ⟨false, fun H2 g => .odd (.base (.dK (g _ _ k3 e3))) (by decide +kernel)⟩
  · exact ⟨false, fun H2 _ => .odd (.base (.bl true)) (by decide +kernel)⟩
  · exact .lit (by decide +kernel)
end
end K00

set_option autoImplicit false
set_option maxRecDepth 100000
set_option maxHeartbeats 4000000
namespace K00
open PySem PySem.Spec PyProof.Rows L2 PySem.KX KX
section
variable {P : Program} {w : World} {K : PySem.W.Frag} {mg : Str → Option Value} {base : Heap} {cs : Nat → Addr} {f c Pt : Addr} {A : Around} {outer : List Env} {s0 : Shared} {H0 : Hp} {E : XK} {k : Nat}
def u9 (K : PySem.W.Frag) : TS := fun D σ H => ∃ (a : Addr) (x y c : Int) (l : List Nat) (xs : List V) (M : Addr) (mh tl du v : Option V), σ = St0 a mh tl (some (.str (SX.S l))) du (some (.ref M)) v ∧ l.length ≤ 10 ∧ (∀ ch ∈ l, ch < 128) ∧
  H a = some (creel x y c) ∧ Cr x y c ∧ c ≤ 700 ∧ xs.length = 13 ∧ H M = some (.lst xs) ∧ (∀ x ∈ xs, Nm K a H x) ∧
  ∀ (x' c' : Int) (σ' : L2.St) (H' : Hp), Cr x' y c' → c' ≤ c + 2 → H' a = some (creel x' y c') → Grw a H H' → D.nx σ' H'
theorem right9 (R : RF P w K mg base cs) (hG : A.guards = some []) (hr : Room k (A.deeper (envOfC "_law_right" (defScope sRight) s0.heap.objs.size f (.ref c)))) (hk : 5 ≤ k) : PS (RX P w K mg base f (.ref c) A outer s0 H0 E).nox (stR 9) (u9 K) := by
  have hG2 : (A.deeper (envOfC "_law_right" (defScope sRight) s0.heap.objs.size f (.ref c))).guards = some [] := hG
  refine ps_imp (ps_for PassesOwn.never rfl (pi_list (pe_lst (pa_cons (pv 3) (pa_cons (pe_slice C8.sl_txt (pv 3) po_none (po_some pe_int)) (pa_cons pe_str (pa_cons pe_str (pa_cons pe_str (pa_cons (pe_fnc R.one hr (by omega) (by rfl) pass0 (pa_cons (pv 0) (pa_cons (pv 5) pa_nil)))
      (pa_cons (pe_op op_as pe_str (pe_fnc R.fish hr (by omega) (by rfl) pass0 (pa_cons (pv 0) (pa_cons pe_int pa_nil)))) pa_nil))))))))) (pg_name (i := 6) scRight.nd rfl (Or.inr rfl))
    (pss_one (ps_if (pt_cmpR op_ne (pe_callB (call_reprL hG2 hr.units) (by rfl) R.mRepr (by decide +kernel) (pa_cons (pe_lst (pa_cons (pe_fnc R.isn hr (by omega) (by rfl) pass0 (pa_cons (pv 6) pa_nil)) (pa_cons (pe_fnc R.isn hr (by omega) (by rfl) pass0 (pa_cons (pv 6) pa_nil)) pa_nil))) pa_nil))
        (pe_callB (call_reprL hG2 hr.units) (by rfl) R.mRepr (by decide +kernel) (pa_cons (pe_op op_rep (pe_lst (pa_cons (pe_fnc R.lin hr (by omega) (by rfl) pass0 (pa_cons (pv 6) pa_nil)) pa_nil)) pe_int) pa_nil)) (nomark _))
      (pss_one (ps_ret pe_bl)) pss_nil))) ?_
  rintro D σ H ⟨a, x, y, c, l, xs, M, mh, tl, du, v, rfl, hl, hch, ha, C, hc, h13, hM, hN, q⟩
  have z1 : sizeLine = 16777216 := sizeLine_eq
  have lz : (SX.S l).length ≤ 10 := by rw [SX.S_len]; exact hl
  have kM : M ≠ a := fun z => by
    rw [z, ha] at hM
    have e := HO.lst.inj (Option.some.inj hM)
    rw [← e] at h13
    cases h13
  refine ⟨_, rfl, _, rfl, 8, rfl, SX.S l, rfl, by omega, .ref a, rfl, .ref M, rfl, a, .ref M, x, y, c, rfl, ha, C, by omega, .inl ⟨M, xs, rfl, hM, kM, by omega, by omega, fun i x0 x1 c1 hi C1 hc1 => ?_⟩⟩
  have nx0 := hN _ (List.mem_of_getElem? hi)
  refine ⟨.ref a, rfl, a, x1, y, c1, 99, rfl, upd_same, C1, by omega, by decide, by decide, fun r x2 c2 hr0 hr1 C2 hc2 => ⟨r, rfl, rfl, hr0, hr1, (by show 7 ≤ sizeLine; decide), fun L nL => ?_⟩⟩
  rw [upd_upd] at nL
  rw [upd_upd]
  have g1 : Grw a H (upd H a (creel x2 y c2)) := Grw.upd
  have a1 : (upd H a (creel x2 y c2)) a = some (creel x2 y c2) := upd_same
  generalize upd H a (creel x2 y c2) = G at g1 a1 nL ⊢
  have e8 : Txt.slice (SX.S l) none (some 8) = SX.S (l.take 8) := SX.slice_to (by decide)
  obtain ⟨m1, m2, m3⟩ := as_ok hr0 hr1
  refine ⟨L, rfl, ⟨_, SqL.of upd_same⟩, ?_⟩
  have all : ∀ z ∈ [V.str (SX.S l), V.str (Txt.slice (SX.S l) none (some 8)), V.str "all", V.str "abcdefgh", V.str "abcdefghi", x0, V.str (Txt.mul "a" r)], Nm K a G z := by
    intro z hz
    simp only [List.mem_cons, List.not_mem_nil, or_false] at hz
    rcases hz with rfl | rfl | rfl | rfl | rfl | rfl | rfl
    · exact .S (by omega) hch
    · rw [e8]
      exact .S (by rw [List.length_take]; omega) fun ch hc => hch ch (List.mem_of_mem_take hc)
    · exact .lit (by decide +kernel)
    · exact .lit (by decide +kernel)
    · exact .lit (by decide +kernel)
    · exact nx0.grow g1
    · exact .str (by omega) m3
  generalize [V.str (SX.S l), V.str (Txt.slice (SX.S l) none (some 8)), V.str "all", V.str "abcdefgh", V.str "abcdefghi", x0, V.str (Txt.mul "a" r)] = ys at all ⊢
  have kL : L ≠ a := (ne_of_none a1 nL).symm
  have gL : Grw a G (upd G L (.lst ys)) := Grw.same (same_upd nL)
  have aL := (same_upd (o := .lst ys) nL) _ _ a1
  have eL : (upd G L (.lst ys)) L = some (.lst ys) := upd_same
  have all2 : ∀ z ∈ ys, Nm K a (upd G L (.lst ys)) z := fun z hz => (all z hz).grow gL
  have gH := g1.trans gL
  generalize upd G L (.lst ys) = F at aL eL all2 gH ⊢
  refine for_list (K := K) (a := L) (xs := ys) (fun _ σ' H' => (∃ v', σ' = St0 a mh tl (some (.str (SX.S l))) du (some (.ref M)) v') ∧ Same F H') ⟨⟨v, rfl⟩, fun _ _ e => e⟩ (fun i σ' H' _ hP => SqL.of (hP.2 _ _ eL)) (fun i z σ' H' hz hP => ?_) (fun σ' H' hP => ?_)
  · obtain ⟨⟨v', rfl⟩, s1⟩ := hP
    obtain ⟨b, nb⟩ := all2 z (List.mem_of_getElem? hz)
    have nmb : ∀ H2, Same F H2 → NameOf K H2 z b := fun H2 s2 => nb H2 (Grw.same s2)
    refine ⟨z, rfl, z, b, rfl, nmb _ s1, fun H2 s2 => ⟨z, rfl, z, b, rfl, nmb _ (s1.trans s2), fun H3 s3 => ⟨by show 2 ≤ sizeLine; decide, fun p1 n1 => ?_⟩⟩⟩
    have sA := ((s1.trans s2).trans s3).trans (same_upd (o := .lst [V.bl b, V.bl b]) n1)
    refine ⟨p1, V.bl b, [V.bl b], [.bool b, .bool b], rfl, upd_same, .cons (.bl b) (.cons (.bl b) .nil), by cases b <;> decide +kernel, by cases b <;> decide +kernel, by cases b <;> decide +kernel, ?_⟩
    refine ⟨z, rfl, z, b, rfl, nmb _ sA, fun H4 s4 => ⟨by show 1 ≤ sizeLine; decide, fun p2 n2 => ⟨p2, 2, [V.bl b], rfl, rfl, upd_same, by decide, by decide, by show 1 * 2 ≤ sizeLine; decide, fun p3 n3 => ?_⟩⟩⟩
    have sB := ((sA.trans s4).trans (same_upd (o := .lst [V.bl b]) n2)).trans (same_upd (o := .lst (List.replicate (Int.toNat 2) [V.bl b]).flatten) n3)
    refine ⟨p3, V.bl b, [V.bl b], [.bool b, .bool b], rfl, upd_same, .cons (.bl b) (.cons (.bl b) .nil), by cases b <;> decide +kernel, by cases b <;> decide +kernel, by cases b <;> decide +kernel, rfl, _, rfl, ?_⟩
    have e0 : (!decide (V.str (PyData.list [.bool b, .bool b]).shown = V.str (PyData.list [.bool b, .bool b]).shown)) = false := by simp
    rw [e0]
    exact ⟨⟨_, rfl⟩, sB⟩
  · obtain ⟨⟨v', rfl⟩, s1⟩ := hP
    exact q x2 c2 _ H' C2 (by omega) (s1 _ _ aL) (gH.trans (Grw.same s1))
def u10 : TS := fun D σ H => D.rt (.bl true) H
theorem right10 : PS (RX P w K mg base f (.ref c) A outer s0 H0 E).nox (stR 10) u10 := ps_imp (ps_ret pe_bl) fun D σ H q => q
/-- all stays but the creel at a and the tables -/
def GrwT (a : Addr) (H H' : Hp) : Prop := ∀ b o, b ≠ a → H b = some o → (∀ ps, o ≠ .tbl ps) → H' b = some o
theorem GrwT.trans {a : Addr} {H H1 H2 : Hp} (g : GrwT a H H1) (k : GrwT a H1 H2) : GrwT a H H2 := fun b o n e z => k b o n (g b o n e z) z
theorem GrwT.of {a : Addr} {H H1 : Hp} (g : Grw a H H1) : GrwT a H H1 := fun b o n e _ => g b o n e
theorem GrwT.same {a : Addr} {H H1 : Hp} (g : Same H H1) : GrwT a H H1 := fun b o _ e _ => g b o e
theorem GrwT.ext {a : Addr} {H H1 : Hp} (g : LamX.ExtN H H1) : GrwT a H H1 := fun b o _ e z => g b o e z
theorem tabs_grw {T : List (Addr × Str)} {a : Addr} {H H1 : Hp} {xs : List V} (t : LamX.Tabs T H) (e : H a = some (.lst xs)) (g : Grw a H H1) : LamX.Tabs T H1 := fun p hp => by
  obtain ⟨ps, h1, h2, h3⟩ := t p hp
  refine ⟨ps, g _ _ (fun z => by rw [z, e] at h1; cases h1) h1, h2, fun pos cv hc => ?_⟩
  obtain ⟨c, e1, e2⟩ := h3 pos cv hc
  exact ⟨c, e1, g _ _ (fun z => by rw [z, e] at e2; unfold LamX.CodeO at e2; cases e2) e2⟩
def spRight (Pt : Addr) : Sp := fun vs H Q _ => ∃ (a : Addr) (x y c : Int), vs = [.ref a] ∧ H a = some (creel x y c) ∧ Cr x y c ∧ c ≤ 400 ∧ LamX.Tabs [(Pt, lamQ)] H ∧
  ∀ (x' c' : Int) (H' : Hp), Cr x' y c' → c' ≤ c + 20 → H' a = some (creel x' y c') → GrwT a H H' → LamX.Tabs [(Pt, lamQ)] H' → Q (.bl true) H'
end
end K00

set_option autoImplicit false
set_option maxRecDepth 100000
set_option maxHeartbeats 4000000
namespace K00
open PySem PySem.Spec PyProof.Rows L2 PySem.KX KX
section
variable {P : Program} {w : World} {K : PySem.W.Frag} {mg : Str → Option Value} {base : Heap} {cs : Nat → Addr} {f c Pt : Addr}
/-- a promise of a def that runs with no repr underway -/
def RunG (P : Program) (w : World) (K : PySem.W.Frag) (mg : Str → Option Value) (base : Heap) (k : Nat) (f : Addr) (fd : FuncData) (ps : List Str) (sp : Sp) : Prop :=
  ∀ (A : Around) (outer : List Env) (s : Shared) (H : Hp) (args : Args) (us : List Value) (vs : List V) (Q : VK) (E : XK), A.guards = some [] → Room k A → Env0 P w K mg base A outer s H → BindsTo s fd args (ps.zip us) → Vals vs us → vs.length = ps.length → sp vs H Q E →
    codeAny (model P w) A (.call (.ref f) args) (CR CX0 outer P w H s Q E) s
theorem right_run {oc kV doc pm ct : Value} {od an : Option Addr} {osl : Array (Option Value)} (lk : K.lookup f = some ⟨oc, od, .func (PySem.W.fnOf "_law_right" "_law_right" (defArgs sRight) (defBody sRight) (defScope sRight) .none kV doc pm an (.ref c) ct), osl⟩)
    (hcd : PySem.W.codeIn K (.ref c) "_law_right" = true) (R : RF P w K mg base cs) (TB : LamX.TabB base mg c Pt) :
    RunG P w K mg base 6 f (PySem.W.fnOf "_law_right" "_law_right" (defArgs sRight) (defBody sRight) (defScope sRight) .none kV doc pm an (.ref c) ct) ["_law_creel_here"] (spRight Pt) := by
  intro A outer s H args us vs Q E hG hr e0 hb r hl hsp
  refine LamX.run_ofS (N := NR) lk hcd scRight hr e0 hb r hl fun hr' => ?_
  refine ⟨_, (pss_cons (right0 R hr' (by omega)) (pss_cons (right1 R hr' (by omega)) (pss_cons (right2 R hr' (by omega)) (pss_cons (right3 R TB hr' (by omega)) (pss_cons (right4 R TB hr' (by omega)) (pss_cons (right5 R hr' (by omega)) (pss_cons (right6 R hG hr' (by omega))
    (pss_cons (right7 R hr' (by omega)) (pss_cons (right8 R hr' (by omega)) (pss_cons (right9 R hG hr' (by omega)) (pss_one right10)))))))))) : PSs (RX P w K mg base f (.ref c) A outer s H E).nox (defBody sRight) _).nox, ?_⟩
  obtain ⟨a, x, y, c0, rfl, ha, C, hc, hT, q⟩ := hsp
  refine ⟨a, x, y, c0, rfl, ha, C, by omega, fun v d x1 c1 H1 ok C1 hc1 ha1 g1 sh => ?_⟩
  refine ⟨a, v, rfl, fun ps L H2 s2 hL hx => ?_⟩
  refine ⟨a, v, ps, L, rfl, hL, hx, fun H3 s3 => ?_⟩
  have t3 := ((tabs_grw hT ha g1).ext s2).ext s3
  refine ⟨a, v, _, rfl, t3, fun qs L2 H4 x4 t4 e4 f4 => ?_⟩
  refine ⟨a, v, _, L2, _, rfl, t4, e4, by simp, fun rs L3 H5 x5 t5 e5 f5 => ?_⟩
  refine ⟨a, v, _, _, rfl, fun ts C2 M H6 s6 e6 f6 gC => ?_⟩
  have eu : upd H1 a (creel x1 y c1) = H1 := funext fun b => by
    by_cases hb : b = a
    · subst hb
      rw [upd_same, ha1]
    · rw [upd_ne hb]
  have sh1 := sh (creel x1 y c1)
  rw [eu] at sh1
  have gT : LamX.ExtN H1 H6 := ((((LamX.ExtN.of s2).trans (.of s3)).trans x4).trans x5).trans (.of s6)
  have ha6 := gT _ _ ha1 fun _ z => nomatch z
  refine ⟨a, v, d, _, L3, M, qs, rs, ts, C2, rfl, ok, sh1.grow gT, s6 _ _ e5, fun i hi => s6 _ _ (x5 _ _ (f4 i hi) fun _ z => nomatch z), fun i hi => s6 _ _ (f5 i hi), e6, f6, gC, ?_⟩
  refine ⟨a, x1, y, c1, _, _, _, _, rfl, ha6, C1, by omega, fun l x2 c2 H7 hl hch C2 hc2 ha7 g7 => ?_⟩
  refine ⟨a, l, _, _, _, _, _, rfl, hl, hch, ha7, fun xs M2 H8 s8 h13 eM hN => ?_⟩
  refine ⟨a, x2, y, c2, l, xs, M2, _, _, _, _, rfl, hl, hch, s8 _ _ ha7, C2, by omega, h13, eM, hN, fun x3 c3 σ' H9 C3 hc3 ha9 g9 => ?_⟩
  exact q x3 c3 H9 C3 (by omega) ha9 (((((GrwT.of g1).trans (.ext gT)).trans (.of g7)).trans (.same s8)).trans (.of g9)) (tabs_grw ((tabs_grw (t5.ext s6) ha6 g7).ext s8) (s8 _ _ ha7) g9)
end
end K00

set_option autoImplicit false
set_option maxRecDepth 100000
set_option maxHeartbeats 4000000
namespace K00
open PySem PySem.Spec PyProof.Rows L2 PySem.KX KX
abbrev sLaw : Stmt := topS 33
abbrev NL : List Str := ["_law_script", "_law_at", "_law_creel_here", "_law_turn"]
theorem scLaw : FnScope NL ["_law_script"] (defScope sLaw) :=
  ⟨rfl, rfl, rfl, by decide +kernel, rfl, by decide +kernel, by decide +kernel⟩
section
variable {X : Cx} {k : Nat} {f : Addr} {fd : FuncData} {ps : List Str} {sp : Sp} {x n : Str} {p pos : Pos} {e : Expr} {es : List Expr} {te : TE} {t : TA}
/-- a call where no repr is underway -/
theorem pe_runG (F : RunG X.prog X.w X.K X.mg X.base k f fd ps sp) (hG : X.A.guards = some []) (hr : Room k X.A) (hg : Gl X x) (hm : X.mg x = some (.ref f)) (hk : PySem.W.keepIn X.K (.ref f) = true) (hb : Binds X.K fd ps []) (ha : PA X (e :: es) t)
    (hdb : (x == ("__debug__" : Str)) = false := by decide) (he : starEach (e :: es) X.env = (false, eval e X.env) :: starEach es X.env := by rfl) (hpl : (backTo pos (starEach es X.env)).any (·.1) = false := by rfl) :
    PE X (.Call (.Name x p) (e :: es) [] pos) (fun σ H Q => t σ H fun vs H1 => vs.length = ps.length ∧ sp vs H1 Q E0) := by
  refine ⟨fun pins s σ H Q I h => ?_⟩
  refine wpAny_Call_Name_kw (ld_glob I hg hm ?_ hdb)
  refine PySem.W.callWith_K (h₀ := X.base) I.ok.mod.kin hk (thn (ha.run pos pins s σ H _ I h) fun us s1 ⟨vs, H1, I1, r, hl, q⟩ => ⟨I1.kIn, ?_⟩) he hpl
  have bt : BindsTo s1 fd ⟨us, []⟩ (ps.zip us) := by
    have z := hb s1 us I1.kIn (by rw [List.append_nil, ← r.length]; exact hl)
    rw [List.append_nil] at z
    exact z
  refine wpAny_call (codeAny_mono (F X.A X.stack s1 H1 ⟨us, []⟩ us vs Q E0 hG hr I1.env0 bt r hl q) fun o s' hq => ?_)
  match o, hq with
  | .ok (.ret u), hq => exact I1.after hq
  | .ok .next, hq => exact False.elim hq
  | .ok .brk, hq => exact False.elim hq
  | .ok .cont, hq => exact False.elim hq
  | .error u, hq => exact False.elim hq
/-- a field of an exception that is held -/
theorem pe_xfH (he : PE X e te) (hb : attributeBase e n X.env (eval e X.env) = eval e X.env := by rfl) :
    PE X (.Attribute e n pos) (fun σ H Q => te σ H fun v H1 => ∃ (a C d : Addr) (fs : List (Str × V)) (y : V), v = .ref a ∧ H1 a = some (exo a C (some d)) ∧ H1 d = some (exd d fs) ∧ XfC X.K C ∧ PySem.W.findIn X.K (.ref C) n = some none ∧ fs.lookup n = some y ∧ Q y H1) := by
  refine ⟨fun pins s σ H Q I h => ?_⟩
  refine attr_of hb (thn (he.run pins s σ H _ I h) fun u s1 hh => ?_)
  obtain ⟨v, H1, I1, rx, a, C, d, fs, y, rfl, ha, hd, T, hno, l, q⟩ := hh
  obtain rfl : u = Value.ref a := rx
  obtain ⟨t1, ho⟩ := exo_at I1.hok ha
  obtain ⟨mA, hns, hr⟩ := exd_at I1.hok hd
  obtain ⟨od, hod, hl⟩ := lookIn_ns hns
  obtain ⟨u, hu, ru⟩ := RelO.some_of (v := y) (o := mA n) (by rw [← l]; exact hr n)
  have J : PySem.W.InstAt s1.heap a _ C (some od) := ⟨ho, rfl, rfl, hod⟩
  exact HandSPX.exc_get I1.kIn J T.ga T.gg T.exC (PySem.W.findObj_own T.hdC hno rfl (by rw [hl, hu])) (handed_of ru) ⟨y, H1, I1.tok _, ru, q⟩
end
/-- what the law calls -/
structure LF (P : Program) (w : World) (K : PySem.W.Frag) (mg : Str → Option Value) (base : Heap) (cs : Nat → Addr) (Pt : Addr) : Prop where
  creel : Fnc P w K mg base CX0 1 "_law_creel" ["_law_script", "_law_at"] (spCreel K)
  isn : Fnc P w K mg base CX0 1 "is_name" ["value"] (spName K)
  right : ∃ (f : Addr) (fd : FuncData), RunG P w K mg base 6 f fd ["_law_creel_here"] (spRight Pt) ∧ Binds K fd ["_law_creel_here"] [] ∧ mg "_law_right" = some (.ref f) ∧ PySem.W.keepIn K (.ref f) = true
  c0 : MkG P w K mg base "ParseError" "index" (cs 0)
  cau : Cau K mg cs
  mRange : mg "range" = none
  mMax : mg "max" = none
  mMin : mg "min" = none
  mLen : mg "len" = none
def spLaw (K : PySem.W.Frag) (Pt : Addr) : Sp := fun vs H Q _ => ∃ (a : Addr) (ns : List Int), vs = [.ref a] ∧ SqL K H a (ns.map V.int) ∧ ns.length ≤ 63 ∧ H Pt = some (.tbl #[]) ∧ ∀ H', Q (.bl true) H'
theorem sql_keep {K : PySem.W.Frag} {H H' : Hp} {a : Addr} {xs : List V} (s : SqL K H a xs) (g : ∀ o, H a = some o → (∀ ps, o ≠ .tbl ps) → H' a = some o) : SqL K H' a xs := by
  rcases s with (h | ⟨o, h⟩) | h
  · exact .inl (.inl (g _ h fun _ z => nomatch z))
  · exact .inl (.inr ⟨o, g _ h fun _ z => nomatch z⟩)
  · exact .inr h
/-- the script's list, beside a creel at p -/
def ScP (K : PySem.W.Frag) (a : Addr) (xs : List V) (p : Addr) (H : Hp) : Prop := SqL K (fun _ => none) a xs ∨ (a ≠ p ∧ Rd H a (.lst xs))
theorem sc_new {K : PySem.W.Frag} {a p : Addr} {xs : List V} {H : Hp} {o : HO} (s : SqL K H a xs) (n : H p = none) : ScP K a xs p (upd H p o) := by
  rcases s with h | h
  · refine .inr ?_
    rcases h with h | ⟨u, h⟩
    · exact ⟨ne_of_none h n, .inl (by rw [upd_ne (ne_of_none h n)]; exact h)⟩
    · exact ⟨ne_of_none h n, .inr ⟨u, by rw [upd_ne (ne_of_none h n)]; exact h⟩⟩
  · exact .inl (.inr h)
theorem sc_sql {K : PySem.W.Frag} {a p : Addr} {xs : List V} {H : Hp} (s : ScP K a xs p H) : SqL K H a xs := by
  rcases s with (h | h) | h
  · rcases h with h | ⟨u, h⟩
    · cases h
    · cases h
  · exact .inr h
  · exact .inl h.2
theorem sc_keep {K : PySem.W.Frag} {a p : Addr} {xs : List V} {H H' : Hp} (s : ScP K a xs p H) (g : GrwT p H H') : ScP K a xs p H' := by
  rcases s with h | ⟨n, h | ⟨u, h⟩⟩
  · exact .inl h
  · exact .inr ⟨n, .inl (g _ _ n h fun _ z => nomatch z)⟩
  · exact .inr ⟨n, .inr ⟨u, g _ _ n h fun _ z => nomatch z⟩⟩
section
variable {P : Program} {w : World} {K : PySem.W.Frag} {mg : Str → Option Value} {base : Heap} {cs : Nat → Addr} {f c Pt : Addr}
theorem law_run {oc kV doc pm cdv ct : Value} {od an : Option Addr} {osl : Array (Option Value)} (lk : K.lookup f = some ⟨oc, od, .func (PySem.W.fnOf "law" "law" (defArgs sLaw) (defBody sLaw) (defScope sLaw) .none kV doc pm an cdv ct), osl⟩)
    (hcd : PySem.W.codeIn K cdv "law" = true) (L : LF P w K mg base cs Pt) :
    RunG P w K mg base 7 f (PySem.W.fnOf "law" "law" (defArgs sLaw) (defBody sLaw) (defScope sLaw) .none kV doc pm an cdv ct) ["_law_script"] (spLaw K Pt) := by
  intro A outer s H args us vs Q E hG hr e0 hb r hl hsp
  obtain ⟨fR, dR, FR, bR, mR, kR⟩ := L.right
  refine LamX.run_ofS (N := NL) lk hcd scLaw hr e0 hb r hl fun hr' => ?_
  have hG2 : (A.deeper (envOfC "law" (defScope sLaw) s.heap.objs.size f cdv)).guards = some [] := hG
  refine ⟨_, (pss_cons (ps_for PassesOwn.never rfl (pi_range1 (by rfl) L.mRange (pa_cons (pe_callB (call_max2 rfl) (by rfl) L.mMax (by decide +kernel) (pa_cons pe_int (pa_cons (pe_callB (call_min2 rfl) (by rfl) L.mMin (by decide +kernel) (pa_cons pe_int (pa_cons (pe_callB call_len_seq (by rfl) L.mLen PySem.boot_len (pa_cons (pv 0) pa_nil)) pa_nil))) pa_nil))) pa_nil))
        (pg_name (i := 1) scLaw.nd rfl (Or.inl rfl))
        (pss_cons (ps_set (i := 2) scLaw.nd rfl (.inl rfl) (pe_fnc L.creel hr' (by omega) (by rfl) pass0 (pa_cons (pv 0) (pa_cons (pv 1) pa_nil))))
          (pss_one (ps_for PassesOwn.never rfl (pi_range1 (by rfl) L.mRange (pa_cons pe_int pa_nil)) (pg_name (i := 3) scLaw.nd rfl (Or.inl rfl))
            (pss_one (ps_if (pt_not (pt_val (pe_runG FR hG2 hr' (by rfl) mR kR bR (pa_cons (pv 2) pa_nil)))) (pss_one (ps_ret pe_bl)) pss_nil))))))
      (pss_one (ps_ret (pe_and (pe_cmpR op_isN (pe_xfH (pe_mkG L.c0 (hr'.mono (by omega)) pass0 (by rfl) pe_non)) pe_non (nomark _))
        (pe_and (pe_fnc L.isn hr' (by omega) (by rfl) pass0 (pa_cons pe_str pa_nil)) (pe_one (pe_not (pe_fnc L.isn hr' (by omega) (by rfl) pass0 (pa_cons pe_str pa_nil)))))))) : PSs (cxOf CX0 P w K mg base NL "law" (defScope sLaw) f cdv A outer s H E).nox (defBody sLaw) _).nox, ?_⟩
  obtain ⟨a, ns, rfl, hS, h63, hT, q⟩ := hsp
  have n1 : ∀ m : Nat, (if (if (m : Int) < 4 then (m : Int) else 4) > 1 then (if (m : Int) < 4 then (m : Int) else 4) else 1) ≤ 4 ∧ 0 ≤ (if (if (m : Int) < 4 then (m : Int) else 4) > 1 then (if (m : Int) < 4 then (m : Int) else 4) else 1) := fun m => by
    split <;> split <;> omega
  obtain ⟨j1, j0⟩ := n1 (ns.map V.int).length
  refine ⟨.ref a, rfl, a, ns.map V.int, rfl, .inl hS, 4, _, rfl, 1, _, rfl, _, rfl, by omega, by omega, ?_⟩
  generalize (if (if (((ns.map V.int).length : Nat) : Int) < 4 then (((ns.map V.int).length : Nat) : Int) else 4) > 1 then (if (((ns.map V.int).length : Nat) : Int) < 4 then (((ns.map V.int).length : Nat) : Int) else 4) else 1) = j at j0 j1 ⊢
  have t0 : LamX.Tabs [(Pt, lamQ)] H := fun p hp => by
    rw [List.mem_singleton.mp hp]
    exact .nil hT
  refine for_range (fun _ σ' H' => (∃ r1 r2 r3, σ' = [some (.ref a), r1, r2, r3]) ∧ SqL K H' a (ns.map V.int) ∧ LamX.Tabs [(Pt, lamQ)] H') ⟨⟨none, none, none, rfl⟩, hS, t0⟩ (fun i σ' H1 hi hP => ?_) (fun σ' H1 hP => ?_)
  · obtain ⟨⟨r1, r2, r3, rfl⟩, S1, T1⟩ := hP
    refine ⟨.ref a, rfl, _, rfl, a, ns, 0 + (i : Int), rfl, S1, h63, by omega, by omega, fun p x y C np => ?_⟩
    refine ⟨2, rfl, by decide, by decide, ?_⟩
    refine for_range (fun m σ' H' => ∃ (x c : Int) (r1 r3 : Option V), σ' = [some (.ref a), r1, some (.ref p), r3] ∧ H' p = some (creel x y c) ∧ Cr x y c ∧ c ≤ 20 * (m : Int) ∧ ScP K a (ns.map V.int) p H' ∧ LamX.Tabs [(Pt, lamQ)] H')
      ⟨x, 0, _, _, rfl, upd_same, C, by omega, sc_new S1 np, T1.ext (same_upd np)⟩ (fun m σ' H' hm hP => ?_) (fun σ' H' hP => ?_)
    · obtain ⟨x1, c1, q1, q3, rfl, e1, C1, l1, S2, T2⟩ := hP
      have hm2 : m < 2 := hm
      refine ⟨.ref p, rfl, rfl, p, x1, y, c1, rfl, e1, C1, by omega, T2, fun x2 c2 H2 C2 l2 e2 g2 T3 => ⟨true, rfl, ?_⟩⟩
      exact ⟨x2, c2, _, _, rfl, e2, C2, by omega, sc_keep S2 g2, T3⟩
    · obtain ⟨x1, c1, q1, q3, rfl, e1, C1, l1, S2, T2⟩ := hP
      exact ⟨⟨_, _, _, rfl⟩, sc_sql S2, T2⟩
  · obtain ⟨⟨r1, r2, r3, rfl⟩, S1, T1⟩ := hP
    have z8 : ∀ ch ∈ ("zzzzzzzz" : Str).cps.toList, ch < 0x110000 := fun ch hc => of_decide_eq_true (List.all_eq_true.mp (by decide +kernel : (("zzzzzzzz" : Str).cps.toList.all fun ch => decide (ch < 0x110000)) = true) ch hc)
    have z9 : ∀ ch ∈ ("zzzzzzzzz" : Str).cps.toList, ch < 0x110000 := fun ch hc => of_decide_eq_true (List.all_eq_true.mp (by decide +kernel : (("zzzzzzzzz" : Str).cps.toList.all fun ch => decide (ch < 0x110000)) = true) ch hc)
    have b8 : nameS "zzzzzzzz" = true := by decide +kernel
    have b9 : nameS "zzzzzzzzz" = false := by decide +kernel
    refine ⟨by show 1 ≤ 1000; decide, fun a0 n0 => new_in n0 fun d0 H2 s2 h0 k0 => ⟨a0, cs 0, d0, _, .non, rfl, h0, k0, L.cau.xf 0 (by decide), L.cau.no 0 (by decide), by simp [List.lookup], rfl, _, rfl, ?_⟩⟩
    rw [if_pos (by decide)]
    refine ⟨_, nameS "zzzzzzzz", rfl, .str _ (by decide) z8, fun H3 s3 => ⟨_, rfl, ?_⟩⟩
    rw [if_pos b8]
    refine ⟨_, nameS "zzzzzzzzz", rfl, .str _ (by decide) z9, fun H4 s4 => ⟨_, rfl, ?_⟩⟩
    rw [b9]
    exact q H4
end
end K00

set_option autoImplicit false
set_option maxRecDepth 100000
set_option maxHeartbeats 4000000
namespace K00
open PySem PySem.Spec PyProof.Rows L2 PySem.KX KX
/-- what is tracked at the law's call: one empty table, and the script unless it is written at the top -/
def entryH (K : PySem.W.Frag) (a Pt : Addr) (u : HO) : Hp := fun b => if b = Pt then some (.tbl #[]) else if b = a ∧ K.lookup a = none then some u else none
section
variable {K : PySem.W.Frag} {a Pt b : Addr} {u : HO}
theorem entry_tab : entryH K a Pt u Pt = some (.tbl #[]) := if_pos rfl
theorem entry_some {z : HO} (e : entryH K a Pt u b = some z) : (b = Pt ∧ z = .tbl #[]) ∨ (b = a ∧ K.lookup a = none ∧ z = u) := by
  unfold entryH at e
  by_cases h1 : b = Pt
  · rw [if_pos h1] at e
    exact .inl ⟨h1, (Option.some.inj e).symm⟩
  · rw [if_neg h1] at e
    by_cases h2 : b = a ∧ K.lookup a = none
    · rw [if_pos h2] at e
      exact .inr ⟨h2.1, h2.2, (Option.some.inj e).symm⟩
    · rw [if_neg h2] at e
      cases e
end
section
variable {P : Program} {w : World} {K : PySem.W.Frag} {mg mb : Str → Option Value} {k : Nat} {fa a c Pt : Addr} {fd : FuncData} {x : Str} {sp : Sp} {s₁ : Shared} {vs : List Value} {ns : List Int}
theorem end_of (kin : K.In s₁.heap) (glob : s₁.heap.Ns mainGlobals mg) (bltn : s₁.heap.Ns builtinsNs mb) (same : ∀ y : Str, y ≠ "__name__" → mb y = bootBuiltins y) (lim : s₁.heap.NoLimit) (nog : s₁.gens = #[])
    (tab : s₁.heap.get? Pt = some { cls := .none, data := .fields #[] }) (out : K.lookup Pt = none) (cod : PySem.W.CodeHd s₁.heap c Pt)
    (mod : ∃ (m : Addr) (om : Obj), mg "__builtins__" = some (.ref m) ∧ m ≠ builtinsNs ∧ s₁.heap.get? m = some om ∧ om.cls = .type "module" ∧ om.dict = some builtinsNs ∧ om.data = .plain)
    (obj : s₁.heap.get? a = some { cls := .type "list", data := .seq vs.toArray }) (nums : IntsAre vs ns) (few : ns.length ≤ sizeLine) (room : Room k callerA)
    (run : ∀ base : Heap, K.In base → base.Ns mainGlobals mg → LamX.TabB base mg c Pt → RunG P w K mg base k fa fd [x] sp) (binds : ∀ (s : Shared) (u : Value), BindsTo s fd ⟨[u], []⟩ [(x, u)])
    (want : ∀ H : Hp, H Pt = some (.tbl #[]) → SqL K H a (ns.map V.int) → sp [.ref a] H (fun v _ => v = .bl true) E0) :
    codeAny (model P w) callerA (.call (.ref fa) ⟨[.ref a], []⟩) (fun r s' => r = .ok (.ret (.bool true)) ∧ OldK s₁.heap s'.heap ∧ s'.os = s₁.os ∧ AllBare s'.gens) s₁ := by
  have apart : a ≠ Pt := fun z => by
    rw [z, tab] at obj
    have y := congrArg Obj.data (Option.some.inj obj)
    cases y
  let lo : Obj := { cls := .type "list", data := .seq vs.toArray }
  let G : Hp := entryH K a Pt (.frz lo (.lst (ns.map V.int)))
  have rel := vals_ints nums
  have ok : HOk P w G s₁.heap := fun b z e => by
    rcases entry_some e with ⟨rfl, rfl⟩ | ⟨rfl, _, rfl⟩
    · exact tab
    · exact ⟨obj, by rw [List.length_map]; exact few, vs, _, rel, obj⟩
  have sees : SqL K G a (ns.map V.int) := by
    cases e : K.lookup a with
    | none => exact .inl (.inr ⟨lo, by show entryH K a Pt _ a = _; unfold entryH; rw [if_neg apart, if_pos ⟨rfl, e⟩]⟩)
    | some o =>
      have y := kin a o e
      rw [obj] at y
      cases y
      exact .inr ⟨_, vs.toArray, _, e, rfl, rfl, rfl, by rw [List.size_toArray, nums.length]; exact few, by simpa using rel⟩
  have untracked : ∀ {b : Addr} {o : Obj}, s₁.heap.get? b = some o → (∀ q m, o.data ≠ .seq q m) → o.data ≠ .fields #[] → G b = none := fun {b o} e n1 n2 => by
    cases z : G b with
    | none => rfl
    | some u =>
      exfalso
      rcases entry_some z with ⟨rfl, _⟩ | ⟨rfl, _, _⟩
      · rw [tab] at e
        cases e
        exact n2 rfl
      · rw [obj] at e
        cases e
        exact n1 _ _ rfl
  have dicts : ∀ {b : Addr} {m : Str → Option Value}, s₁.heap.Ns b m → (hidT s₁.heap G).Ns b m := fun {b m} y => by
    obtain ⟨o, es, ep, e, d, r⟩ := y
    refine ⟨o, es, ep, hidT_get e (untracked e (fun q m z => ?_) fun z => ?_), d, r⟩ <;> (rw [d] at z; cases z)
  have kinG : K.In (hidT s₁.heap G) := fun b o e => hidT_get (kin b o e) (by
    cases z : G b with
    | none => rfl
    | some u =>
      exfalso
      rcases entry_some z with ⟨rfl, _⟩ | ⟨rfl, n, _⟩
      · rw [out] at e
        cases e
      · rw [n] at e
        cases e)
  have tabB : LamX.TabB (hidT s₁.heap G) mg c Pt := by
    refine ⟨?_, ?_, fun z => ?_⟩
    · obtain ⟨o, us, fl, tf, fg, tg, inF, tx, tt, e, q1, q2, q3, q⟩ := cod
      refine ⟨o, us, fl, tf, fg, tg, inF, tx, tt, hidT_get e (untracked e (fun y m z => ?_) fun z => ?_), q1, q2, q3, q⟩
      · rw [q2] at z
        cases z
      · rw [q2] at z
        cases z
        simp at q3
    · obtain ⟨m, om, m1, m2, m3, m4, m5, m6⟩ := mod
      refine ⟨m, om, m1, m2, fun z => ?_, fun z => ?_, hidT_get m3 (untracked m3 (fun y n z => ?_) fun z => ?_), m4, m5, m6⟩
      · obtain ⟨o, es, ep, e, d, _⟩ := glob
        rw [← z, m3] at e
        cases e
        rw [m6] at d
        cases d
      · rw [z, tab] at m3
        cases m3
        cases m6
      · rw [m6] at z
        cases z
      · rw [m6] at z
        cases z
    · obtain ⟨o, es, ep, e, d, _⟩ := glob
      rw [z, tab] at e
      cases e
      cases d
  have mods : Mod K mg (hidT s₁.heap G) := by
    obtain ⟨mc, l1, l2⟩ := lim
    exact ⟨kinG, dicts glob, ⟨mb, dicts bltn, same⟩, ⟨mc, dicts l1, l2⟩⟩
  have env : Env0 P w K mg (hidT s₁.heap G) callerA [] s₁ G := by
    refine ⟨rfl, mods, fun b o e => of_hidT e, Nat.le_of_eq (hidT_size _ _), trivial, fun b z => ?_, ok, .of_eq nog⟩
    cases (show b ∈ ([] : List Addr) from z)
  refine codeAny_mono (run _ kinG (dicts glob) tabB callerA [] s₁ G ⟨[.ref a], []⟩ [.ref a] [.ref a] _ E0 rfl room env (binds s₁ (.ref a)) (.cons rfl .nil) rfl (want G entry_tab sees)) fun r s' h => ?_
  match r, h with
  | .error e, h => exact False.elim h
  | .ok .next, h => exact False.elim h
  | .ok .brk, h => exact False.elim h
  | .ok .cont, h => exact False.elim h
  | .ok (.ret u), h =>
    obtain ⟨v, H', os, bare, un, ok', r', q⟩ := h
    obtain rfl : v = .bl true := q
    obtain rfl : u = Value.bool true := r'
    have kept : ∀ b o, b ≠ Pt → s₁.heap.get? b = some o → s'.heap.get? b = some o := fun b o n e => by
      cases z : G b with
      | none => exact un.keep b o e z (fun y => by cases (show b ∈ ([] : List Addr) from y)) (by simp)
      | some u =>
        rcases entry_some z with ⟨y, _⟩ | ⟨rfl, _, rfl⟩
        · exact absurd y n
        · obtain ⟨y1, _⟩ := ok' b _ (un.frzs b _ _ z)
          rw [obj] at e
          cases e
          exact y1
    obtain ⟨more, hm⟩ := un.tbls Pt #[] entry_tab
    have grown : s'.heap.get? Pt = some { cls := .none, data := .fields (#[] ++ more) } := ok' Pt _ hm
    refine ⟨rfl, ⟨fun b o e => ?_, fun b o e => ?_⟩, os, bare⟩
    · by_cases y : b = Pt
      · subst y
        rw [tab] at e
        cases e
        exact .inr (.inl ⟨(cod.tab tab).isCodeTable, rfl, #[], more, rfl, grown⟩)
      · exact .inl (kept b o y e)
    · by_cases y : b = Pt
      · subst y
        exact ⟨_, grown⟩
      · exact ⟨o, kept b o y e⟩
end
end K00

set_option autoImplicit false
set_option maxRecDepth 100000
set_option maxHeartbeats 4000000
namespace K00
open PySem PySem.Spec PyProof.Rows L2 PySem.KX KX
/-- a class of exceptions over a built-in one, whose mro ends in tl -/
def overB (K : PySem.W.Frag) (C : Addr) (tl : List Value) (mk : String) : Bool :=
  match K.lookup C with
  | some ⟨.type t, _, .cls y, z⟩ => t == "type" && !y.hasDel && y.hasDict &&
    (match y.mro with
      | .ref D :: m => D == C && PySem.W.excTail tl m
      | _ => false) &&
    (match z.toList with
      | [_, _, _, _, some (.builtin n), _] => n == mk
      | _ => false)
  | _ => false
theorem over_obj {K : PySem.W.Frag} {C : Addr} {tl : List Value} {mk : String} (q : overB K C tl mk = true) :
    ∃ nm q N bs bm sn sub ab col dd k0 k1 k2 k3 k5, K.lookup C = some (excClassObj nm q C N bs bm true sn sub ab col dd k0 k1 k2 k3 k5 mk) ∧ PySem.W.excTail tl bm = true := by
  unfold overB at q
  split at q
  · rename_i t dd y z e
    simp only [Bool.and_eq_true, beq_iff_eq, Bool.not_eq_true'] at q
    obtain ⟨⟨⟨⟨rfl, hdel⟩, hdct⟩, q1⟩, q2⟩ := q
    obtain ⟨nm, bs, mro, N, qn, hd, sn, sub, ab, col, del⟩ := y
    obtain ⟨z⟩ := z
    dsimp only at hdel hdct q1 q2
    subst hdel hdct
    split at q1
    · rename_i D m
      rw [Bool.and_eq_true, beq_iff_eq] at q1
      obtain ⟨rfl, q1⟩ := q1
      split at q2
      · rename_i k0 k1 k2 k3 n k5
        rw [beq_iff_eq] at q2
        subst q2
        exact ⟨nm, qn, N, bs, m, sn, sub, ab, col, dd, k0, k1, k2, k3, k5, e, q1⟩
      · cases q2
    · cases q1
  · cases q
theorem exg_of {K : PySem.W.Frag} {C : Addr} {tl : List Value} {Bn mk Bi : String} (q : overB K C tl mk = true) (ps : ∀ self, refuseLoop self "__setattr__" tl = pure ())
    (b1 : (tl.contains (.type Bn) && !tl.contains (.type "AttributeError") && !tl.contains (.type "NameError") && tl.contains (.type Bi) && tl.contains (.type "object")) = true) (sa : PySem.W.findIn K (.ref C) "__setattr__" = some (some (.builtin "object.__setattr__")))
    (exC : PySem.W.subIn K (.ref C) (.type "BaseException") = some true) (tyC : PySem.W.typeIn K (.ref C) = some (.type "type")) (kC : PySem.W.keepIn K (.ref C) = true) : ExG K C Bn mk Bi := by
  obtain ⟨nm, qn, N, bs, bm, sn, sub, ab, col, dd, k0, k1, k2, k3, k5, e, t⟩ := over_obj q
  simp only [Bool.and_eq_true, Bool.not_eq_true'] at b1
  obtain ⟨⟨⟨⟨c1, c2⟩, c3⟩, c4⟩, c5⟩ := b1
  have cc := fun y => PySem.W.excTail_contains (bmB := tl) y bm t
  exact ⟨⟨nm, qn, N, bs, bm, sn, sub, ab, col, dd, k0, k1, k2, k3, k5, e, ⟨by rw [cc]; exact c1, by rw [cc]; exact c2, by rw [cc]; exact c3⟩, by rw [cc]; exact c4, by rw [cc]; exact c5, fun self => PySem.W.excTail_pass self (ps self) bm t⟩, sa, exC, tyC, kC⟩

theorem pass1 (self : Value) : refuseLoop self "__setattr__" [.type "ValueError", .type "Exception", .type "BaseException", .type "object"] = pure () := by kernel_rfl
theorem pass2 (self : Value) : refuseLoop self "__setattr__" [.type "IndexError", .type "LookupError", .type "Exception", .type "BaseException", .type "object"] = pure () := by kernel_rfl
theorem pass3 (self : Value) : refuseLoop self "__setattr__" [.type "KeyError", .type "LookupError", .type "Exception", .type "BaseException", .type "object"] = pure () := by kernel_rfl
theorem pass4 (self : Value) : refuseLoop self "__setattr__" [.type "LookupError", .type "Exception", .type "BaseException", .type "object"] = pure () := by kernel_rfl
theorem pass5 (self : Value) : refuseLoop self "__setattr__" [.type "OverflowError", .type "ArithmeticError", .type "Exception", .type "BaseException", .type "object"] = pure () := by kernel_rfl
theorem pass6 (self : Value) : refuseLoop self "__setattr__" [.type "ArithmeticError", .type "Exception", .type "BaseException", .type "object"] = pure () := by kernel_rfl
/-- what is asked of the sixteen classes together -/
def kitB16 (K : PySem.W.Frag) (cs : Nat → Addr) : Bool := (List.range 16).all fun k => (List.range 22).all fun j => PySem.W.kitOne K (.ref (cs k)) (tgt cs j) == some ((dueB (k : Int)).getD j false)
def exmB16 (K : PySem.W.Frag) (cs : Nat → Addr) : Bool := (List.range 16).all fun k => (List.range 16).all fun j => PySem.W.exmOne K (.ref (cs k)) (.ref (cs j)) == some ((dueB (k : Int)).getD j false)
def excB (K : PySem.W.Frag) (D : Addr) : Bool := decide (PySem.W.findIn K (.ref D) "__getattribute__" = some (some (.builtin "BaseException.__getattribute__"))) && decide (PySem.W.findIn K (.ref D) "__getattr__" = some none) && decide (PySem.W.subIn K (.ref D) (.type "BaseException") = some true) &&
  PySem.W.hasDictIn K D && decide (PySem.W.findIn K (.ref D) "__class__" = some (some (.builtin "object.__class__"))) && decide (PySem.W.specialIn K (.builtin "object.__class__") "__get__" = some (some (.builtin "getset_descriptor.__get__"))) &&
  decide (PySem.W.takesIn K (.builtin "object.__class__") = some true) && decide (PySem.W.mroIn K D (.type "object") = some true)
theorem exc_of {K : PySem.W.Frag} {D : Addr} (h : excB K D = true) : ExcC K D := by
  unfold excB at h
  simp only [Bool.and_eq_true, decide_eq_true_eq] at h
  obtain ⟨⟨⟨⟨⟨⟨⟨h1, h2⟩, h3⟩, h4⟩, h5⟩, h6⟩, h7⟩, h8⟩ := h
  exact ⟨h1, h2, h3, h4, h5, h6, h7, h8⟩
def excB16 (K : PySem.W.Frag) (cs : Nat → Addr) : Bool := (List.range 16).all fun k => excB K (cs k)
theorem kit_of {K : PySem.W.Frag} {cs : Nat → Addr} (h1 : excB16 K cs = true) (h2 : kitB16 K cs = true) : Kit K cs := by
  refine ⟨fun k hk => exc_of (List.all_eq_true.mp h1 k (List.mem_range.mpr hk)), fun k j hk hj => ?_⟩
  exact beq_iff_eq.mp (List.all_eq_true.mp (List.all_eq_true.mp h2 k (List.mem_range.mpr hk)) j (List.mem_range.mpr hj))
theorem exm_of {K : PySem.W.Frag} {cs : Nat → Addr} (h : exmB16 K cs = true) : ∀ k j : Nat, k < 16 → j < 16 → PySem.W.exmOne K (.ref (cs k)) (.ref (cs j)) = some ((dueB k).getD j false) := fun k j hk hj =>
  beq_iff_eq.mp (List.all_eq_true.mp (List.all_eq_true.mp h k (List.mem_range.mpr hk)) j (List.mem_range.mpr hj))
def fldB (K : PySem.W.Frag) (cs : Nat → Addr) : Bool := (List.range 6).all fun j => decide (PySem.W.findIn K (.ref (cs j)) (fld j) = some none)
theorem fld_of {K : PySem.W.Frag} {cs : Nat → Addr} (h : fldB K cs = true) : ∀ j : Nat, j < 6 → PySem.W.findIn K (.ref (cs j)) (fld j) = some none := fun j hj => of_decide_eq_true (List.all_eq_true.mp h j (List.mem_range.mpr hj))
/-- a class that makes exceptions: what it must say beside its base -/
def mkB (K : PySem.W.Frag) (C : Addr) : Bool := PySem.W.keepIn K (.ref C) && decide (PySem.W.subIn K (.ref C) (.type "BaseException") = some true) && decide (PySem.W.typeIn K (.ref C) = some (.type "type"))
theorem mk_of3 {K : PySem.W.Frag} {C : Addr} (h : mkB K C = true) : PySem.W.keepIn K (.ref C) = true ∧ PySem.W.subIn K (.ref C) (.type "BaseException") = some true ∧ PySem.W.typeIn K (.ref C) = some (.type "type") := by
  unfold mkB at h
  simp only [Bool.and_eq_true, decide_eq_true_eq] at h
  exact ⟨h.1.1, h.1.2, h.2⟩
def csOf (l : List Addr) : Nat → Addr := fun i => l.getD i 0

theorem all_mk {P : Program} {w : World} {K : PySem.W.Frag} {h : Heap} {mg : Str → Option Value} {fa : Addr} (X : K.In h) (G : h.Ns mainGlobals mg) (hfa : mg "law" = some (.ref fa))
    {C0 C1 C2 C3 C4 C5 C6 C7 C8 C9 C10 C11 C12 C13 C14 C15 : Addr}
    {f0 : Addr} {oc0 kV0 dc0 pm0 cd0 ct0 : Value} {od0 an0 : Option Addr} {sl0 : Array (Option Value)}
    {f1 : Addr} {oc1 kV1 dc1 pm1 cd1 ct1 : Value} {od1 an1 : Option Addr} {sl1 : Array (Option Value)}
    {f2 : Addr} {oc2 kV2 dc2 pm2 cd2 ct2 : Value} {od2 an2 : Option Addr} {sl2 : Array (Option Value)}
    {f3 : Addr} {oc3 kV3 dc3 pm3 cd3 ct3 : Value} {od3 an3 : Option Addr} {sl3 : Array (Option Value)}
    {f4 : Addr} {oc4 kV4 dc4 pm4 cd4 ct4 : Value} {od4 an4 : Option Addr} {sl4 : Array (Option Value)}
    {f5 : Addr} {oc5 kV5 dc5 pm5 cd5 ct5 : Value} {od5 an5 : Option Addr} {sl5 : Array (Option Value)}
    {f6 : Addr} {oc6 kV6 dc6 pm6 cd6 ct6 : Value} {od6 an6 : Option Addr} {sl6 : Array (Option Value)}
    {f7 : Addr} {oc7 kV7 dc7 pm7 cd7 ct7 : Value} {od7 an7 : Option Addr} {sl7 : Array (Option Value)}
    {f8 : Addr} {oc8 kV8 dc8 pm8 cd8 ct8 : Value} {od8 an8 : Option Addr} {sl8 : Array (Option Value)}
    {f9 : Addr} {oc9 kV9 dc9 pm9 cd9 ct9 : Value} {od9 an9 : Option Addr} {sl9 : Array (Option Value)}
    {f10 : Addr} {oc10 kV10 dc10 pm10 cd10 ct10 : Value} {od10 an10 : Option Addr} {sl10 : Array (Option Value)}
    {f11 cR : Addr} {oc11 kV11 dc11 pm11 ct11 : Value} {od11 an11 : Option Addr} {sl11 : Array (Option Value)}
    {f12 : Addr} {oc12 kV12 dc12 pm12 cd12 ct12 : Value} {od12 an12 : Option Addr} {sl12 : Array (Option Value)}
    {I0 : Addr} {ic0 iV0 idc0 ipm0 icd0 ict0 : Value} {iod0 ian0 : Option Addr} {isl0 : Array (Option Value)}
    {I1 : Addr} {ic1 iV1 idc1 ipm1 icd1 ict1 : Value} {iod1 ian1 : Option Addr} {isl1 : Array (Option Value)}
    {I2 : Addr} {ic2 iV2 idc2 ipm2 icd2 ict2 : Value} {iod2 ian2 : Option Addr} {isl2 : Array (Option Value)}
    {I3 : Addr} {ic3 iV3 idc3 ipm3 icd3 ict3 : Value} {iod3 ian3 : Option Addr} {isl3 : Array (Option Value)}
    {I4 : Addr} {ic4 iV4 idc4 ipm4 icd4 ict4 : Value} {iod4 ian4 : Option Addr} {isl4 : Array (Option Value)}
    {I5 : Addr} {ic5 iV5 idc5 ipm5 icd5 ict5 : Value} {iod5 ian5 : Option Addr} {isl5 : Array (Option Value)}
    {tl tm : Tok}
    {ec : Value} {dR : Option Addr} {vR : Array Value} {slR : Array (Option Value)} {Pt : Addr}
    (aC0 : PySem.W.nsIn K mainGlobals "ParseError" = some (some (.ref C0)))
    (aC1 : PySem.W.nsIn K mainGlobals "InvalidNumber" = some (some (.ref C1)))
    (aC2 : PySem.W.nsIn K mainGlobals "UnknownName" = some (some (.ref C2)))
    (aC3 : PySem.W.nsIn K mainGlobals "NothingToUndo" = some (some (.ref C3)))
    (aC4 : PySem.W.nsIn K mainGlobals "TooMany" = some (some (.ref C4)))
    (aC5 : PySem.W.nsIn K mainGlobals "Refused" = some (some (.ref C5)))
    (aC6 : PySem.W.nsIn K mainGlobals "InvalidFrame" = some (some (.ref C6)))
    (aC7 : PySem.W.nsIn K mainGlobals "InvalidTerm" = some (some (.ref C7)))
    (aC8 : PySem.W.nsIn K mainGlobals "InvalidClaim" = some (some (.ref C8)))
    (aC9 : PySem.W.nsIn K mainGlobals "InvalidSituation" = some (some (.ref C9)))
    (aC10 : PySem.W.nsIn K mainGlobals "InvalidQuestion" = some (some (.ref C10)))
    (aC11 : PySem.W.nsIn K mainGlobals "InvalidFunction" = some (some (.ref C11)))
    (aC12 : PySem.W.nsIn K mainGlobals "InvalidProgram" = some (some (.ref C12)))
    (aC13 : PySem.W.nsIn K mainGlobals "InvalidOperation" = some (some (.ref C13)))
    (aC14 : PySem.W.nsIn K mainGlobals "InvalidName" = some (some (.ref C14)))
    (aC15 : PySem.W.nsIn K mainGlobals "ClaimError" = some (some (.ref C15)))
    (af0 : PySem.W.nsIn K mainGlobals "is_name" = some (some (.ref f0)))
    (lf0 : K.lookup f0 = some ⟨oc0, od0, .func (PySem.W.fnOf "is_name" "is_name" (defArgs sIsName) (defBody sIsName) (defScope sIsName) .none kV0 dc0 pm0 an0 cd0 ct0), sl0⟩)
    (cf0 : PySem.W.codeIn K cd0 "is_name" = true)
    (kf0 : PySem.W.keepIn K (.ref f0) = true)
    (af1 : PySem.W.nsIn K mainGlobals "_law_creel" = some (some (.ref f1)))
    (lf1 : K.lookup f1 = some ⟨oc1, od1, .func (PySem.W.fnOf "_law_creel" "_law_creel" (defArgs sCreel) (defBody sCreel) (defScope sCreel) .none kV1 dc1 pm1 an1 cd1 ct1), sl1⟩)
    (cf1 : PySem.W.codeIn K cd1 "_law_creel" = true)
    (kf1 : PySem.W.keepIn K (.ref f1) = true)
    (af2 : PySem.W.nsIn K mainGlobals "_law_fish" = some (some (.ref f2)))
    (lf2 : K.lookup f2 = some ⟨oc2, od2, .func (PySem.W.fnOf "_law_fish" "_law_fish" (defArgs sFish) (defBody sFish) (defScope sFish) .none kV2 dc2 pm2 an2 cd2 ct2), sl2⟩)
    (cf2 : PySem.W.codeIn K cd2 "_law_fish" = true)
    (kf2 : PySem.W.keepIn K (.ref f2) = true)
    (af3 : PySem.W.nsIn K mainGlobals "_law_one_of" = some (some (.ref f3)))
    (lf3 : K.lookup f3 = some ⟨oc3, od3, .func (PySem.W.fnOf "_law_one_of" "_law_one_of" (defArgs sOne) (defBody sOne) (defScope sOne) .none kV3 dc3 pm3 an3 cd3 ct3), sl3⟩)
    (cf3 : PySem.W.codeIn K cd3 "_law_one_of" = true)
    (kf3 : PySem.W.keepIn K (.ref f3) = true)
    (af4 : PySem.W.nsIn K mainGlobals "_law_is_name" = some (some (.ref f4)))
    (lf4 : K.lookup f4 = some ⟨oc4, od4, .func (PySem.W.fnOf "_law_is_name" "_law_is_name" (defArgs sLawIsName) (defBody sLawIsName) (defScope sLawIsName) .none kV4 dc4 pm4 an4 cd4 ct4), sl4⟩)
    (cf4 : PySem.W.codeIn K cd4 "_law_is_name" = true)
    (kf4 : PySem.W.keepIn K (.ref f4) = true)
    (af5 : PySem.W.nsIn K mainGlobals "_law_made" = some (some (.ref f5)))
    (lf5 : K.lookup f5 = some ⟨oc5, od5, .func (PySem.W.fnOf "_law_made" "_law_made" (defArgs sMade) (defBody sMade) (defScope sMade) .none kV5 dc5 pm5 an5 cd5 ct5), sl5⟩)
    (cf5 : PySem.W.codeIn K cd5 "_law_made" = true)
    (kf5 : PySem.W.keepIn K (.ref f5) = true)
    (af6 : PySem.W.nsIn K mainGlobals "_law_kinds" = some (some (.ref f6)))
    (lf6 : K.lookup f6 = some ⟨oc6, od6, .func (PySem.W.fnOf "_law_kinds" "_law_kinds" (defArgs sKinds) (defBody sKinds) (defScope sKinds) .none kV6 dc6 pm6 an6 cd6 ct6), sl6⟩)
    (cf6 : PySem.W.codeIn K cd6 "_law_kinds" = true)
    (kf6 : PySem.W.keepIn K (.ref f6) = true)
    (af7 : PySem.W.nsIn K mainGlobals "_law_due" = some (some (.ref f7)))
    (lf7 : K.lookup f7 = some ⟨oc7, od7, .func (PySem.W.fnOf "_law_due" "_law_due" (defArgs sDue) (defBody sDue) (defScope sDue) .none kV7 dc7 pm7 an7 cd7 ct7), sl7⟩)
    (cf7 : PySem.W.codeIn K cd7 "_law_due" = true)
    (kf7 : PySem.W.keepIn K (.ref f7) = true)
    (af8 : PySem.W.nsIn K mainGlobals "_law_keeping" = some (some (.ref f8)))
    (lf8 : K.lookup f8 = some ⟨oc8, od8, .func (PySem.W.fnOf "_law_keeping" "_law_keeping" (defArgs sKeep) (defBody sKeep) (defScope sKeep) .none kV8 dc8 pm8 an8 cd8 ct8), sl8⟩)
    (cf8 : PySem.W.codeIn K cd8 "_law_keeping" = true)
    (kf8 : PySem.W.keepIn K (.ref f8) = true)
    (af9 : PySem.W.nsIn K mainGlobals "_law_plain" = some (some (.ref f9)))
    (lf9 : K.lookup f9 = some ⟨oc9, od9, .func (PySem.W.fnOf "_law_plain" "_law_plain" (defArgs sPlain) (defBody sPlain) (defScope sPlain) .none kV9 dc9 pm9 an9 cd9 ct9), sl9⟩)
    (cf9 : PySem.W.codeIn K cd9 "_law_plain" = true)
    (kf9 : PySem.W.keepIn K (.ref f9) = true)
    (af10 : PySem.W.nsIn K mainGlobals "_law_raised" = some (some (.ref f10)))
    (lf10 : K.lookup f10 = some ⟨oc10, od10, .func (PySem.W.fnOf "_law_raised" "_law_raised" (defArgs sRaised) (defBody sRaised) (defScope sRaised) .none kV10 dc10 pm10 an10 cd10 ct10), sl10⟩)
    (cf10 : PySem.W.codeIn K cd10 "_law_raised" = true)
    (kf10 : PySem.W.keepIn K (.ref f10) = true)
    (af11 : PySem.W.nsIn K mainGlobals "_law_right" = some (some (.ref f11)))
    (lf11 : K.lookup f11 = some ⟨oc11, od11, .func (PySem.W.fnOf "_law_right" "_law_right" (defArgs sRight) (defBody sRight) (defScope sRight) .none kV11 dc11 pm11 an11 (.ref cR) ct11), sl11⟩)
    (cf11 : PySem.W.codeIn K (.ref cR) "_law_right" = true)
    (kf11 : PySem.W.keepIn K (.ref f11) = true)
    (af12 : PySem.W.nsIn K mainGlobals "law" = some (some (.ref f12)))
    (lf12 : K.lookup f12 = some ⟨oc12, od12, .func (PySem.W.fnOf "law" "law" (defArgs sLaw) (defBody sLaw) (defScope sLaw) .none kV12 dc12 pm12 an12 cd12 ct12), sl12⟩)
    (cf12 : PySem.W.codeIn K cd12 "law" = true)
    (kf12 : PySem.W.keepIn K (.ref f12) = true)
    (aI0 : PySem.W.findIn K (.ref C0) "__init__" = some (some (.ref I0)))
    (lI0 : K.lookup I0 = some ⟨ic0, iod0, .func (PySem.W.fnOf "__init__" "ParseError.__init__" (defArgs sIParseError) (defBody sIParseError) (defScope sIParseError) .none iV0 idc0 ipm0 ian0 icd0 ict0), isl0⟩)
    (cI0 : PySem.W.codeIn K icd0 "ParseError.__init__" = true)
    (kI0 : PySem.W.keepIn K (.ref I0) = true)
    (tI0 : PySem.W.typeIn K (.ref I0) = some (.type "function"))
    (sC0 : PySem.W.findIn K (.ref C0) "__setattr__" = some (some (.builtin "object.__setattr__")))
    (oC0 : overB K C0 [.type "ValueError", .type "Exception", .type "BaseException", .type "object"] "ValueError.__new__" = true)
    (aI1 : PySem.W.findIn K (.ref C1) "__init__" = some (some (.ref I1)))
    (lI1 : K.lookup I1 = some ⟨ic1, iod1, .func (PySem.W.fnOf "__init__" "InvalidNumber.__init__" (defArgs sIInvalidNumber) (defBody sIInvalidNumber) (defScope sIInvalidNumber) .none iV1 idc1 ipm1 ian1 icd1 ict1), isl1⟩)
    (cI1 : PySem.W.codeIn K icd1 "InvalidNumber.__init__" = true)
    (kI1 : PySem.W.keepIn K (.ref I1) = true)
    (tI1 : PySem.W.typeIn K (.ref I1) = some (.type "function"))
    (sC1 : PySem.W.findIn K (.ref C1) "__setattr__" = some (some (.builtin "object.__setattr__")))
    (oC1 : overB K C1 [.type "IndexError", .type "LookupError", .type "Exception", .type "BaseException", .type "object"] "IndexError.__new__" = true)
    (aI2 : PySem.W.findIn K (.ref C2) "__init__" = some (some (.ref I2)))
    (lI2 : K.lookup I2 = some ⟨ic2, iod2, .func (PySem.W.fnOf "__init__" "UnknownName.__init__" (defArgs sIUnknownName) (defBody sIUnknownName) (defScope sIUnknownName) .none iV2 idc2 ipm2 ian2 icd2 ict2), isl2⟩)
    (cI2 : PySem.W.codeIn K icd2 "UnknownName.__init__" = true)
    (kI2 : PySem.W.keepIn K (.ref I2) = true)
    (tI2 : PySem.W.typeIn K (.ref I2) = some (.type "function"))
    (sC2 : PySem.W.findIn K (.ref C2) "__setattr__" = some (some (.builtin "object.__setattr__")))
    (oC2 : overB K C2 [.type "KeyError", .type "LookupError", .type "Exception", .type "BaseException", .type "object"] "LookupError.__new__" = true)
    (aI3 : PySem.W.findIn K (.ref C3) "__init__" = some (some (.ref I3)))
    (lI3 : K.lookup I3 = some ⟨ic3, iod3, .func (PySem.W.fnOf "__init__" "NothingToUndo.__init__" (defArgs sINothingToUndo) (defBody sINothingToUndo) (defScope sINothingToUndo) .none iV3 idc3 ipm3 ian3 icd3 ict3), isl3⟩)
    (cI3 : PySem.W.codeIn K icd3 "NothingToUndo.__init__" = true)
    (kI3 : PySem.W.keepIn K (.ref I3) = true)
    (tI3 : PySem.W.typeIn K (.ref I3) = some (.type "function"))
    (sC3 : PySem.W.findIn K (.ref C3) "__setattr__" = some (some (.builtin "object.__setattr__")))
    (oC3 : overB K C3 [.type "LookupError", .type "Exception", .type "BaseException", .type "object"] "LookupError.__new__" = true)
    (aI4 : PySem.W.findIn K (.ref C4) "__init__" = some (some (.ref I4)))
    (lI4 : K.lookup I4 = some ⟨ic4, iod4, .func (PySem.W.fnOf "__init__" "TooMany.__init__" (defArgs sITooMany) (defBody sITooMany) (defScope sITooMany) .none iV4 idc4 ipm4 ian4 icd4 ict4), isl4⟩)
    (cI4 : PySem.W.codeIn K icd4 "TooMany.__init__" = true)
    (kI4 : PySem.W.keepIn K (.ref I4) = true)
    (tI4 : PySem.W.typeIn K (.ref I4) = some (.type "function"))
    (sC4 : PySem.W.findIn K (.ref C4) "__setattr__" = some (some (.builtin "object.__setattr__")))
    (oC4 : overB K C4 [.type "OverflowError", .type "ArithmeticError", .type "Exception", .type "BaseException", .type "object"] "OverflowError.__new__" = true)
    (aI5 : PySem.W.findIn K (.ref C5) "__init__" = some (some (.ref I5)))
    (lI5 : K.lookup I5 = some ⟨ic5, iod5, .func (PySem.W.fnOf "__init__" "Refused.__init__" (defArgs sIRefused) (defBody sIRefused) (defScope sIRefused) .none iV5 idc5 ipm5 ian5 icd5 ict5), isl5⟩)
    (cI5 : PySem.W.codeIn K icd5 "Refused.__init__" = true)
    (kI5 : PySem.W.keepIn K (.ref I5) = true)
    (tI5 : PySem.W.typeIn K (.ref I5) = some (.type "function"))
    (sC5 : PySem.W.findIn K (.ref C5) "__setattr__" = some (some (.builtin "object.__setattr__")))
    (oC5 : overB K C5 [.type "ArithmeticError", .type "Exception", .type "BaseException", .type "object"] "ArithmeticError.__new__" = true)
    (oC6 : PySem.W.excIn K C6 [.type "ValueError", .type "Exception", .type "BaseException", .type "object"] "ValueError.__new__" = true)
    (oC7 : PySem.W.excIn K C7 [.type "ValueError", .type "Exception", .type "BaseException", .type "object"] "ValueError.__new__" = true)
    (oC8 : PySem.W.excIn K C8 [.type "ValueError", .type "Exception", .type "BaseException", .type "object"] "ValueError.__new__" = true)
    (oC9 : PySem.W.excIn K C9 [.type "ValueError", .type "Exception", .type "BaseException", .type "object"] "ValueError.__new__" = true)
    (oC10 : PySem.W.excIn K C10 [.type "ValueError", .type "Exception", .type "BaseException", .type "object"] "ValueError.__new__" = true)
    (oC11 : PySem.W.excIn K C11 [.type "ValueError", .type "Exception", .type "BaseException", .type "object"] "ValueError.__new__" = true)
    (oC12 : PySem.W.excIn K C12 [.type "ValueError", .type "Exception", .type "BaseException", .type "object"] "ValueError.__new__" = true)
    (oC13 : PySem.W.excIn K C13 [.type "ValueError", .type "Exception", .type "BaseException", .type "object"] "ValueError.__new__" = true)
    (oC14 : PySem.W.excIn K C14 [.type "ValueError", .type "Exception", .type "BaseException", .type "object"] "ValueError.__new__" = true)
    (oC15 : PySem.W.excIn K C15 [.type "ValueError", .type "Exception", .type "BaseException", .type "object"] "ValueError.__new__" = true)
    (mC0 : mkB K C0 = true)
    (mC1 : mkB K C1 = true)
    (mC2 : mkB K C2 = true)
    (mC3 : mkB K C3 = true)
    (mC4 : mkB K C4 = true)
    (mC5 : mkB K C5 = true)
    (mC6 : mkB K C6 = true)
    (mC7 : mkB K C7 = true)
    (mC8 : mkB K C8 = true)
    (mC9 : mkB K C9 = true)
    (mC10 : mkB K C10 = true)
    (mC11 : mkB K C11 = true)
    (mC12 : mkB K C12 = true)
    (mC13 : mkB K C13 = true)
    (mC14 : mkB K C14 = true)
    (mC15 : mkB K C15 = true)
    (rB : PySem.W.readsIn K C15 (.type "type") = true)
    (sB : PySem.W.specialIn K (.ref C15) "__getattribute__" = some (some (.builtin "type.__getattribute__")))
    (vB0 : PySem.W.findCls K (.ref C15) (.type "type") "__init__" = some (.val (.builtin "ValueError.__init__")))
    (vB1 : PySem.W.findCls K (.type "IndexError") (.type "type") "__init__" = some (.val (.builtin "IndexError.__init__")))
    (vB2 : PySem.W.findCls K (.type "KeyError") (.type "type") "__init__" = some (.val (.builtin "KeyError.__init__")))
    (vB3 : PySem.W.findCls K (.type "LookupError") (.type "type") "__init__" = some (.val (.builtin "LookupError.__init__")))
    (vB4 : PySem.W.findCls K (.type "OverflowError") (.type "type") "__init__" = some (.val (.builtin "OverflowError.__init__")))
    (vB5 : PySem.W.findCls K (.type "ArithmeticError") (.type "type") "__init__" = some (.val (.builtin "ArithmeticError.__init__")))
    (kb : excB16 K (csOf [C0, C1, C2, C3, C4, C5, C6, C7, C8, C9, C10, C11, C12, C13, C14, C15]) = true)
    (kt : kitB16 K (csOf [C0, C1, C2, C3, C4, C5, C6, C7, C8, C9, C10, C11, C12, C13, C14, C15]) = true)
    (ke : exmB16 K (csOf [C0, C1, C2, C3, C4, C5, C6, C7, C8, C9, C10, C11, C12, C13, C14, C15]) = true)
    (kf : fldB K (csOf [C0, C1, C2, C3, C4, C5, C6, C7, C8, C9, C10, C11, C12, C13, C14, C15]) = true)
    (xf0 : xfB K C0 = true)
    (xf1 : xfB K C1 = true)
    (xf2 : xfB K C2 = true)
    (xf3 : xfB K C3 = true)
    (xf4 : xfB K C4 = true)
    (xf5 : xfB K C5 = true)
    (aL : PySem.W.nsIn K mainGlobals "LETTERS" = some (some (.str "abcdefghijklmnopqrstuvwxyz" tl)))
    (aM : PySem.W.nsIn K mainGlobals "MAX_LETTERS" = some (some (.int 8 tm)))
    (z_len : PySem.W.nsIn K mainGlobals "len" = some none)
    (z_int : PySem.W.nsIn K mainGlobals "int" = some none)
    (z_abs : PySem.W.nsIn K mainGlobals "abs" = some none)
    (z_max : PySem.W.nsIn K mainGlobals "max" = some none)
    (z_min : PySem.W.nsIn K mainGlobals "min" = some none)
    (z_isinstance : PySem.W.nsIn K mainGlobals "isinstance" = some none)
    (z_str : PySem.W.nsIn K mainGlobals "str" = some none)
    (z_all : PySem.W.nsIn K mainGlobals "all" = some none)
    (z_range : PySem.W.nsIn K mainGlobals "range" = some none)
    (z_repr : PySem.W.nsIn K mainGlobals "repr" = some none)
    (z_ValueError : PySem.W.nsIn K mainGlobals "ValueError" = some none)
    (z_IndexError : PySem.W.nsIn K mainGlobals "IndexError" = some none)
    (z_KeyError : PySem.W.nsIn K mainGlobals "KeyError" = some none)
    (z_LookupError : PySem.W.nsIn K mainGlobals "LookupError" = some none)
    (z_OverflowError : PySem.W.nsIn K mainGlobals "OverflowError" = some none)
    (z_ArithmeticError : PySem.W.nsIn K mainGlobals "ArithmeticError" = some none)
    (lR : K.lookup cR = some ⟨ec, dR, .fields vR, slR⟩)
    (eR : vR[11]? = some (.ref Pt))
    (nR : K.lookup Pt = none)
    : ∃ (fd : FuncData) (c Pt fR : Addr) (oR : Obj) (dR : FuncData) (oc : Obj) (vs : Array Value), mg "_law_right" = some (.ref fR) ∧ K.lookup fR = some oR ∧ oR.data = .func dR ∧ dR.code = .ref c ∧ K.lookup c = some oc ∧ oc.data = .fields vs ∧ vs[11]? = some (.ref Pt) ∧ K.lookup Pt = none ∧
      (∀ (s : Shared) (u : Value), BindsTo s fd ⟨[u], []⟩ [("_law_script", u)]) ∧ ∀ base : Heap, K.In base → base.Ns mainGlobals mg → LamX.TabB base mg c Pt → RunG P w K mg base 7 fa fd ["_law_script"] (spLaw K Pt) := by
  have e := hfa.symm.trans (PySem.W.mg_of X G af12)
  cases e
  have gC0 := PySem.W.mg_of X G aC0
  obtain ⟨kC0, xC0, tC0⟩ := mk_of3 mC0
  have gC1 := PySem.W.mg_of X G aC1
  obtain ⟨kC1, xC1, tC1⟩ := mk_of3 mC1
  have gC2 := PySem.W.mg_of X G aC2
  obtain ⟨kC2, xC2, tC2⟩ := mk_of3 mC2
  have gC3 := PySem.W.mg_of X G aC3
  obtain ⟨kC3, xC3, tC3⟩ := mk_of3 mC3
  have gC4 := PySem.W.mg_of X G aC4
  obtain ⟨kC4, xC4, tC4⟩ := mk_of3 mC4
  have gC5 := PySem.W.mg_of X G aC5
  obtain ⟨kC5, xC5, tC5⟩ := mk_of3 mC5
  have gC6 := PySem.W.mg_of X G aC6
  obtain ⟨kC6, xC6, tC6⟩ := mk_of3 mC6
  have gC7 := PySem.W.mg_of X G aC7
  obtain ⟨kC7, xC7, tC7⟩ := mk_of3 mC7
  have gC8 := PySem.W.mg_of X G aC8
  obtain ⟨kC8, xC8, tC8⟩ := mk_of3 mC8
  have gC9 := PySem.W.mg_of X G aC9
  obtain ⟨kC9, xC9, tC9⟩ := mk_of3 mC9
  have gC10 := PySem.W.mg_of X G aC10
  obtain ⟨kC10, xC10, tC10⟩ := mk_of3 mC10
  have gC11 := PySem.W.mg_of X G aC11
  obtain ⟨kC11, xC11, tC11⟩ := mk_of3 mC11
  have gC12 := PySem.W.mg_of X G aC12
  obtain ⟨kC12, xC12, tC12⟩ := mk_of3 mC12
  have gC13 := PySem.W.mg_of X G aC13
  obtain ⟨kC13, xC13, tC13⟩ := mk_of3 mC13
  have gC14 := PySem.W.mg_of X G aC14
  obtain ⟨kC14, xC14, tC14⟩ := mk_of3 mC14
  have gC15 := PySem.W.mg_of X G aC15
  obtain ⟨kC15, xC15, tC15⟩ := mk_of3 mC15
  have m_len := PySem.W.mg_none_of X G z_len
  have m_int := PySem.W.mg_none_of X G z_int
  have m_abs := PySem.W.mg_none_of X G z_abs
  have m_max := PySem.W.mg_none_of X G z_max
  have m_min := PySem.W.mg_none_of X G z_min
  have m_isinstance := PySem.W.mg_none_of X G z_isinstance
  have m_str := PySem.W.mg_none_of X G z_str
  have m_all := PySem.W.mg_none_of X G z_all
  have m_range := PySem.W.mg_none_of X G z_range
  have m_repr := PySem.W.mg_none_of X G z_repr
  have m_ValueError := PySem.W.mg_none_of X G z_ValueError
  have m_IndexError := PySem.W.mg_none_of X G z_IndexError
  have m_KeyError := PySem.W.mg_none_of X G z_KeyError
  have m_LookupError := PySem.W.mg_none_of X G z_LookupError
  have m_OverflowError := PySem.W.mg_none_of X G z_OverflowError
  have m_ArithmeticError := PySem.W.mg_none_of X G z_ArithmeticError
  have mL := PySem.W.mg_of X G aL
  have mM := PySem.W.mg_of X G aM
  have g0 := PySem.W.mg_of X G af0
  have F0 := fun_mk (st := sIsName) lf0 cf0 kf0
  have b0 := F0.binds (ps := ["value"]) fun _ _ _ _ _ _ us hl => match us, hl with | [_], _ => rfl
  have g1 := PySem.W.mg_of X G af1
  have F1 := fun_mk (st := sCreel) lf1 cf1 kf1
  have b1 := F1.binds (ps := ["_law_script", "_law_at"]) fun _ _ _ _ _ _ us hl => match us, hl with | [_, _], _ => rfl
  have g2 := PySem.W.mg_of X G af2
  have F2 := fun_mk (st := sFish) lf2 cf2 kf2
  have b2 := F2.binds (ps := ["_law_creel_here", "_law_total"]) fun _ _ _ _ _ _ us hl => match us, hl with | [_, _], _ => rfl
  have g3 := PySem.W.mg_of X G af3
  have F3 := fun_mk (st := sOne) lf3 cf3 kf3
  have b3 := F3.binds (ps := ["_law_creel_here", "_law_items"]) fun _ _ _ _ _ _ us hl => match us, hl with | [_, _], _ => rfl
  have g4 := PySem.W.mg_of X G af4
  have F4 := fun_mk (st := sLawIsName) lf4 cf4 kf4
  have b4 := F4.binds (ps := ["_law_value"]) fun _ _ _ _ _ _ us hl => match us, hl with | [_], _ => rfl
  have g5 := PySem.W.mg_of X G af5
  have F5 := fun_mk (st := sMade) lf5 cf5 kf5
  have b5 := F5.binds (ps := ["_law_value"]) fun _ _ _ _ _ _ us hl => match us, hl with | [_], _ => rfl
  have g6 := PySem.W.mg_of X G af6
  have F6 := fun_mk (st := sKinds) lf6 cf6 kf6
  have b6 := F6.binds (ps := ["_law_error"]) fun _ _ _ _ _ _ us hl => match us, hl with | [_], _ => rfl
  have g7 := PySem.W.mg_of X G af7
  have F7 := fun_mk (st := sDue) lf7 cf7 kf7
  have b7 := F7.binds (ps := ["_law_at"]) fun _ _ _ _ _ _ us hl => match us, hl with | [_], _ => rfl
  have g8 := PySem.W.mg_of X G af8
  have F8 := fun_mk (st := sKeep) lf8 cf8 kf8
  have b8 := F8.binds (ps := ["_law_at", "_law_value"]) fun _ _ _ _ _ _ us hl => match us, hl with | [_, _], _ => rfl
  have g9 := PySem.W.mg_of X G af9
  have F9 := fun_mk (st := sPlain) lf9 cf9 kf9
  have b9 := F9.binds (ps := ["_law_at"]) fun _ _ _ _ _ _ us hl => match us, hl with | [_], _ => rfl
  have g10 := PySem.W.mg_of X G af10
  have F10 := fun_mk (st := sRaised) lf10 cf10 kf10
  have b10 := F10.binds (ps := ["_law_call"]) fun _ _ _ _ _ _ us hl => match us, hl with | [_], _ => rfl
  have g11 := PySem.W.mg_of X G af11
  have F11 := fun_mk (st := sRight) lf11 cf11 kf11
  have b11 := F11.binds (ps := ["_law_creel_here"]) fun _ _ _ _ _ _ us hl => match us, hl with | [_], _ => rfl
  have g12 := PySem.W.mg_of X G af12
  have F12 := fun_mk (st := sLaw) lf12 cf12 kf12
  have b12 := F12.binds (ps := ["_law_script"]) fun _ _ _ _ _ _ us hl => match us, hl with | [_], _ => rfl
  have FI0 := fun_mk (st := sIParseError) lI0 cI0 kI0
  have bI0 := FI0.binds (ps := ["self", "index"]) fun _ _ _ _ _ _ us hl => match us, hl with | [_, _], _ => rfl
  have E0 : ExG K C0 "ValueError" "ValueError.__new__" "ValueError" := exg_of oC0 pass1 (by decide +kernel) sC0 xC0 tC0 kC0
  have no0 := fld_of kf 0 (by decide)
  have FI1 := fun_mk (st := sIInvalidNumber) lI1 cI1 kI1
  have bI1 := FI1.binds (ps := ["self", "number"]) fun _ _ _ _ _ _ us hl => match us, hl with | [_, _], _ => rfl
  have E1 : ExG K C1 "IndexError" "IndexError.__new__" "IndexError" := exg_of oC1 pass2 (by decide +kernel) sC1 xC1 tC1 kC1
  have no1 := fld_of kf 1 (by decide)
  have FI2 := fun_mk (st := sIUnknownName) lI2 cI2 kI2
  have bI2 := FI2.binds (ps := ["self", "name"]) fun _ _ _ _ _ _ us hl => match us, hl with | [_, _], _ => rfl
  have E2 : ExG K C2 "LookupError" "LookupError.__new__" "KeyError" := exg_of oC2 pass3 (by decide +kernel) sC2 xC2 tC2 kC2
  have no2 := fld_of kf 2 (by decide)
  have FI3 := fun_mk (st := sINothingToUndo) lI3 cI3 kI3
  have bI3 := FI3.binds (ps := ["self", "asked"]) fun _ _ _ _ _ _ us hl => match us, hl with | [_, _], _ => rfl
  have E3 : ExG K C3 "LookupError" "LookupError.__new__" "LookupError" := exg_of oC3 pass4 (by decide +kernel) sC3 xC3 tC3 kC3
  have no3 := fld_of kf 3 (by decide)
  have FI4 := fun_mk (st := sITooMany) lI4 cI4 kI4
  have bI4 := FI4.binds (ps := ["self", "bound"]) fun _ _ _ _ _ _ us hl => match us, hl with | [_, _], _ => rfl
  have E4 : ExG K C4 "OverflowError" "OverflowError.__new__" "OverflowError" := exg_of oC4 pass5 (by decide +kernel) sC4 xC4 tC4 kC4
  have no4 := fld_of kf 4 (by decide)
  have FI5 := fun_mk (st := sIRefused) lI5 cI5 kI5
  have bI5 := FI5.binds (ps := ["self", "reason"]) fun _ _ _ _ _ _ us hl => match us, hl with | [_, _], _ => rfl
  have E5 : ExG K C5 "ArithmeticError" "ArithmeticError.__new__" "ArithmeticError" := exg_of oC5 pass6 (by decide +kernel) sC5 xC5 tC5 kC5
  have no5 := fld_of kf 5 (by decide)
  have sx : ∀ base : Heap, Sixteen P w K mg base (csOf [C0, C1, C2, C3, C4, C5, C6, C7, C8, C9, C10, C11, C12, C13, C14, C15]) := fun base => by
    exact ⟨⟨⟨"ValueError", "ValueError.__new__", "ValueError", _, _, I0, _, PySem.F.excBase_ValueError, E0, aI0, tI0, ok_IParseError FI0 E0 no0 gC15 rB sB vB0, bI0⟩, gC0⟩,
      ⟨⟨"IndexError", "IndexError.__new__", "IndexError", _, _, I1, _, PySem.F.excBase_IndexError, E1, aI1, tI1, ok_IInvalidNumber FI1 E1 no1 m_IndexError vB1, bI1⟩, gC1⟩,
      ⟨⟨"LookupError", "LookupError.__new__", "KeyError", _, _, I2, _, PySem.F.excBase_LookupError, E2, aI2, tI2, ok_IUnknownName FI2 E2 no2 m_KeyError vB2, bI2⟩, gC2⟩,
      ⟨⟨"LookupError", "LookupError.__new__", "LookupError", _, _, I3, _, PySem.F.excBase_LookupError, E3, aI3, tI3, ok_INothingToUndo FI3 E3 no3 m_LookupError vB3, bI3⟩, gC3⟩,
      ⟨⟨"OverflowError", "OverflowError.__new__", "OverflowError", _, _, I4, _, PySem.F.excBase_OverflowError, E4, aI4, tI4, ok_ITooMany FI4 E4 no4 m_OverflowError vB4, bI4⟩, gC4⟩,
      ⟨⟨"ArithmeticError", "ArithmeticError.__new__", "ArithmeticError", _, _, I5, _, PySem.F.excBase_ArithmeticError, E5, aI5, tI5, ok_IRefused FI5 E5 no5 m_ArithmeticError vB5, bI5⟩, gC5⟩,
      ⟨oC6, gC6, kC6, xC6, tC6⟩,
      ⟨oC7, gC7, kC7, xC7, tC7⟩,
      ⟨oC8, gC8, kC8, xC8, tC8⟩,
      ⟨oC9, gC9, kC9, xC9, tC9⟩,
      ⟨oC10, gC10, kC10, xC10, tC10⟩,
      ⟨oC11, gC11, kC11, xC11, tC11⟩,
      ⟨oC12, gC12, kC12, xC12, tC12⟩,
      ⟨oC13, gC13, kC13, xC13, tC13⟩,
      ⟨oC14, gC14, kC14, xC14, tC14⟩,
      ⟨oC15, gC15, kC15, xC15, tC15⟩⟩
  have ca : Cau K mg (csOf [C0, C1, C2, C3, C4, C5, C6, C7, C8, C9, C10, C11, C12, C13, C14, C15]) := ⟨exm_of ke, fun j hj => match j, hj with| 0, _ => xfB_ok xf0 | 1, _ => xfB_ok xf1 | 2, _ => xfB_ok xf2 | 3, _ => xfB_ok xf3 | 4, _ => xfB_ok xf4 | 5, _ => xfB_ok xf5 | n + 6, hj => absurd hj (by omega), fld_of kf, gC0, gC1, gC2, gC3, gC4, gC5, gC15⟩
  have kit := kit_of kb kt
  have bl : Blt mg := ⟨m_ValueError, m_IndexError, m_KeyError, m_LookupError, m_OverflowError, m_ArithmeticError⟩
  have rf : ∀ base : Heap, RF P w K mg base (csOf [C0, C1, C2, C3, C4, C5, C6, C7, C8, C9, C10, C11, C12, C13, C14, C15]) := fun base => by
    exact ⟨⟨⟨f3, _, ok_one F3 F2 b2 g2 m_int m_len, b3, g3, F3.kp⟩⟩,
      ⟨⟨f2, _, ok_fish F2 m_int, b2, g2, F2.kp⟩⟩,
      ⟨⟨f5, _, ok_made F5 (sx base), b5, g5, F5.kp⟩⟩,
      ⟨⟨f6, _, ok_kinds F6 (sx base) kit bl m_isinstance m_int m_str, b6, g6, F6.kp⟩⟩,
      ⟨⟨f7, _, ok_due F7 m_int m_range m_str, b7, g7, F7.kp⟩⟩,
      ⟨⟨f8, _, ok_keep F8 (sx base), b8, g8, F8.kp⟩⟩,
      ⟨⟨f9, _, ok_plain F9 (sx base), b9, g9, F9.kp⟩⟩,
      ⟨⟨f0, _, ok_isName F0 m_isinstance m_str m_len m_all mL mM, b0, g0, F0.kp⟩⟩,
      ⟨⟨f4, _, ok_lawIsName F4 m_isinstance m_str m_len, b4, g4, F4.kp⟩⟩,
      ⟨f10, _, F10, b10, g10⟩,
      ca,
      m_range,
      m_repr⟩
  refine ⟨PySem.W.fnOf "law" "law" (defArgs sLaw) (defBody sLaw) (defScope sLaw) .none kV12 dc12 pm12 an12 cd12 ct12, cR, Pt, f11, _, _, _, vR, g11, lf11, rfl, rfl, lR, rfl, eR, nR, fun s u => .of_eq rfl, fun base _ _ tb => ?_⟩
  exact law_run lf12 cf12 ⟨⟨⟨f1, _, ok_creel F1 m_len m_int m_abs m_max, b1, g1, F1.kp⟩⟩, (rf base).isn, ⟨f11, _, right_run lf11 cf11 (rf base) tb, b11, g11, F11.kp⟩, (sx base).c0, ca, m_range, m_max, m_min, m_len⟩
theorem walk {l : PySem.W.OpenLaw} {q : Program} {loose : List Str} {XP : (Str → Option Value) → Heap → Prop} {YP : World → Heap → Prop} {d : DefRec} {K : Params → PySem.W.Frag} (hn : l.most = some 63) (hdf : d.params.defaults = [])
    (hrec : ((recsOf q).any fun e => e.name == ("_law_right" : Str)) = true) (hY : ∀ (w : World) (h : Heap), YP w h → (K w.params).In h)
    (F : ∀ (w : World) (mg : Str → Option Value) (fa : Addr) (h : Heap), (K w.params).In h → h.Ns mainGlobals mg → mg d.name = some (.ref fa) →
      ∃ (fd : FuncData) (c Pt fR : Addr) (oR : Obj) (dR : FuncData) (oc : Obj) (vs : Array Value), mg "_law_right" = some (.ref fR) ∧ (K w.params).lookup fR = some oR ∧ oR.data = .func dR ∧ dR.code = .ref c ∧ (K w.params).lookup c = some oc ∧ oc.data = .fields vs ∧ vs[11]? = some (.ref Pt) ∧ (K w.params).lookup Pt = none ∧
        (∀ (s : Shared) (u : Value), BindsTo s fd ⟨[u], []⟩ [("_law_script", u)]) ∧ ∀ base : Heap, (K w.params).In base → base.Ns mainGlobals mg → LamX.TabB base mg c Pt → RunG l.prog w (K w.params) mg base 7 fa fd ["_law_script"] (spLaw (K w.params) Pt)) :
    PySem.W.WalkO q loose XP YP l.row.toRowW d [] (fun f vs => PySem.call f vs) := by
  refine Att.attach_callB hn hdf fun w s₀ s₁ mg mb fa o pm cd doc a us ns G Y ho hd hcd hmg hobj nums hlen _ hg => ?_
  have kin := hY w _ Y
  obtain ⟨fd, c, Pt, fR, oR, dR, oc, vs, q1, q2, q3, q4, q5, q6, q7, q8, q9, run⟩ := F w mg fa _ kin G.T.g hmg
  obtain ⟨dl, m1, m2⟩ := List.any_eq_true.mp hrec
  have m3 : dl.name = "_law_right" := beq_iff_eq.mp m2
  obtain ⟨a', o', fd', c', P', t1, t2, t3, t4, t5, t6⟩ := G.T.tab dl m1
  rw [m3, q1] at t1
  cases t1
  have y1 := (kin _ _ q2).symm.trans t2
  cases y1
  rw [q3] at t3
  cases t3
  rw [q4] at t4
  cases t4
  obtain ⟨⟨o2, v2, u1, u2, u3, u4⟩, u5⟩ := id t6
  have y2 := (kin _ _ q5).symm.trans u1
  cases y2
  rw [q6] at u3
  cases u3
  rw [q7] at u4
  cases u4
  exact end_of kin G.T.g G.T.b G.T.builtins G.T.nolimit hg u5 q8 (.of t5 t6) G.T.bmain hobj nums (Nat.le_trans hlen (by decide)) ⟨rfl, by decide, by decide⟩ run q9 fun H hT hS => ⟨a, ns, rfl, hS, hlen, hT, fun _ => rfl⟩
end K00

open PySem PySem.W PyProof.Rows
set_option maxRecDepth 100000 in
set_option maxHeartbeats 0 in
theorem PySem.Challenge.cw_lentcells_k00_errors_and_names_holds : PySem.Challenge.rw_lentcells_k00_errors_and_names.Holds := by
  w_on; o_law; k_head; (case hw => w_witness2)
  k_fill
  refine K00.walk (l := PySem.Challenge.rw_lentcells_k00_errors_and_names) rfl rfl (by decide +kernel) (fun w h Y => PySem.W.km_in_of Y) ?F
  case F =>
    intro w mg fa h KX G hmg
    refine' K00.all_mk KX G hmg ?aC0 ?aC1 ?aC2 ?aC3 ?aC4 ?aC5 ?aC6 ?aC7 ?aC8 ?aC9 ?aC10 ?aC11 ?aC12 ?aC13 ?aC14 ?aC15 ?af0 ?lf0 ?cf0 ?kf0 ?af1 ?lf1 ?cf1 ?kf1 ?af2 ?lf2 ?cf2 ?kf2 ?af3 ?lf3 ?cf3 ?kf3 ?af4 ?lf4 ?cf4 ?kf4 ?af5 ?lf5 ?cf5 ?kf5 ?af6 ?lf6 ?cf6 ?kf6 ?af7 ?lf7 ?cf7 ?kf7 ?af8 ?lf8 ?cf8 ?kf8 ?af9 ?lf9 ?cf9 ?kf9 ?af10 ?lf10 ?cf10 ?kf10 ?af11 ?lf11 ?cf11 ?kf11 ?af12 ?lf12 ?cf12 ?kf12 ?aI0 ?lI0 ?cI0 ?kI0 ?tI0 ?sC0 ?oC0 ?aI1 ?lI1 ?cI1 ?kI1 ?tI1 ?sC1 ?oC1 ?aI2 ?lI2 ?cI2 ?kI2 ?tI2 ?sC2 ?oC2 ?aI3 ?lI3 ?cI3 ?kI3 ?tI3 ?sC3 ?oC3 ?aI4 ?lI4 ?cI4 ?kI4 ?tI4 ?sC4 ?oC4 ?aI5 ?lI5 ?cI5 ?kI5 ?tI5 ?sC5 ?oC5 ?oC6 ?oC7 ?oC8 ?oC9 ?oC10 ?oC11 ?oC12 ?oC13 ?oC14 ?oC15 ?mC0 ?mC1 ?mC2 ?mC3 ?mC4 ?mC5 ?mC6 ?mC7 ?mC8 ?mC9 ?mC10 ?mC11 ?mC12 ?mC13 ?mC14 ?mC15 ?rB ?sB ?vB0 ?vB1 ?vB2 ?vB3 ?vB4 ?vB5 ?kb ?kt ?ke ?kf ?xf0 ?xf1 ?xf2 ?xf3 ?xf4 ?xf5 ?aL ?aM ?z_len ?z_int ?z_abs ?z_max ?z_min ?z_isinstance ?z_str ?z_all ?z_range ?z_repr ?z_ValueError ?z_IndexError ?z_KeyError ?z_LookupError ?z_OverflowError ?z_ArithmeticError ?lR ?eR ?nR
    (case aC0 => k_is)
    (case aC1 => k_is)
    (case aC2 => k_is)
    (case aC3 => k_is)
    (case aC4 => k_is)
    (case aC5 => k_is)
    (case aC6 => k_is)
    (case aC7 => k_is)
    (case aC8 => k_is)
    (case aC9 => k_is)
    (case aC10 => k_is)
    (case aC11 => k_is)
    (case aC12 => k_is)
    (case aC13 => k_is)
    (case aC14 => k_is)
    (case aC15 => k_is)
    (case af0 => k_is)
    (case lf0 => k_is)
    (case cf0 => k_is)
    (case kf0 => k_is)
    (case af1 => k_is)
    (case lf1 => k_is)
    (case cf1 => k_is)
    (case kf1 => k_is)
    (case af2 => k_is)
    (case lf2 => k_is)
    (case cf2 => k_is)
    (case kf2 => k_is)
    (case af3 => k_is)
    (case lf3 => k_is)
    (case cf3 => k_is)
    (case kf3 => k_is)
    (case af4 => k_is)
    (case lf4 => k_is)
    (case cf4 => k_is)
    (case kf4 => k_is)
    (case af5 => k_is)
    (case lf5 => k_is)
    (case cf5 => k_is)
    (case kf5 => k_is)
    (case af6 => k_is)
    (case lf6 => k_is)
    (case cf6 => k_is)
    (case kf6 => k_is)
    (case af7 => k_is)
    (case lf7 => k_is)
    (case cf7 => k_is)
    (case kf7 => k_is)
    (case af8 => k_is)
    (case lf8 => k_is)
    (case cf8 => k_is)
    (case kf8 => k_is)
    (case af9 => k_is)
    (case lf9 => k_is)
    (case cf9 => k_is)
    (case kf9 => k_is)
    (case af10 => k_is)
    (case lf10 => k_is)
    (case cf10 => k_is)
    (case kf10 => k_is)
    (case af11 => k_is)
    (case lf11 => k_is)
    (case cf11 => k_is)
    (case kf11 => k_is)
    (case af12 => k_is)
    (case lf12 => k_is)
    (case cf12 => k_is)
    (case kf12 => k_is)
    (case aI0 => k_is)
    (case lI0 => k_is)
    (case cI0 => k_is)
    (case kI0 => k_is)
    (case tI0 => k_is)
    (case sC0 => k_is)
    (case oC0 => kernel_rfl)
    (case aI1 => k_is)
    (case lI1 => k_is)
    (case cI1 => k_is)
    (case kI1 => k_is)
    (case tI1 => k_is)
    (case sC1 => k_is)
    (case oC1 => kernel_rfl)
    (case aI2 => k_is)
    (case lI2 => k_is)
    (case cI2 => k_is)
    (case kI2 => k_is)
    (case tI2 => k_is)
    (case sC2 => k_is)
    (case oC2 => kernel_rfl)
    (case aI3 => k_is)
    (case lI3 => k_is)
    (case cI3 => k_is)
    (case kI3 => k_is)
    (case tI3 => k_is)
    (case sC3 => k_is)
    (case oC3 => kernel_rfl)
    (case aI4 => k_is)
    (case lI4 => k_is)
    (case cI4 => k_is)
    (case kI4 => k_is)
    (case tI4 => k_is)
    (case sC4 => k_is)
    (case oC4 => kernel_rfl)
    (case aI5 => k_is)
    (case lI5 => k_is)
    (case cI5 => k_is)
    (case kI5 => k_is)
    (case tI5 => k_is)
    (case sC5 => k_is)
    (case oC5 => kernel_rfl)
    (case oC6 => kernel_rfl)
    (case oC7 => kernel_rfl)
    (case oC8 => kernel_rfl)
    (case oC9 => kernel_rfl)
    (case oC10 => kernel_rfl)
    (case oC11 => kernel_rfl)
    (case oC12 => kernel_rfl)
    (case oC13 => kernel_rfl)
    (case oC14 => kernel_rfl)
    (case oC15 => kernel_rfl)
    (case mC0 => kernel_rfl)
    (case mC1 => kernel_rfl)
    (case mC2 => kernel_rfl)
    (case mC3 => kernel_rfl)
    (case mC4 => kernel_rfl)
    (case mC5 => kernel_rfl)
    (case mC6 => kernel_rfl)
    (case mC7 => kernel_rfl)
    (case mC8 => kernel_rfl)
    (case mC9 => kernel_rfl)
    (case mC10 => kernel_rfl)
    (case mC11 => kernel_rfl)
    (case mC12 => kernel_rfl)
    (case mC13 => kernel_rfl)
    (case mC14 => kernel_rfl)
    (case mC15 => kernel_rfl)
    (case rB => k_is)
    (case sB => k_is)
    (case vB0 => k_is)
    (case vB1 => k_is)
    (case vB2 => k_is)
    (case vB3 => k_is)
    (case vB4 => k_is)
    (case vB5 => k_is)
    (case kb => kernel_rfl)
    (case kt => kernel_rfl)
    (case ke => kernel_rfl)
    (case kf => kernel_rfl)
    (case xf0 => kernel_rfl)
    (case xf1 => kernel_rfl)
    (case xf2 => kernel_rfl)
    (case xf3 => kernel_rfl)
    (case xf4 => kernel_rfl)
    (case xf5 => kernel_rfl)
    (case aL => k_is)
    (case aM => k_is)
    (case z_len => k_is)
    (case z_int => k_is)
    (case z_abs => k_is)
    (case z_max => k_is)
    (case z_min => k_is)
    (case z_isinstance => k_is)
    (case z_str => k_is)
    (case z_all => k_is)
    (case z_range => k_is)
    (case z_repr => k_is)
    (case z_ValueError => k_is)
    (case z_IndexError => k_is)
    (case z_KeyError => k_is)
    (case z_LookupError => k_is)
    (case z_OverflowError => k_is)
    (case z_ArithmeticError => k_is)
    (case lR => k_is)
    (case eR => rfl)
    (case nR => kernel_rfl)

