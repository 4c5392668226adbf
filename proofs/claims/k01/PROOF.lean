import PyProof.Rows.All
import Wide.All
import OpenK.AllK
import Wide.FinOn
import HandS.ForMost
import HandS.Wide
import HandS.Codes
import PySem.Challenge.RW_lentcells_k01_frames_told_and_judged
import HandS.IsInst
import HandS.Dict
import PyProof.ReprRoads
import PyProof.DictUpdate
import PyProof.DictDisplay
import HandS.Conv
import KE.KDictList
import PyProof.TupleCall
import HandS.Set
import HandS.Strs
import PyProof.Rows.SetObj
import HandS.DictComp
import HandS.Star
import HandS.Walk
import HandS.ExcOwn
import HandS.WordsExc
import HandS.New
import HandS.Property
import HandS.SlotsOwn
import PyProof.CallStr
import HandS.WordsDict
import HandS.More
import HandS.FStr
import HandS.Text
import PyProof.StrLaws
import PyProof.StrBlockL
import HandS.TupAny
import HandS.TryOnly
import HandS.StrMore
import PyProof.ReprLen
import HandS.Lambda
import HandS.DictEq
import PyProof.EqKinds
import HandS.Steps
import HandS.Iter
import PyProof.EnumMake
import PyProof.Draws
import PyProof.TupleOfStr
import HandS.EndBits
import HandS.EndTab
import HandS.EndOwn
set_option Elab.async false
set_option linter.all false
set_option maxRecDepth 100000
set_option maxHeartbeats 4000000
namespace K01
open PySem PySem.Spec PyProof.Rows L2
def topS (i : Nat) : Stmt := PySem.Challenge.pw_lentcells_k01_frames_told_and_judged.main.body.getD i (.Pass ⟨0, 0, 0, 0⟩)
abbrev sIsName : Stmt := topS 11
abbrev sCreel : Stmt := topS 21
abbrev sFish : Stmt := topS 22
abbrev sOne : Stmt := topS 23
theorem scCreel : FnScope ["_law_script", "_law_at", "_law_cell", "_law_great", "_law_mixed"] ["_law_script", "_law_at"] (defScope sCreel) :=
  ⟨rfl, rfl, rfl, by decide +kernel, rfl, by decide +kernel, by decide +kernel⟩
theorem scFish : FnScope ["_law_creel_here", "_law_total", "_law_found", "_law_one", "_law_two"] ["_law_creel_here", "_law_total"] (defScope sFish) :=
  ⟨rfl, rfl, rfl, by decide +kernel, rfl, by decide +kernel, by decide +kernel⟩
theorem scOne : FnScope ["_law_creel_here", "_law_items"] ["_law_creel_here", "_law_items"] (defScope sOne) :=
  ⟨rfl, rfl, rfl, by decide +kernel, rfl, by decide +kernel, by decide +kernel⟩
/-- the modulus of a great cell -/
def big : Int := ((10 : Int) ^ (58 : Int).toNat) ^ (10 : Int).toNat
theorem big_pos : 0 < big := by unfold big; decide +kernel
theorem big_lt : big.natAbs < 2 ^ 2000 := by unfold big; decide +kernel
def CPowW (i j : Int) : Prop := 0 ≤ j ∧ (Builtin.Int.intBits i : Int) * j ≤ 2 ^ 27
theorem op_powW {X : Cx} : OpR X (binaryOp .Pow) (rI CPowW fun i j => .int (i ^ j.toNat)) := opI fun _ _ _ _ _ _ _ hc q => pow_int hc.1 hc.2 q
/-- a creel: three numbers -/
structure Cr (x y c : Int) : Prop where
  x0 : 0 ≤ x
  xb : x.natAbs < 2 ^ 2000
  y0 : 0 ≤ y
  yb : y < 2305843009213693951
  c0 : 0 ≤ c
  cb : c ≤ 1000000
theorem small_bits {i : Int} {n : Nat} (h0 : 0 ≤ i) (h : i < 2 ^ n) : i.natAbs < 2 ^ n := by
  have e : ((i.natAbs : Nat) : Int) < ((2 ^ n : Nat) : Int) := by
    rw [Int.natAbs_of_nonneg h0]
    have : ((2 ^ n : Nat) : Int) = (2 : Int) ^ n := by simp
    omega
  omega
def spCreel (K : PySem.W.Frag) : Sp := fun vs H Q _ => ∃ (a : Addr) (ns : List Int) (i : Int), vs = [.ref a, .int i] ∧ SqL K H a (ns.map V.int) ∧ ns.length ≤ 63 ∧ 0 ≤ i ∧ i ≤ 1000 ∧
  ∀ p x y, Cr x y 0 → H p = none → Q (.ref p) (upd H p (.lst [.int x, .int y, .int 0]))
def spFish : Sp := fun vs H Q _ => ∃ (a : Addr) (x y c t : Int), vs = [.ref a, .int t] ∧ H a = some (.lst [.int x, .int y, .int c]) ∧ Cr x y c ∧ c < 1000000 ∧ 0 < t ∧ t ≤ 1000 ∧
  ∀ r x' c', 0 ≤ r → r < t → Cr x' y c' → c' ≤ c + 1 → Q (.int r) (upd H a (.lst [.int x', .int y, .int c']))
section
variable {P : Program} {w : World} {K : PySem.W.Frag} {mg : Str → Option Value} {base : Heap}
theorem ok_creel {f : Addr} {fd : FuncData} (F : Fun K "_law_creel" "_law_creel" sCreel f fd) (ml : mg "len" = none) (mi : mg "int" = none) (ma : mg "abs" = none) (mm : mg "max" = none) :
    FnOk P w K mg base CX0 1 f fd ["_law_script", "_law_at"] (spCreel K) := by
  refine F.ok scCreel (fun vs H Q E h => ?_) (fun cdv A outer s H vs Q E hr h => ?_)
  · obtain ⟨a, ns, i, rfl, _⟩ := h
    rfl
  · obtain ⟨a, ns, i, rfl, hS, hlen, hi0, hi1, q⟩ := h
    refine ⟨_, C8.pss_cut (ps_set (i := 2) scCreel.nd rfl (.inl rfl) (pe_ifExp (pt_cmpR op_lt (pv 1) (pe_callB call_len_seq (by rfl) ml PySem.boot_len (pa_cons (pv 0) pa_nil)) (nomark _))
        (pe_ix ix_list (pv 0) (pv 1) (fun _ _ => rfl)) (pe_op op_add (pe_op op_mul pe_int (pv 1)) pe_int)))
      (pss_cons (ps_set (i := 3) scCreel.nd rfl (.inl rfl) (pe_op op_mod (pe_callTy call_int1 (by rfl) mi (by decide +kernel) (pa_cons (pe_callB call_abs (by rfl) ma (by decide +kernel) (pa_cons (pv 2) pa_nil)) pa_nil)) (pe_op op_powW (pe_op op_pow pe_int pe_int) pe_int)))
      (pss_cons (ps_set (i := 4) scCreel.nd rfl (.inl rfl) (pe_op op_mod (pe_callTy call_int1 (by rfl) mi (by decide +kernel) (pa_cons
          (pe_op op_add (pe_op op_add (pe_op op_add (pe_op op_mul (pv 3) pe_int) (pe_op op_mul pe_int (pv 1))) (pe_op op_mul pe_int (pe_callTy call_int1 (by rfl) mi (by decide +kernel) (pa_cons (pe_cmpR op_lt (pv 2) pe_int (nomark _)) pa_nil)))) pe_int) pa_nil)) pe_int))
      (pss_one (ps_ret (pe_lst (pa_cons (pe_callB (call_max2 rfl) (by rfl) mm (by decide +kernel) (pa_cons pe_int (pa_cons (pe_op op_sub (pv 3) (pe_op op_pow pe_int pe_int)) pa_nil))) (pa_cons (pv 4) (pa_cons pe_int pa_nil)))))))), ?_⟩
    refine ⟨fun σ' H' => H' = H ∧ ∃ z : Int, σ' = [some (.ref a), some (.int i), some (.int z), none, none], ?_, ?_⟩
    · refine ⟨_, rfl, .ref a, rfl, a, ns.map V.int, rfl, .inl hS, i, _, rfl, rfl, _, rfl, ite2 (fun e => ?_) (fun e => ?_)⟩
      · have hlt : i < ((ns.map V.int).length : Int) := of_decide_eq_true e
        rw [List.length_map] at hlt
        obtain ⟨n, rfl⟩ : ∃ n : Nat, i = (n : Int) := ⟨i.toNat, by omega⟩
        have hn : n < ns.length := by omega
        have g : (ns.map V.int)[n]? = some (.int ns[n]) := by
          rw [List.getElem?_map, List.getElem?_eq_getElem hn]
          rfl
        exact ⟨.ref a, rfl, _, rfl, a, _, _, _, rfl, rfl, hS, atI_nat g, rfl, _, rfl⟩
      · exact ⟨_, rfl, 113, i, rfl, rfl, .inl (by decide), _, _, rfl, rfl, rfl, _, rfl⟩
    · rintro σ' H' ⟨rfl, z, rfl⟩
      have hz0 : 0 ≤ (if z < 0 then -z else z) := by split <;> omega
      have hp : 0 < big := big_pos
      refine ⟨_, rfl, z, rfl, .inl ⟨_, rfl, 10, 58, rfl, rfl, ⟨by decide, by decide, by decide⟩, _, 10, rfl, rfl, ⟨by decide, by decide +kernel⟩, _, _, rfl, rfl, hp, ?_⟩⟩
      have hg0 : 0 ≤ (if z < 0 then -z else z) % big := Int.emod_nonneg _ (by omega)
      have hg1 : (if z < 0 then -z else z) % big < big := Int.emod_lt_of_pos _ hp
      show tSeq _ _ _ [some (.ref a), some (.int i), some (.int z), some (.int ((if z < 0 then -z else z) % big)), none] _
      generalize (if z < 0 then -z else z) % big = g at hg0 hg1
      have hgb : g.natAbs < 2 ^ 2000 := Nat.lt_of_le_of_lt (by omega) big_lt
      refine ⟨_, rfl, g, 5, rfl, rfl, .inr (by decide), _, rfl, 22801763, i, rfl, rfl, .inl (by decide), _, _, rfl, rfl, _, rfl, z, 0, rfl, rfl, .inr ⟨_, rfl, 86028121, _, rfl, rfl, .inl (by decide), _, _, rfl, rfl, _, 727, rfl, rfl, .inl ⟨_, rfl, _, 2305843009213693951, rfl, rfl, (by show (0 : Int) < 2305843009213693951; decide), ?_⟩⟩⟩
      refine ⟨_, rfl, 10, 17, rfl, rfl, ⟨by decide, by decide, by decide⟩, _, _, rfl, rfl, 0, _, rfl, _, rfl, (by show 3 ≤ sizeLine; decide), fun p hp => ?_⟩
      refine q p _ _ ⟨?_, ?_, Int.emod_nonneg _ (by decide), Int.emod_lt_of_pos _ (by decide), by decide, by decide⟩ hp
      · split <;> omega
      · refine Nat.lt_of_le_of_lt ?_ hgb
        have e17 : (0 : Int) < 10 ^ Int.toNat 17 := by decide
        split <;> omega
end
end K01

set_option maxRecDepth 100000
set_option maxHeartbeats 4000000
namespace K01
open PySem PySem.Spec PyProof.Rows L2
section
variable {P : Program} {w : World} {K : PySem.W.Frag} {mg : Str → Option Value} {base : Heap}
theorem ok_fish {f : Addr} {fd : FuncData} (F : Fun K "_law_fish" "_law_fish" sFish f fd) (mi : mg "int" = none) :
    FnOk P w K mg base CX0 1 f fd ["_law_creel_here", "_law_total"] spFish := by
  refine F.ok scFish (fun vs H Q E h => ?_) (fun cdv A outer s H vs Q E hr h => ?_)
  · obtain ⟨a, x, y, c, t, rfl, _⟩ := h
    rfl
  · obtain ⟨a, x, y, c, t, rfl, ha, C, hc, ht0, ht1, q⟩ := h
    refine ⟨_, pss_cons (ps_if (pt_cmpR op_gt (pe_ix ix_list (pv 0) pe_int (fun _ _ => rfl)) pe_int (nomark _))
        (pss_cons (ps_set (i := 2) scFish.nd rfl (.inl rfl) (pe_op op_mod (pe_callTy call_int1 (by rfl) mi (by decide +kernel) (pa_cons (pe_ix ix_list (pv 0) pe_int (fun _ _ => rfl)) pa_nil)) (pv 1)))
        (pss_cons (ps_asg (pe_op op_fdivW (pe_ix ix_list (pv 0) pe_int (fun _ _ => rfl)) (pv 1)) (pg_sub (pv 0) pe_int set_list))
        (pss_one (ps_ret (pv 2))))) pss_nil)
      (pss_cons (ps_asg (pe_op op_add (pe_ix ix_list (pv 0) pe_int (fun _ _ => rfl)) pe_int) (pg_sub (pv 0) pe_int set_list))
      (pss_cons (ps_set (i := 3) scFish.nd rfl (.inl rfl) (pe_op op_mod (pe_callTy call_int1 (by rfl) mi (by decide +kernel) (pa_cons (pe_op op_add (pe_op op_mul (pe_ix ix_list (pv 0) pe_int (fun _ _ => rfl)) pe_int) (pe_op op_mul (pe_ix ix_list (pv 0) pe_int (fun _ _ => rfl)) pe_int)) pa_nil)) pe_int))
      (pss_cons (ps_set (i := 4) scFish.nd rfl (.inl rfl) (pe_op op_mod (pe_callTy call_int1 (by rfl) mi (by decide +kernel) (pa_cons (pe_op op_add (pe_op op_mul (pv 3) (pv 3)) (pe_op op_mul pe_int (pe_ix ix_list (pv 0) pe_int (fun _ _ => rfl)))) pa_nil)) pe_int))
      (pss_one (ps_ret (pe_op op_mod (pe_callTy call_int1 (by rfl) mi (by decide +kernel) (pa_cons (pe_op op_fdiv (pe_op op_mod (pe_callTy call_int1 (by rfl) mi (by decide +kernel) (pa_cons (pe_op op_add (pe_op op_mul (pv 4) pe_int) (pv 3)) pa_nil)) pe_int) pe_int) pa_nil)) (pv 1))))))), ?_⟩
    have hS : SqL K H a [V.int x, V.int y, V.int c] := SqL.of ha
    refine ⟨.ref a, rfl, a, _, 0, .int x, rfl, rfl, hS, rfl, x, 0, rfl, rfl, _, rfl, ite2 (fun e => ?_) (fun e => ?_)⟩
    · have hx : 0 < x := of_decide_eq_true e
      refine ⟨.ref a, rfl, a, _, 0, .int x, rfl, rfl, hS, rfl, .inl ⟨x, rfl, .int t, rfl, x, t, rfl, rfl, ht0, ?_⟩⟩
      refine ⟨.ref a, rfl, a, _, 0, .int x, rfl, rfl, hS, rfl, .int t, rfl, x, t, rfl, rfl, wide_div (b := 64) ht0 (by omega) (by decide) (by decide), ?_⟩
      refine ⟨.ref a, rfl, a, _, 0, 0, rfl, rfl, ha, rfl, ?_⟩
      refine ⟨_, rfl, q _ _ _ (Int.emod_nonneg _ (by omega)) (Int.emod_lt_of_pos _ ht0) ⟨?_, ?_, C.y0, C.yb, C.c0, C.cb⟩ (by omega)⟩
      · exact Int.ediv_nonneg C.x0 (by omega)
      · have h1 : 0 ≤ x / t := Int.ediv_nonneg C.x0 (by omega)
        have h2 : x / t ≤ x := Int.ediv_le_self _ C.x0
        exact Nat.lt_of_le_of_lt (by omega) C.xb
    · have hx : x = 0 := by
        have := C.x0
        have h2 : ¬ 0 < x := fun z => e (decide_eq_true z)
        omega
      refine ⟨.ref a, rfl, a, _, 2, .int c, rfl, rfl, hS, rfl, c, 1, rfl, rfl, ?_⟩
      refine ⟨.ref a, rfl, a, _, 2, 2, rfl, rfl, ha, rfl, ?_⟩
      have hS2 : SqL K (upd H a (.lst [V.int x, V.int y, V.int (c + 1)])) a [V.int x, V.int y, V.int (c + 1)] := SqL.of upd_same
      have hy0 := C.y0
      have hyb := C.yb
      have hc0 := C.c0
      refine ⟨.ref a, rfl, a, _, 1, .int y, rfl, rfl, hS2, rfl, y, _, rfl, rfl, .inr (by decide), .ref a, rfl, a, _, 2, .int (c + 1), rfl, rfl, hS2, rfl, c + 1, _, rfl, rfl, .inr (by decide), _, _, rfl, rfl, .inl ⟨_, rfl, _, 2305843009213693951, rfl, rfl, (by show (0 : Int) < 2305843009213693951; decide), ?_⟩⟩
      have ho0 : ∀ z : Int, 0 ≤ z % 2305843009213693951 := fun z => Int.emod_nonneg _ (by decide)
      have ho1 : ∀ z : Int, z % 2305843009213693951 < 2305843009213693951 := fun z => Int.emod_lt_of_pos _ (by decide)
      show tSeq _ _ _ [some (.ref a), some (.int t), none, some (.int ((y * 3202034522624059733 + (c + 1) * 2654435761) % 2305843009213693951)), none] _
      have g0 := ho0 (y * 3202034522624059733 + (c + 1) * 2654435761)
      have g1 := ho1 (y * 3202034522624059733 + (c + 1) * 2654435761)
      generalize (y * 3202034522624059733 + (c + 1) * 2654435761) % 2305843009213693951 = u at g0 g1
      have t0 : ∀ z : Int, 0 ≤ z % 1152921504606846883 := fun z => Int.emod_nonneg _ (by decide)
      have t1 : ∀ z : Int, z % 1152921504606846883 < 1152921504606846883 := fun z => Int.emod_lt_of_pos _ (by decide)
      refine ⟨_, rfl, _, rfl, u, u, rfl, rfl, .inl ⟨by omega, by omega⟩, .ref a, rfl, a, _, 2, .int (c + 1), rfl, rfl, hS2, rfl, 81689, c + 1, rfl, rfl, .inl (by decide), _, _, rfl, rfl, .inl ⟨_, rfl, _, 1152921504606846883, rfl, rfl, (by show (0 : Int) < 1152921504606846883; decide), ?_⟩⟩
      refine ⟨_, rfl, _, 13, rfl, rfl, .inr (by decide), _, rfl, _, u, rfl, rfl, .inl ⟨_, rfl, _, 2305843009213693921, rfl, rfl, (by show (0 : Int) < 2305843009213693921; decide), _, 65536, rfl, rfl, ⟨by decide, by decide⟩, .inl ⟨_, rfl, _, rfl, _, t, rfl, rfl, ht0, ?_⟩⟩⟩
      have e : (upd (upd H a (.lst [V.int x, V.int y, V.int (c + 1)])) a (.lst [V.int x, V.int y, V.int (c + 1)])) = upd H a (.lst [V.int x, V.int y, V.int (c + 1)]) := upd_upd
      exact q _ _ _ (Int.emod_nonneg _ (by omega)) (Int.emod_lt_of_pos _ ht0) ⟨C.x0, C.xb, C.y0, C.yb, by omega, by omega⟩ (Int.le_refl _)
def spOne : Sp := fun vs H Q _ => ∃ (a : Addr) (it : V) (x y c : Int), vs = [.ref a, it] ∧ H a = some (.lst [.int x, .int y, .int c]) ∧ Cr x y c ∧ c < 1000000 ∧
  ((∃ (p : Addr) (xs : List V), it = .ref p ∧ H p = some (.lst xs) ∧ p ≠ a ∧ 0 < xs.length ∧ xs.length ≤ 1000 ∧ ∀ (r : Nat) v x' c', xs[r]? = some v → Cr x' y c' → c' ≤ c + 1 → Q v (upd H a (.lst [.int x', .int y, .int c']))) ∨
  (∃ z : Str, it = .str z ∧ 0 < z.length ∧ z.length ≤ 1000 ∧ ∀ (r ch : Nat) x' c', z.cps.toList[r]? = some ch → Cr x' y c' → c' ≤ c + 1 → Q (.str ⟨#[ch]⟩) (upd H a (.lst [.int x', .int y, .int c']))))
theorem ok_one {f fF : Addr} {fd fdF : FuncData} (F : Fun K "_law_one_of" "_law_one_of" sOne f fd) (FF : Fun K "_law_fish" "_law_fish" sFish fF fdF) (bF : Binds K fdF ["_law_creel_here", "_law_total"] []) (gF : mg "_law_fish" = some (.ref fF)) (mi : mg "int" = none) (ml : mg "len" = none) :
    FnOk P w K mg base CX0 2 f fd ["_law_creel_here", "_law_items"] spOne := by
  have GF : FnOk P w K mg base CX0 1 fF fdF ["_law_creel_here", "_law_total"] spFish := ok_fish FF mi
  refine F.ok scOne (fun vs H Q E h => ?_) (fun cdv A outer s H vs Q E hr h => ?_)
  · obtain ⟨a, it, x, y, c, rfl, _⟩ := h
    rfl
  · obtain ⟨a, it, x, y, c, rfl, ha, C, hc, hk⟩ := h
    refine ⟨_, pss_one (ps_ret (pe_ix (IxR.or ix_list ix_str) (pv 1) (pe_call GF hr (by rfl) gF FF.kp bF .nil pass0 (pa_cons (pv 0) (pa_cons (pe_callB (CallR.or call_len_seq call_len_str) (by rfl) ml PySem.boot_len (pa_cons (pv 1) pa_nil)) pa_nil))) (fun _ _ => rfl))), ?_⟩
    rcases hk with ⟨p, xs, rfl, hp, hpa, hl0, hl1, q⟩ | ⟨z, rfl, hl0, hl1, q⟩
    · refine ⟨.ref p, rfl, .ref a, rfl, .ref p, rfl, .inl ⟨p, xs, rfl, .inl (SqL.of hp), ?_⟩⟩
      refine ⟨a, x, y, c, xs.length, rfl, ha, C, hc, by omega, by omega, fun r x' c' hr0 hr1 C' hc' => .inl ?_⟩
      have hrl : r.toNat < xs.length := by omega
      have er : ((r.toNat : Nat) : Int) = r := Int.toNat_of_nonneg hr0
      have hp' : (upd H a (.lst [.int x', .int y, .int c'])) p = some (.lst xs) := by rw [upd_ne hpa]; exact hp
      refine ⟨p, xs, r, xs[r.toNat], rfl, rfl, SqL.of hp', ?_, q r.toNat _ x' c' (List.getElem?_eq_getElem hrl) C' hc'⟩
      have g := atI_nat (xs := xs) (List.getElem?_eq_getElem hrl)
      rw [er] at g
      exact g
    · have hzs : z.length ≤ sizeLine := Nat.le_trans hl1 (by decide)
      refine ⟨.str z, rfl, .ref a, rfl, .str z, rfl, .inr ⟨z, rfl, hzs, ?_⟩⟩
      refine ⟨a, x, y, c, z.length, rfl, ha, C, hc, by omega, by omega, fun r x' c' hr0 hr1 C' hc' => .inr ?_⟩
      have hrl : r.toNat < z.cps.toList.length := by
        have : z.length = z.cps.toList.length := by simp [Str.length]
        omega
      have er : ((r.toNat : Nat) : Int) = r := Int.toNat_of_nonneg hr0
      refine ⟨z, r, z.cps.toList[r.toNat], rfl, rfl, hzs, ?_, q r.toNat _ x' c' (List.getElem?_eq_getElem hrl) C' hc'⟩
      have g := atI_nat (xs := z.cps.toList) (List.getElem?_eq_getElem hrl)
      rw [er] at g
      exact g
end
end K01

set_option maxRecDepth 100000
set_option maxHeartbeats 4000000
namespace K01
open PySem PySem.Spec PyProof.Rows L2
theorem scIsName : FnScope ["value", "letter"] ["value"] (defScope sIsName) :=
  ⟨rfl, rfl, rfl, by decide +kernel, rfl, by decide +kernel, by decide +kernel⟩
theorem same_upd {H : Hp} {p : Addr} {o : HO} (h : H p = none) : Same H (upd H p o) := fun b x e => by
  rw [upd_ne (ne_of_none e h)]
  exact e
def isLet (c : Nat) : Bool := decide (97 ≤ c ∧ c ≤ 122)
/-- what a name is, by its signs -/
def nameS (z : Str) : Bool := decide (1 ≤ z.length ∧ z.length ≤ 8) && z.cps.toList.all isLet
inductive NameOf (K : PySem.W.Frag) (H : Hp) : V → Bool → Prop
  | str (z : Str) (h : z.length ≤ 1000) (ok : ∀ c ∈ z.cps.toList, c < 0x110000) : NameOf K H (.str z) (nameS z)
  | odd {v : V} {t : String} (h : TyX K H v (.type t)) (k : kitB t "str" = some false) : NameOf K H v false
def spName (K : PySem.W.Frag) : Sp := fun vs H Q _ => ∃ (v : V) (b : Bool), vs = [v] ∧ NameOf K H v b ∧ ∀ H', Same H H' → Q (.bl b) H'
theorem lc_str {x : Str} {g : TG} {tt : TT} {te : TE} {vs : List Nat} {σ : L2.St} {H1 : Hp} {D : Addr} {Qd : Hp → Prop} (Pv : Nat → Hp → Prop) (h0 : Pv 0 (upd H1 D (.lst [])))
    (hs : ∀ i c H, x.cps.toList[i]? = some c → Pv i H → g (.str ⟨#[c]⟩) (wipe σ vs) H fun σ2 H2 => wipe σ2 vs = wipe σ vs ∧ tt σ2 H2 fun b H3 =>
      if b = true then te σ2 H3 fun y H4 => ∃ acc, H4 D = some (.lst acc) ∧ acc.length < sizeLine ∧ Pv (i + 1) (upd H4 D (.lst (acc ++ [y]))) else Pv (i + 1) H3) (hd : ∀ H, Pv x.cps.toList.length H → Qd H) :
    ∃ W : Nat → Nat → Hp → Prop, (∃ m, W 0 m (upd H1 D (.lst []))) ∧ ∀ i m H, W i m H →
      ((Its x).stop i H ∧ Qd H) ∨ ((Its x).go i H ∧ ∃ Nx : Hp → Prop, (∀ H', Nx H' → ∃ m', m' < m ∧ W (i + 1) m' H') ∧ ∀ y H', (Its x).yld i H y H' → g y (wipe σ vs) H' fun σ2 H2 => wipe σ2 vs = wipe σ vs ∧ tt σ2 H2 fun b H3 =>
        if b = true then te σ2 H3 fun y H4 => ∃ acc, H4 D = some (.lst acc) ∧ acc.length < sizeLine ∧ Nx (upd H4 D (.lst (acc ++ [y]))) else Nx H3) := by
  refine ⟨fun i m H => m = x.cps.size - i ∧ i ≤ x.cps.size ∧ Pv i H, ⟨x.cps.size, by simp, Nat.zero_le _, h0⟩, ?_⟩
  rintro i m H ⟨rfl, hi, p⟩
  by_cases hlt : i < x.cps.size
  · refine .inr ⟨hlt, Pv (i + 1), fun H' p' => ⟨x.cps.size - (i + 1), by omega, rfl, hlt, p'⟩, fun y H' hy => ?_⟩
    obtain ⟨rfl, c, hc, rfl⟩ := hy
    exact hs i c _ (by simpa using hc) p
  · have e : i = x.cps.size := by omega
    subst e
    exact .inl ⟨Nat.le_refl _, hd H (by simpa using p)⟩
theorem letter_in (c : Nat) : decide (c ∈ ("abcdefghijklmnopqrstuvwxyz" : Str).cps.toList) = isLet c := by
  have e : ("abcdefghijklmnopqrstuvwxyz" : Str).cps.toList = List.range' 97 26 := by decide +kernel
  rw [e]
  unfold isLet
  refine decide_eq_decide.mpr ?_
  rw [List.mem_range'_1]
  omega
section
variable {P : Program} {w : World} {K : PySem.W.Frag} {mg : Str → Option Value} {base : Heap}
theorem ok_isName {f : Addr} {fd : FuncData} {tl tm : Tok} (F : Fun K "is_name" "is_name" sIsName f fd) (mi : mg "isinstance" = none) (ms : mg "str" = none) (ml : mg "len" = none) (ma : mg "all" = none) (gL : mg "LETTERS" = some (.str "abcdefghijklmnopqrstuvwxyz" tl)) (gM : mg "MAX_LETTERS" = some (.int 8 tm)) :
    FnOk P w K mg base CX0 1 f fd ["value"] (spName K) := by
  refine F.ok scIsName (fun vs H Q E h => ?_) (fun cdv A outer s H vs Q E hr h => ?_)
  · obtain ⟨v, b, rfl, _⟩ := h
    rfl
  · obtain ⟨v, b, rfl, hn, q⟩ := h
    refine ⟨_, pss_cons (ps_if (PW.pt (pw_or (pt_not (pt_val (pe_callB call_isi (by rfl) mi (by decide +kernel) (pa_cons (pv 0) (pa_cons (pe_bltn (v := .ty "str") (by rfl) ms (by decide +kernel) rfl) pa_nil)))))
          (pw_or1 (pt_not (pt_chain op_le op_le pe_int (pe_callB call_len_str (by rfl) ml PySem.boot_len (pa_cons (pv 0) pa_nil)) (pe_glob (v := .int 8) (by rfl) gM ⟨_, rfl⟩))))))
        (pss_one (ps_ret pe_bl)) pss_nil)
      (pss_one (ps_ret (pe_callB (cr_all rfl) (by rfl) ma (by decide +kernel) (pa_cons
        (pe_lc (own := [("letter", 1)]) (g := gName 1) (tt := tYes) rfl scIsName.nd (pi_str (pv 0)) (blkOk_by (N := ["value", "letter"]) (sc := defScope sIsName) (by decide +kernel))
          (fun _ _ _ _ _ => pg_name (i := 1) scIsName.nd rfl (Or.inl rfl)) (fun _ _ _ _ _ => pts_nil) (fun _ _ _ _ _ => pe_cmpR op_in_sign (pv 1) (pe_glob (v := .str "abcdefghijklmnopqrstuvwxyz") (by rfl) gL ⟨_, rfl⟩) rfl)) pa_nil)))), ?_⟩
    cases hn with
    | odd hty hk =>
      exact ⟨v, rfl, v, .ty "str", _, _, false, rfl, .ty _, hty, kit_ty hk, _, rfl, q H (Same.refl H)⟩
    | str z hz hok =>
      refine ⟨_, rfl, .str z, .ty "str", .type "str", .type "str", true, rfl, .ty _, .base (.str z), kit_ty (by decide +kernel), true, rfl, ?_⟩
      refine ⟨.str z, rfl, z, rfl, Nat.le_trans hz (by decide), 1, _, rfl, rfl, _, rfl, ?_⟩
      refine ite2 (fun e1 => ?_) (fun e1 => ?_)
      · have h1 : (1 : Int) ≤ z.length := of_decide_eq_true e1
        refine ⟨_, _, rfl, rfl, _, rfl, ite2 (fun e2 => ?_) (fun e2 => ?_)⟩
        · have h2 : ¬ ((z.length : Int) ≤ 8) := fun q => by
            rw [decide_eq_true q] at e2
            cases e2
          have en : nameS z = false := by
            unfold nameS
            rw [decide_eq_false (by omega), Bool.false_and]
          rw [en] at q
          exact q H (Same.refl H)
        · have h2 : (z.length : Int) ≤ 8 := by
            have e3 : decide ((z.length : Int) ≤ 8) = true := by
              cases e4 : decide ((z.length : Int) ≤ 8) with
              | true => rfl
              | false =>
                rw [e4] at e2
                exact absurd rfl e2
            exact of_decide_eq_true e3
          refine ⟨.str z, rfl, z, rfl, fun D hD => ?_⟩
          have ltb : z.cps.toList.length ≤ 8 := by
            have : z.length = z.cps.toList.length := by simp [Str.length]
            omega
          refine lc_str (fun i H' => H' = upd H D (.lst ((z.cps.toList.take i).map fun c => V.bl (isLet c)))) rfl (fun i c H' hc hP => ?_) (fun H' hP => ?_)
          · subst hP
            refine ⟨rfl, _, rfl, c, _, rfl, rfl, _, upd_same, ?_, ?_⟩
            · rw [List.length_map, List.length_take]
              have : sizeLine = sizeLine := rfl
              rw [sizeLine_eq]
              omega
            · rw [upd_upd, List.take_add_one, hc, List.map_append, letter_in]
              rfl
          · subst hP
            refine ⟨D, z.cps.toList.map isLet, rfl, SqL.of ?_, ?_⟩
            · rw [upd_same, List.take_length, List.map_map]
              rfl
            · have en : nameS z = (z.cps.toList.map isLet).all id := by
                unfold nameS
                rw [decide_eq_true (by omega), Bool.true_and, List.all_map]
                rfl
              rw [← en]
              exact q _ (same_upd hD)
      · have h1 : ¬ (1 : Int) ≤ z.length := fun h => e1 (decide_eq_true h)
        have en : nameS z = false := by
          unfold nameS
          rw [decide_eq_false (by omega), Bool.false_and]
        rw [en] at q
        exact ⟨_, rfl, q H (Same.refl H)⟩
end
end K01

set_option maxRecDepth 100000
set_option maxHeartbeats 4000000
/-! repr of lists of what is known, an empty dict among it -/
namespace KX
open PySem PySem.Spec PyProof.Rows L2
mutual
/-- v is read as d -/
inductive Shw (H : Hp) : V → PyData → Prop
  | non : Shw H .non .none
  | bl (b : Bool) : Shw H (.bl b) (.bool b)
  | int (i : Int) : Shw H (.int i) (.int i)
  | str (x : Str) : Shw H (.str x) (.str x)
  | lst {a : Addr} {xs : List V} {ds : List PyData} : H a = some (.lst xs) → ShwAll H xs ds → Shw H (.ref a) (.list ds)
  | tup {a : Addr} {xs : List V} {ds : List PyData} : H a = some (.tup xs) → ShwAll H xs ds → Shw H (.ref a) (.tuple ds)
  | dct {a : Addr} : H a = some (.dK []) → Shw H (.ref a) (.dict [])
inductive ShwAll (H : Hp) : List V → List PyData → Prop
  | nil : ShwAll H [] []
  | cons {v : V} {vs : List V} {d : PyData} {ds : List PyData} : Shw H v d → ShwAll H vs ds → ShwAll H (v :: vs) (d :: ds)
end
section
variable {H H' : Hp}
mutual
theorem Shw.grow (g : ∀ b o, H b = some o → (∀ ps, o ≠ .tbl ps) → H' b = some o) : ∀ {v : V} {d : PyData}, Shw H v d → Shw H' v d
  | _, _, .non => .non
  | _, _, .bl b => .bl b
  | _, _, .int i => .int i
  | _, _, .str x => .str x
  | _, _, .lst h r => .lst (g _ _ h fun _ z => nomatch z) (ShwAll.grow g r)
  | _, _, .tup h r => .tup (g _ _ h fun _ z => nomatch z) (ShwAll.grow g r)
  | _, _, .dct h => .dct (g _ _ h fun _ z => nomatch z)
theorem ShwAll.grow (g : ∀ b o, H b = some o → (∀ ps, o ≠ .tbl ps) → H' b = some o) : ∀ {vs : List V} {ds : List PyData}, ShwAll H vs ds → ShwAll H' vs ds
  | _, _, .nil => .nil
  | _, _, .cons a r => .cons (Shw.grow g a) (ShwAll.grow g r)
end
theorem ShwAll.app : ∀ {xs ys : List V} {ds es : List PyData}, ShwAll H xs ds → ShwAll H ys es → ShwAll H (xs ++ ys) (ds ++ es)
  | _, _, _, _, .nil, h => h
  | _, _, _, _, .cons a r, h => .cons a (ShwAll.app r h)
theorem ShwAll.at : ∀ {xs : List V} {ds : List PyData}, xs.length = ds.length → (∀ (i : Nat) (x : V) (d : PyData), xs[i]? = some x → ds[i]? = some d → Shw H x d) → ShwAll H xs ds
  | [], [], _, _ => .nil
  | x :: xs, d :: ds, hl, h => .cons (h 0 x d rfl rfl) (ShwAll.at (by simpa using hl) fun i y e h1 h2 => h (i + 1) y e (by simpa using h1) (by simpa using h2))
  | [], _ :: _, hl, _ => by simp at hl
  | _ :: _, [], hl, _ => by simp at hl
end
section
variable {P : Program} {w : World} {H : Hp} {h : Heap}
theorem lst_get (ok : HOk P w H h) {a : Addr} {xs : List V} (e : H a = some (.lst xs)) : xs.length ≤ sizeLine ∧ ∃ (its : List Value) (n : Nat), Vals xs its ∧ h.get? a = some { cls := .type "list", data := .seq its.toArray n } := ok a _ e
theorem tup_get (ok : HOk P w H h) {a : Addr} {xs : List V} (e : H a = some (.tup xs)) : xs.length ≤ sizeLine ∧ ∃ its : List Value, Vals xs its ∧ IsTup h a its.toArray := ok a _ e
theorem dct_get (ok : HOk P w H h) {a : Addr} (e : H a = some (.dK [])) : (a == sysModules) = false ∧ ∃ (o : Obj) (n : Nat), h.get? a = some o ∧ o.cls = .type "dict" ∧ o.data = .dict #[] n := by
  obtain ⟨_, hs, vs, r, o, es, ep, h1, h2, h3, h4⟩ := (ok a _ e : ObjOk P w H h a (.dK []))
  refine ⟨hs, o, ep, h1, h2.1, ?_⟩
  cases r
  have e0 : es.toList = [] := by
    have q := h4.2.1
    generalize es.toList = l at q
    cases q
    rfl
  rw [h3, show es = #[] from Array.toList_eq_nil_iff.mp e0]
mutual
theorem shw_reads (ok : HOk P w H h) : ∀ (d : PyData) (v : V) (u : Value), Shw H v d → RelV v u → ∃ as, Reads h u d as
  | .none, _, _, x, r => by
    cases x
    cases r
    exact ⟨[], .none⟩
  | .bool b, _, _, x, r => by
    cases x
    cases r
    exact ⟨[], .bool b⟩
  | .int i, _, _, x, r => by
    cases x
    obtain ⟨t, e⟩ := r
    subst e
    exact ⟨[], .int i t⟩
  | .str y, _, _, x, r => by
    cases x
    obtain ⟨t, e⟩ := r
    subst e
    exact ⟨[], .str y t⟩
  | .list ds, _, _, x, r => by
    cases x with
    | lst e ha =>
      cases r
      obtain ⟨_, its, n, rv, g⟩ := lst_get ok e
      obtain ⟨as, q⟩ := shw_readsAll ok ds _ its ha rv
      exact ⟨_, .list g rfl rfl q⟩
  | .tuple ds, _, _, x, r => by
    cases x with
    | tup e ha =>
      cases r
      obtain ⟨_, its, rv, ⟨o, g, gc, n, gd⟩⟩ := tup_get ok e
      obtain ⟨as, q⟩ := shw_readsAll ok ds _ its ha rv
      exact ⟨_, .tuple g gc gd q⟩
  | .dict kvs, _, _, x, r => by
    cases x with
    | dct e =>
      cases r
      obtain ⟨_, o, n, g, gc, gd⟩ := dct_get ok e
      exact ⟨_, .dict g gc gd (kvs := []) .nil .nil⟩
theorem shw_readsAll (ok : HOk P w H h) : ∀ (ds : List PyData) (vs : List V) (us : List Value), ShwAll H vs ds → Vals vs us → ∃ as, ReadsAll h us ds as
  | [], _, _, x, r => by
    cases x
    cases r
    exact ⟨[], .nil⟩
  | d :: ds, _, _, x, r => by
    cases x with
    | cons x1 x2 =>
      cases r with
      | cons r1 r2 =>
        obtain ⟨as, q1⟩ := shw_reads ok d _ _ x1 r1
        obtain ⟨bs, q2⟩ := shw_readsAll ok ds _ _ x2 r2
        exact ⟨_, .cons q1 q2⟩
end
theorem none_mem {n : Nat} : ReadAtMost h n [] := fun _ z => nomatch z
mutual
theorem shw_repr (ok : HOk P w H h) : ∀ (d : PyData) (v : V) (u : Value), Shw H v d → RelV v u → d.showable = true → d.shown.length ≤ sizeLine → ∃ bs, ReadAtMost h d.depth bs ∧ ReprK P w bs h d.depth u d.shown
  | .none, _, _, x, r, hs, hz => by
    cases x
    cases r
    refine ⟨[], none_mem, ?_⟩
    simp only [PyData.shown]
    exact .of_is ReprIs.none _ _ _
  | .bool b, _, _, x, r, hs, hz => by
    cases x
    cases r
    refine ⟨[], none_mem, ?_⟩
    simp only [PyData.shown]
    exact .of_is (ReprIs.bool b) _ _ _
  | .int i, _, _, x, r, hs, hz => by
    cases x
    obtain ⟨t, e⟩ := r
    subst e
    refine ⟨[], none_mem, ?_⟩
    simp only [PyData.shown]
    exact .of_is (ReprIs.int t (by simpa [PyData.showable] using hs)) _ _ _
  | .str y, _, _, x, r, hs, hz => by
    cases x
    obtain ⟨t, e⟩ := r
    subst e
    refine ⟨[], none_mem, ?_⟩
    simp only [PyData.shown] at hz ⊢
    exact .of_is (ReprIs.str y t hz) _ _ _
  | .list ds, v, u, x, r, hs, hz => by
    obtain ⟨as0, rd⟩ := shw_reads ok _ v u x r
    cases x with
    | lst e ha =>
      cases r
      obtain ⟨_, its, n, rv, g⟩ := lst_get ok e
      have hz1 : (listText (PyData.shownAll ds)).length ≤ sizeLine := by simpa only [PyData.shown] using hz
      obtain ⟨bs, hb, hk⟩ := shw_reprAll ok ds _ its ha rv (by simpa only [PyData.showable] using hs) fun t ht => Nat.le_trans (listText_mem_le ht) hz1
      have hna := not_mem_of_deeper rd (by simp only [PyData.depth]; omega) hb
      refine ⟨_, ReadAtMost.cons rd (by simp only [PyData.depth]; omega) hb, ?_⟩
      simp only [PyData.depth, PyData.shown]
      cases its with
      | nil =>
        cases rv
        cases ha
        simp only [PyData.shownAll, listText_nil]
        exact ReprK.listEmpty g rfl rfl
      | cons y l => exact ReprK.list g rfl rfl hna (by simpa using hk.length_eq) fun i z q => hk.item i z (by simpa using q)
  | .tuple ds, v, u, x, r, hs, hz => by
    obtain ⟨as0, rd⟩ := shw_reads ok _ v u x r
    cases x with
    | tup e ha =>
      cases r
      obtain ⟨_, its, rv, ⟨o, g, gc, n, gd⟩⟩ := tup_get ok e
      have hz1 : (tupleText (PyData.shownAll ds)).length ≤ sizeLine := by simpa only [PyData.shown] using hz
      obtain ⟨bs, hb, hk⟩ := shw_reprAll ok ds _ its ha rv (by simpa only [PyData.showable] using hs) fun t ht => Nat.le_trans (tupleText_mem_le ht) hz1
      have hna := not_mem_of_deeper rd (by simp only [PyData.depth]; omega) hb
      refine ⟨_, ReadAtMost.cons rd (by simp only [PyData.depth]; omega) hb, ?_⟩
      simp only [PyData.depth, PyData.shown]
      exact ReprK.tuple g gc gd hna hk
  | .dict kvs, v, u, x, r, hs, hz => by
    obtain ⟨as0, rd⟩ := shw_reads ok _ v u x r
    cases x with
    | dct e =>
      cases r
      obtain ⟨sy, o, n, g, gc, gd⟩ := dct_get ok e
      refine ⟨_, ReadAtMost.cons rd (n := 0) (Nat.zero_le _) none_mem, ?_⟩
      simp only [PyData.depth, PyData.shown]
      exact ReprK.dict g gc gd sy (fun z => nomatch z) .nil
theorem shw_reprAll (ok : HOk P w H h) : ∀ (ds : List PyData) (vs : List V) (us : List Value), ShwAll H vs ds → Vals vs us → PyData.showableAll ds = true → (∀ t ∈ PyData.shownAll ds, t.length ≤ sizeLine) → ∃ bs, ReadAtMost h (PyData.depthAll ds) bs ∧ ReprAllK P w bs h (PyData.depthAll ds) us (PyData.shownAll ds)
  | [], _, _, x, r, hs, hz => by
    cases x
    cases r
    refine ⟨[], none_mem, ?_⟩
    simp only [PyData.shownAll]
    exact .nil
  | d :: ds, _, _, x, r, hs, hz => by
    cases x with
    | cons x1 x2 =>
      cases r with
      | cons r1 r2 =>
        simp only [PyData.showableAll, Bool.and_eq_true] at hs
        simp only [PyData.shownAll, List.mem_cons, forall_eq_or_imp] at hz
        obtain ⟨b1, h1, k1⟩ := shw_repr ok d _ _ x1 r1 hs.1 hz.1
        obtain ⟨b2, h2, k2⟩ := shw_reprAll ok ds _ _ x2 r2 hs.2 hz.2
        simp only [PyData.depthAll, PyData.shownAll]
        refine ⟨b1 ++ b2, (h1.mono (Nat.le_max_left _ _)).append (h2.mono (Nat.le_max_right _ _)), .cons ((k1.more fun b q => List.mem_append_left _ q).level_le (Nat.le_max_left _ _)) (k2.more_le (fun b q => List.mem_append_right _ q) (Nat.le_max_right _ _))⟩
end
end
/-- repr(xs), xs a list that is not empty -/
def rReprL : List V → Hp → VK → Prop := fun vs H Q => ∃ (a : Addr) (x : V) (xs : List V) (ds : List PyData), vs = [.ref a] ∧ H a = some (.lst (x :: xs)) ∧ ShwAll H (x :: xs) ds ∧ (PyData.list ds).showable = true ∧ (PyData.list ds).depth ≤ 60 ∧ (PyData.list ds).shown.length ≤ 1000000 ∧ Q (.str (PyData.list ds).shown) H
theorem call_reprL {X : Cx} (hg : X.A.guards = some []) (hu : X.A.units + 64 < cLine) : CallR X (.builtin "repr") rReprL := by
  intro pins s σ H vs us Q I r h
  obtain ⟨a, x, xs, ds, rfl, e, ha, hs, hd, hz, q⟩ := h
  obtain ⟨u, rfl, rr⟩ := vals1 r
  obtain rfl : u = Value.ref a := rr
  have hz1 : (listText (PyData.shownAll ds)).length ≤ sizeLine := by
    simp only [PyData.shown] at hz
    rw [sizeLine_eq]
    omega
  obtain ⟨as0, rd⟩ := shw_reads I.hok (.list ds) (.ref a) (.ref a) (.lst e ha) rfl
  obtain ⟨_, its, n, rv, g⟩ := lst_get I.hok e
  obtain ⟨bs, hb, hk⟩ := shw_reprAll I.hok ds _ its ha rv (by simpa only [PyData.showable] using hs) fun t ht => Nat.le_trans (listText_mem_le ht) hz1
  have hna := not_mem_of_deeper rd (by simp only [PyData.depth]; omega) hb
  simp only [PyData.depth] at hd
  simp only [PyData.shown] at q
  cases its with
  | nil => cases rv
  | cons y l =>
    refine call_repr_slot (by omega) ⟨_, g, rfl⟩ F.slot_list_repr.toG ?_
    refine call_list_reprK g rfl rfl hna (by simpa using hk.length_eq) (fun i z w' => hk.item i z (by simpa using w')) hg (fun b _ => Clear.nil b) (by show X.A.units + 1 + _ < _; omega) (fun _ _ z => z) (fun h' t tk kp => ?_) hz1
    exact ⟨_, _, rfl, .str _, H, I.kept kp, ⟨t, rfl⟩, q⟩
end KX

set_option autoImplicit false
set_option maxRecDepth 100000
set_option maxHeartbeats 4000000
/-! {**a, **b, ..}: dicts put one behind the other into a new one -/
namespace KX
open PySem PySem.Spec PyProof.Rows L2
section
variable {prog : Program} {w : World} {κ : Type} [DecidableEq κ] {knd : KeyKind prog w κ} {A : Around} {E : Value → Shared → Prop} {s : Shared}
theorem put_pairs {d : Addr} {kvs : List (κ × Value)} {k : κ} {key v : Value} {Q : Unit → Shared → Prop} (hk : knd.is k key = true) (m : s.heap.DictOf knd d kvs)
    (few : kvs.length ≤ sizeLine) (q : ∀ h', h'.DictOf knd d (stored kvs k v) → Heap.SameBut d s.heap h' → Q () { s with heap := h' }) :
    wpAny (model prog w) A (dictPut d (knd.hash k) key v) Q E s := by
  obtain ⟨o, es, ep, ho, ex, dt, ks, ps, nd⟩ := m
  have z : es.size ≤ sizeLine := by
    have := ps.length
    rw [Array.length_toList] at this
    omega
  have same : (es.findIdx? fun e => knd.is k e.key) = kvs.findIdx? fun y => decide (y.1 = k) := by
    obtain ⟨l⟩ := es
    rw [← ps.findIdx k]
    simp
  unfold dictPut
  refine wpAny_bind (wpAny_dictFind_of hk ho dt ks ?_)
  cases e : es.findIdx? fun e => knd.is k e.key with
  | some i =>
    have there := any_of_findIdx_some (same ▸ e)
    refine wpAny_updateDict ho dt (q _ ⟨_, _, ep, Heap.get?_update_self _ ho (Obj.isFreed_of_dict (Obj.data_mapDict dt _)), ex.mapDict _, Obj.data_mapDict dt _, ks.modify _ _, ?_, ?_⟩ (Heap.SameBut.update ..))
    · unfold stored
      rw [if_pos there]
      have y := ps.modify nd (i := i) (k := k) (by rw [← e]; obtain ⟨l⟩ := es; simp) v
      obtain ⟨l⟩ := es
      simpa using y
    · unfold stored
      rw [if_pos there, keys_map_store]
      exact nd
  | none =>
    have new := not_mem_of_findIdx_none (same ▸ e)
    have absent : ¬ (kvs.any fun y => decide (y.1 = k)) = true := fun y => by
      obtain ⟨p, hp, e2⟩ := List.any_eq_true.mp y
      exact new (List.mem_map.mpr ⟨p, hp, of_decide_eq_true e2⟩)
    refine wpAny_updateDictKeys (hz := z) ho dt (q _ ⟨_, _, ep + 1, Heap.get?_update_self _ ho (Obj.isFreed_of_dict (Obj.data_mapDictKeys dt _)), ex.mapDictKeys _, Obj.data_mapDictKeys dt _, ks.push hk _, ?_, ?_⟩ (Heap.SameBut.update ..))
    · unfold stored
      rw [if_neg absent]
      have y := ps.append hk (knd.hash k) v
      obtain ⟨l⟩ := es
      simpa using y
    · unfold stored
      rw [if_neg absent, List.map_append, List.nodup_append]
      refine ⟨nd, by simp, fun x hx y hy => ?_⟩
      rw [List.map_cons, List.map_nil, List.mem_singleton] at hy
      rw [hy]
      intro e2
      rw [e2] at hx
      exact new hx
theorem merge_pairs {d a : Addr} {kvs more : List (κ × Value)} {Q : Unit → Shared → Prop} (ne : d ≠ a) (sy : (a == sysModules) = false) (md : s.heap.DictOf knd d kvs) (ma : s.heap.DictOf knd a more)
    (few : kvs.length + more.length ≤ sizeLine) (q : ∀ h', h'.DictOf knd d (merged kvs more) → h'.DictOf knd a more → Heap.SameBut d s.heap h' → Q () { s with heap := h' }) :
    wpAny (model prog w) A (mergeMapping d (.ref a) false) Q E s := by
  obtain ⟨o1, es1, ep1, ho1, ex1, dt1, ks1, ps1, nd1⟩ := id md
  obtain ⟨o2, es2, ep2, ho2, ex2, dt2, ks2, ps2, nd2⟩ := id ma
  have len : more.length = es2.size := by
    have := ps2.length
    rw [Array.length_toList] at this
    exact this.symm
  unfold mergeMapping
  refine wpAny_bind (wpAny_isInstance ma.typeIs isSubtype_dict_dict ?_)
  dsimp only
  rw [if_pos rfl]
  refine wpAny_bind (wpAny_specialOf ma.typeIs F.slot_dict_iter.lookup (wpAny_bind (wpAny_pure ?_)))
  rw [beq_self_eq_true]
  dsimp only
  rw [if_neg (by rw [sy]; exact Bool.false_ne_true)]
  refine wpAny_bind (wpAny_dictEntries ho1 dt1 ?_)
  have quiet : ∀ e ∈ es2.toList, ∀ b, e.key ≠ .ref b := fun e he b z => by
    obtain ⟨y, hy, _⟩ := ks2 e (Array.mem_toList_iff.mp he)
    have := knd.byValue y _ hy
    rw [z] at this
    cases this
  split
  case' isTrue =>
    refine wpAny_bind (wpAny_dictEntries ho2 dt2 (wpAny_bind ?_))
    refine wpAny_of_eq (a := PUnit.unit) (by
      rw [← Array.forIn_toList]
      refine forIn_yield_id _ fun e he u => ?_
      have := quiet e he
      split
      · rename_i b z
        exact absurd z (this b)
      · rfl) ?_
  all_goals
    refine wpAny_bind (wpAny_dictEntries ho2 dt2 (wpAny_bind (wpAny_dictEpoch ho2 dt2 (wpAny_bind ?_))))
    refine wpAny_forIn_list _ (fun rest _ s' => ∃ (h' : Heap) (i : Nat), s' = { s with heap := h' } ∧ rest = (List.range es2.size).drop i ∧ i ≤ es2.size ∧ h'.DictOf knd d (merged kvs (more.take i)) ∧ h'.get? a = some o2 ∧ Heap.SameBut d s.heap h')
      _ ?_ ?_ _ _ ⟨s.heap, 0, rfl, by simp, Nat.zero_le _, by simpa [merged] using md, ho2, Heap.SameBut.refl _ _⟩
    · rintro x rest u s' ⟨h', i, rfl, hr, hi, m1, g1, b1⟩
      have lt : i < es2.size := by
        rcases Nat.lt_or_ge i es2.size with y | y
        · exact y
        · rw [List.drop_eq_nil_of_le (by rw [List.length_range]; exact y)] at hr
          cases hr
      rw [List.drop_eq_getElem_cons (by rw [List.length_range]; exact lt), List.getElem_range] at hr
      obtain ⟨rfl, rfl⟩ := List.cons.inj hr
      refine wpAny_bind (wpAny_dictEntries g1 dt2 ?_)
      rw [Array.getElem?_eq_getElem lt]
      dsimp only
      have lm : x < more.length := by rw [len]; exact lt
      obtain ⟨hkey, hval⟩ := ps2.get? (e := es2[x]) (by simp [lt]) (List.getElem?_eq_getElem lm)
      obtain ⟨k', hk', hh⟩ := ks2 es2[x] (Array.getElem_mem lt)
      have same := knd.inj _ _ _ hk' hkey
      rw [if_neg Bool.false_ne_true, hh, hval, same]
      have z : (merged kvs (more.take x)).length ≤ sizeLine := by
        have y := merged_length_le kvs (more.take x)
        rw [List.length_take] at y
        omega
      refine wpAny_bind (wpAny_holding (put_pairs hkey m1 z fun h2 m2 b2 => ?_))
      have g2 : h2.get? a = some o2 := (b2.2 a ne.symm).trans g1
      refine wpAny_bind (wpAny_dictEpoch g2 dt2 ?_)
      rw [if_neg (by simp)]
      exact wpAny_pure ⟨h2, x + 1, rfl, rfl, lt, by rw [merged_take_succ kvs more x _ (List.getElem?_eq_getElem lm)]; exact m2, g2, b1.trans b2⟩
    · rintro u s' ⟨h', i, rfl, hr, hi, m1, g1, b1⟩
      have full : i = es2.size := by
        rcases Nat.lt_or_ge i es2.size with y | y
        · rw [List.drop_eq_getElem_cons (by rw [List.length_range]; exact y)] at hr
          cases hr
        · exact Nat.le_antisymm hi y
      rw [full, ← len, List.take_length] at m1
      exact wpAny_pure (q h' m1 ⟨o2, es2, ep2, g1, ex2, dt2, ks2, ps2, nd2⟩ b1)
end
end KX

set_option autoImplicit false
set_option maxRecDepth 100000
set_option maxHeartbeats 4000000
namespace KX
open PySem PySem.Spec PyProof.Rows L2
section
variable {prog : Program} {w : World} {κ : Type} [DecidableEq κ] {knd : KeyKind prog w κ} {A : Around} {E : Value → Shared → Prop} {s : Shared}
theorem display_stars (knd : KeyKind prog w κ) {vs : List (Sem Value)} {Q : Value → Shared → Prop} (some_ : vs ≠ []) (I : List (Sem Value) → Addr → Shared → Prop)
    (first : I vs s.heap.objs.size { s with heap := s.heap.push { cls := .type "dict", data := .dict #[] } })
    (step : ∀ v rest d s, I (v :: rest) d s → wpAny (model prog w) A v (fun m s1 => ∃ (a : Addr) (kvs more : List (κ × Value)), m = .ref a ∧ d ≠ a ∧ (a == sysModules) = false ∧ s1.heap.DictOf knd d kvs ∧ s1.heap.DictOf knd a more ∧ kvs.length + more.length ≤ sizeLine ∧
      ∀ h', h'.DictOf knd d (merged kvs more) → h'.DictOf knd a more → Heap.SameBut d s1.heap h' → I rest d { s1 with heap := h' }) E s)
    (fin : ∀ d s, I [] d s → Q (.ref d) s) : wpAny (model prog w) A (dictDisplay (vs.map fun v => (none, v))) Q E s := by
  unfold dictDisplay
  dsimp only
  refine wpAny_bind (wpAny_forIn_list _ (fun rest b s' => (b = (none, []) ∧ rest = (vs.map fun v => ((none : Option (Sem Value)), v)) ∧ s' = s) ∨ ∃ (d : Addr) (l : List (Sem Value)), b = (some d, []) ∧ rest = (l.map fun v => ((none : Option (Sem Value)), v)) ∧ I l d s') _ ?_ ?_ _ _ (.inl ⟨rfl, rfl, rfl⟩))
  · rintro ⟨x, v⟩ rest ⟨b1, b2⟩ s' h
    dsimp only
    rcases h with ⟨e, hr, rfl⟩ | ⟨d, l, e, hr, hI⟩
    · obtain ⟨rfl, rfl⟩ := Prod.mk.inj e
      cases vs with
      | nil => exact absurd rfl some_
      | cons u us =>
        rw [List.map_cons] at hr
        obtain ⟨h1, rfl⟩ := List.cons.inj hr
        obtain ⟨rfl, rfl⟩ := Prod.mk.inj h1
        dsimp only
        rw [if_pos (show ([] : List (Sem Value × Sem Value)).isEmpty = true from rfl)]
        refine wpAny_bind (wpAny_pure ?_)
        dsimp only
        refine wpAny_bind (wpAny_alloc ?_)
        refine wpAny_bind (wpAny_holding (wpAny_mono (step v us _ _ first) (fun m s1 hm => ?_) fun _ _ z => z))
        obtain ⟨a, kvs, more, rfl, ne, sy, m1, m2, few, q⟩ := hm
        exact wpAny_bind (wpAny_onRaise (wpAny_tryCatch (wpAny_onRaise (wpAny_holding (merge_pairs ne sy m1 m2 few fun h' x y z => wpAny_pure (.inr ⟨_, us, rfl, rfl, q h' x y z⟩))))))
    · obtain ⟨rfl, rfl⟩ := Prod.mk.inj e
      cases l with
      | nil => cases hr
      | cons u us =>
        rw [List.map_cons] at hr
        obtain ⟨h1, rfl⟩ := List.cons.inj hr
        obtain ⟨rfl, rfl⟩ := Prod.mk.inj h1
        dsimp only
        rw [if_pos (show ([] : List (Sem Value × Sem Value)).isEmpty = true from rfl)]
        refine wpAny_bind (wpAny_pure ?_)
        dsimp only
        refine wpAny_bind (wpAny_pure ?_)
        refine wpAny_bind (wpAny_holding (wpAny_mono (step v us _ _ hI) (fun m s1 hm => ?_) fun _ _ z => z))
        obtain ⟨a, kvs, more, rfl, ne, sy, m1, m2, few, q⟩ := hm
        exact wpAny_bind (wpAny_onRaise (wpAny_tryCatch (wpAny_onRaise (wpAny_holding (merge_pairs ne sy m1 m2 few fun h' x y z => wpAny_pure (.inr ⟨_, us, rfl, rfl, q h' x y z⟩))))))
  · rintro ⟨b1, b2⟩ s' h
    rcases h with ⟨e, hr, rfl⟩ | ⟨d, l, e, hr, hI⟩
    · cases vs with
      | nil => exact absurd rfl some_
      | cons u us => cases hr
    · obtain ⟨rfl, rfl⟩ := Prod.mk.inj e
      cases l with
      | cons u us => cases hr
      | nil =>
        dsimp only
        rw [if_pos (show ([] : List (Sem Value × Sem Value)).isEmpty = true from rfl)]
        exact wpAny_bind (wpAny_pure (wpAny_pure (fin d s' hI)))
end
end KX

set_option autoImplicit false
set_option maxRecDepth 100000
set_option maxHeartbeats 4000000
namespace KX
open PySem PySem.Spec PyProof.Rows L2
/-- the readings of values that are unpacked one behind the other -/
inductive PStars (X : Cx) : List Expr → List TE → Prop
  | nil : PStars X [] []
  | cons {e : Expr} {es : List Expr} {t : TE} {ts : List TE} : PE X e t → PStars X es ts → PStars X (e :: es) (t :: ts)
def tStarsL : List TE → Addr → List (Key × V) → L2.St → Hp → (List (Key × V) → Hp → Prop) → Prop
  | [], _, kvs, _, H, Q => Q kvs H
  | t :: ts, d, kvs, σ, H, Q => t σ H fun v H1 => ∃ (a : Addr) (more : List (Key × V)), v = .ref a ∧ d ≠ a ∧ H1 d = some (.dK kvs) ∧ H1 a = some (.dK more) ∧ kvs.length + more.length ≤ sizeLine ∧ tStarsL ts d (mergeK kvs more) σ (upd H1 d (.dK (mergeK kvs more))) Q
/-- {**a, **b, ..}: the new dict stands empty ahead of the first value -/
def tStars (ts : List TE) : TE := fun σ H Q => ∀ d, H d = none → tStarsL ts d [] σ (upd H d (.dK [])) fun kvs H1 => Q (.ref d) H1
section
variable {X : Cx} {pos : Pos}
theorem star_items (env : Env) (g : Sem Value → Sem Value) : ∀ es : List Expr, (evalEachOpt (es.map fun _ => none) env).zip ((evalEach es env).map g) = ((evalEach es env).map g).map fun v => ((none : Option (Sem Value)), v)
  | [] => rfl
  | e :: es => by
    show (none, g (eval e env)) :: (evalEachOpt (es.map fun _ => none) env).zip ((evalEach es env).map g) = (none, g (eval e env)) :: ((evalEach es env).map g).map fun v => ((none : Option (Sem Value)), v)
    rw [star_items env g es]
theorem pe_stars {keys : List (Option Expr)} {es : List Expr} {ts : List TE} (h : PStars X es ts) (hk : keys = es.map fun _ => none) (some_ : es ≠ []) : PE X (.Dict keys es pos) (tStars ts) := by
  subst hk
  refine ⟨fun pins s σ H Q I q => ?_⟩
  rw [arm_eval_Dict, star_items]
  refine wpAny_bind (wpAny_standAt ?_)
  have hn := I.hok.fresh (Nat.le_refl s.heap.objs.size)
  have I1 := I.laid (a := s.heap.objs.size) (o := .dK []) (h' := s.heap.push { cls := .type "dict", data := .dict #[] }) (t' := s.toks) (fun _ _ q => Heap.get?_push_of_some _ q) (Nat.le_refl _) (dk_empty s.heap I.big)
  refine display_stars (mixKind X.prog X.w) (by cases es with
      | nil => exact absurd rfl some_
      | cons e es => exact List.cons_ne_nil _ _)
    (fun l d s' => ∃ (es' : List Expr) (ts' : List TE) (kvs : List (Key × V)) (H' : Hp), l = (evalEach es' X.env).map (fun v => do let x ← v; standAt pos; pure x) ∧ PStars X es' ts' ∧ Inv X pins σ H' s' ∧ H' d = some (.dK kvs) ∧ tStarsL ts' d kvs σ H' fun kvs H1 => Q (.ref d) H1)
    ⟨es, ts, [], _, rfl, h, I1, upd_same, q _ hn⟩ ?_ ?_
  · rintro v rest d s' ⟨es', ts', kvs, H', hl, hp, I', hd, t⟩
    cases hp with
    | nil => cases hl
    | @cons e es' t' ts' he hp =>
      obtain ⟨rfl, rfl⟩ := List.cons.inj hl
      refine wpAny_bind (thn (he.run pins s' σ H' _ I' t) fun u s1 ⟨x, H1, I2, r, a, more, e1, ne, e2, e3, few, t2⟩ => ?_)
      subst e1
      obtain rfl : u = Value.ref a := r
      refine wpAny_bind (wpAny_standAt (wpAny_pure ?_))
      obtain ⟨z1, y1, vs1, r1, d1⟩ := dk_of I2.hok e2
      obtain ⟨z2, y2, vs2, r2, d2⟩ := dk_of I2.hok e3
      have l1 : kvs.length = vs1.length := Paired.length r1
      have l2 : more.length = vs2.length := Paired.length r2
      refine ⟨a, vs1, vs2, rfl, ne, y2, d1, d2, by omega, fun h' m1 m2 b => ?_⟩
      have few2 : (mergeK kvs more).length ≤ sizeLine := by
        have := length_mergeK more kvs
        omega
      refine ⟨es', ts', mergeK kvs more, _, rfl, hp, d_write I2 (by rw [e2]; exact True.intro) b (let ⟨q, _, _, hq, _⟩ := m1; ⟨q, hq⟩) (dk_new few2 y1 (r2.merge r1) m1), upd_same, t2⟩
  · rintro d s' ⟨es', ts', kvs, H', hl, hp, I', hd, t⟩
    cases hp with
    | nil => exact ⟨.ref d, H', I', rfl, t⟩
    | cons _ _ => cases hl
end
end KX

set_option autoImplicit false
set_option maxRecDepth 100000
set_option maxHeartbeats 4000000
/-! tuple(d), d a dict -/
namespace KX
open PySem PySem.Spec PyProof.Rows L2
section
variable {prog : Program} {w : World} {A : Around} {E : Value → Shared → Prop} {s : Shared} {r d : Addr} {n : Nat} {P : Nat → Value → Prop} {OK : Heap → Prop}
theorem collect_src {T : String} {Q : List Value → Shared → Prop} (S : PySem.W.KdlSrc prog w T r d n P OK) (hh : A.handled = none) (ok : OK s.heap) (few : n ≤ sizeLine)
    (q : ∀ (h' : Heap) (tk : Nat) (acc : Array Value), (∀ b o, s.heap.get? b = some o → h'.get? b = some o) → ItemsOf P acc n → Q acc.toList { s with heap := h', toks := tk }) : wpAny (model prog w) A (collect (.ref r)) Q E s := by
  have lt := S.there _ ok
  unfold collect
  refine wpAny_bind (wpAny_runValue (codeAny_builtin F.entry_proto_collect ?_))
  rw [Around.under_plainId F.plain_proto_collect _]
  show wpAny _ A.in1 (newList [] >>= fun y => again (.builtin "list.__iadd__" ⟨[y, .ref r], []⟩)) _ _ s
  refine wpAny_bind (wpAny_newObj_type (wpAny_pure ⟨plainId_quiet F.plain_list_iadd _, codeAny_builtin F.entry_list_iadd ?_⟩))
  rw [Around.under_plainId F.plain_list_iadd _]
  show wpAny _ A.in1 (Builtin.List.listExtendWith (.ref s.heap.objs.size) (.ref r) (.ref s.heap.objs.size)) _ _ _
  have new : (s.heap.push { cls := .type "list", data := .seq ([] : List Value).toArray }).get? s.heap.objs.size = some { cls := .type "list", data := .seq #[] 0 } := Heap.get?_push_size _ rfl
  refine wpAny_mono (PySem.W.kdl_extend (A := A) (s := { s with heap := s.heap.push { cls := .type "list", data := .seq ([] : List Value).toArray } })
    (R := fun y s' => y = .ok (.ret (.ref s.heap.objs.size)) ∧ ∃ (h' : Heap) (tk : Nat) (acc : Array Value) (c : Nat), s' = { s with heap := h', toks := tk } ∧ (∀ b o, s.heap.get? b = some o → h'.get? b = some o) ∧ h'.get? s.heap.objs.size = some { cls := .type "list", dict := none, data := .seq acc c, slots := #[] } ∧ ItemsOf P acc n)
    S hh (S.keep _ _ ok fun b _ o e => Heap.get?_push_of_some _ e) s.heap.objs.size (Nat.ne_of_gt lt.1) (Nat.ne_of_gt lt.2) (.ref s.heap.objs.size) 0 new
    (fun h' tk acc c kp e it => ⟨rfl, h', tk, acc, c, rfl, fun b o z => kp b o (Nat.ne_of_lt (Heap.lt_size z)) (Heap.get?_push_of_some _ z), e, it⟩) few) (fun fin s' h => ?_) (fun e s' h => absurd h.1 (by simp))
  have last : ∀ s'', (∃ (h' : Heap) (tk : Nat) (acc : Array Value) (c : Nat), s'' = { s with heap := h', toks := tk } ∧ (∀ b o, s.heap.get? b = some o → h'.get? b = some o) ∧ h'.get? s.heap.objs.size = some { cls := .type "list", dict := none, data := .seq acc c, slots := #[] } ∧ ItemsOf P acc n) →
      wpAny (model prog w) A (match Value.ref s.heap.objs.size with
        | Value.ref a => do
          match (← load a).data with
            | Data.seq xs _ => pure xs.toList
            | _ => unsupported "internal:collect"
        | _ => unsupported "internal:collect") Q E s'' := fun s'' y => by
    obtain ⟨h', tk, acc, c, rfl, kp, e, it⟩ := y
    exact wpAny_bind (wpAny_load e (wpAny_pure (q h' tk acc kp it)))
  cases fin with
  | done f =>
    obtain ⟨e, y⟩ := h
    cases e
    exact last _ y
  | again c' =>
    refine ⟨h.1, codeAny_mono h.2 fun z s'' y => ?_⟩
    obtain ⟨rfl, y⟩ := y
    exact last _ y
theorem new_tuple_src {T : String} {Q : Value → Shared → Prop} (S : PySem.W.KdlSrc prog w T r d n P OK) (hh : A.handled = none) (ok : OK s.heap) (few : n ≤ sizeLine) (nt : T ≠ "tuple")
    (q : ∀ (h' : Heap) (tk : Nat) (acc : Array Value), (∀ b o, s.heap.get? b = some o → h'.get? b = some o) → ItemsOf P acc n → Q (.ref h'.objs.size) { s with heap := h'.push { cls := .type "tuple", data := .seq acc }, toks := tk }) :
    codeAny (model prog w) A (.call (.builtin "tuple.__new__") ⟨[.type "tuple", .ref r], []⟩) (wants Q E) s := by
  refine codeAny_of_tree ?_
  show wpAny _ A.in1 (do checkBuiltinCall "tuple.__new__" ⟨[.type "tuple", .ref r], []⟩; again (.builtin "tuple.__new__" ⟨[.type "tuple", .ref r], []⟩)) _ _ s
  refine wpAny_bind (wpAny_of_eq (F.newCall_tuple_1 _) (wpAny_pure ⟨plainId_quiet F.plain_tuple_new _, codeAny_builtin F.entry_tuple_new ?_⟩))
  rw [Around.under_plainId F.plain_tuple_new _]
  have y1 := sub_tuple_self
  have y2 := init_tuple_lookup
  have y3 := madeHere_tuple
  have ty : s.TypeIs (.ref r) T := S.type _ ok
  have hh1 : A.in1.handled = none := hh
  have ne : (Value.type T == Value.type "tuple") = false := by
    rw [beq_eq_false_iff_ne]
    exact fun z => nt (Value.type.inj z)
  wp_walk using wpAny_typeOf ty, collect_src (A := A.in1) S hh1 ok few
  intro h' tk acc kp it
  have same : acc.toList.toArray = acc := by simp
  show wpAny _ _ (Builtin.Tuple.tupleExact acc.toList.toArray >>= fun v => ret v) _ _ _
  rw [same]
  unfold Builtin.Tuple.tupleExact
  exact wpAny_bind (wpAny_newObj_type (wpAny_pure (q h' tk acc kp it)) (by show acc.size ≤ sizeLine; rw [it.1]; exact few))
end
/-- tuple(d): the keys -/
def rTupD : List V → Hp → VK → Prop := fun xs H Q => ∃ p kvs, xs = [.ref p] ∧ H p = some (.dK kvs) ∧ ∀ q, H q = none → Q (.ref q) (upd H q (.tup (kvs.map fun kv => kV kv.1)))
theorem call_tuple_dK {X : Cx} (hc : X.calm = true) : CallR X (.type "tuple") rTupD := by
  intro pins s σ H xs us Q I r h
  obtain ⟨p, kvs, rfl, e, q⟩ := h
  obtain ⟨u, rfl, rx⟩ := vals1 r
  obtain rfl : u = Value.ref p := rx
  obtain ⟨few, lo, vs, rk, dd⟩ := dk_of I.hok e
  obtain ⟨ep, dat⟩ := dd.dictAt
  have ln : kvs.length = vs.length := Paired.length rk
  refine callType_codes (Q₁ := fun y s1 => s1.TypeIs y "tuple" ∧ EP X pins σ Q y s1) F.called_tuple (F.typeCall_tuple_1 _) F.entry_object_init
    (new_tuple_src (A := X.A.in1) (PySem.W.kdl_dict (knd := mixKind X.prog X.w) (kvs := vs) (ep := ep) lo) (I.ok.hd hc) dat (by omega) (by decide) fun h' tk acc kp it => ⟨⟨_, Heap.get?_push_size _ rfl, rfl⟩, ?_⟩) fun y s1 h1 =>
      ⟨h1.1, F.args_object_init_2 y _, object_init_meets F.called_tuple.init.lookup F.called_tuple.made (by decide) X.prog X.w X.A.in1 _ s1 ⟨h1.1, rfl, h1.2⟩⟩
  have I1 : Inv X pins σ H { s with heap := h', toks := tk } := I.kept kp
  refine ⟨.ref h'.objs.size, _, I1.laid (a := h'.objs.size) (o := .tup (kvs.map fun kv => kV kv.1)) (h' := h'.push { cls := .type "tuple", data := .seq acc }) (t' := tk) (fun b o z => Heap.get?_push_of_some _ z) (Nat.le_refl _) ⟨?_, acc.toList, ?_, ?_⟩, rfl, q _ (I1.hok.fresh (Nat.le_refl _))⟩
  · rw [List.length_map]
    exact few
  · have la : acc.toList.length = acc.size := by simp
    refine vals_of_at (by rw [List.length_map, la, it.1, ln]) fun j y z h1 h2 => ?_
    obtain ⟨k, v, hk, hi⟩ := it.2 j z (by rw [← Array.getElem?_toList]; exact h2)
    have e1 : (kvs.map (·.1))[j]? = some k := by
      rw [KV.keys rk, List.getElem?_map, hk]
      rfl
    rw [List.getElem?_map] at e1 h1
    obtain ⟨p1, hp, rfl⟩ := Option.map_eq_some_iff.mp e1
    rw [hp] at h1
    cases h1
    exact keyIs_rel hi
  · have same : acc.toList.toArray = acc := by simp
    rw [same]
    exact IsTup.new _ _
end KX

set_option autoImplicit false
set_option maxRecDepth 100000
set_option maxHeartbeats 6000000
/-! set(xs), xs a list or tuple of texts and ints, and its length -/
namespace KX
open PySem PySem.Spec PyProof.Rows L2
/-- each once, in the order in which they come first -/
def once {κ : Type} [DecidableEq κ] (ks : List κ) : List κ := ks.foldl (fun acc k => if k ∈ acc then acc else acc ++ [k]) []
theorem once_snoc {κ : Type} [DecidableEq κ] (ks : List κ) (k : κ) : once (ks ++ [k]) = if k ∈ once ks then once ks else once ks ++ [k] := by
  unfold once
  rw [List.foldl_append]
  rfl
theorem once_le {κ : Type} [DecidableEq κ] (ks : List κ) : (once ks).length ≤ ks.length := by
  have go : ∀ (l acc : List κ), (l.foldl (fun acc k => if k ∈ acc then acc else acc ++ [k]) acc).length ≤ acc.length + l.length := fun l => by
    induction l with
    | nil => exact fun acc => Nat.le_refl _
    | cons k l ih =>
      intro acc
      have y := ih (if k ∈ acc then acc else acc ++ [k])
      rw [List.foldl_cons, List.length_cons]
      by_cases m : k ∈ acc
      · rw [if_pos m] at y ⊢
        omega
      · rw [if_neg m] at y ⊢
        rw [List.length_append, List.length_singleton] at y
        omega
  have y := go ks []
  rw [List.length_nil, Nat.zero_add] at y
  exact y
section
variable {prog : Program} {w : World} {κ : Type} [DecidableEq κ] {knd : KeyKind prog w κ} {A : Around} {R : Result → Shared → Prop} {I : Addr} {fp wr : List Addr} {G : Array GenState → Array GenState → Prop} {n : Nat} {P : Nat → Value → Prop} {St : Nat → Shared → Prop}
theorem fill_set (W : WalksS prog w A.in1 I fp wr G n P St) (S : Addr) (out : S ∉ fp) (ks : List κ) (len : ks.length = n) (few : n + 1 < scanBound) (is : ∀ i v, P i v → ∃ k, ks[i]? = some k ∧ knd.is k v = true ∧ v.scannable = true) :
    ∀ (k i : Nat) (s : Shared), n - i = k → i ≤ n → St i s → s.heap.SetOf knd S (fun y => decide (y ∈ once (ks.take i))) (once (ks.take i)).length →
      (∀ s', Moved (S :: wr) G s s' → s'.heap.SetOf knd S (fun y => decide (y ∈ once ks)) (once ks).length → R (.ok (.ret .none)) s') →
      codeAny (model prog w) A (.builtin "set.update.loop" ⟨[.ref S, .ref I], []⟩) R s := by
  have out2 : S ∉ wr := fun h => out (W.sub _ h)
  have wider : ∀ b ∈ wr, b ∈ S :: wr := fun b hb => List.mem_cons_of_mem _ hb
  intro k
  induction k with
  | zero =>
    intro i s hk hi st hS hR
    obtain rfl : i = n := by omega
    refine codeAny_builtin PyProof.Rows.F.entry_set_update_loop ?_
    rw [Around.under_plainId PyProof.Rows.F.plain_set_update_loop _]
    show wpAny _ A.in1 (pyNext (.ref I) >>= _) _ _ s
    refine wpAny_bind (W.done s _ _ st fun s' mv => ?_)
    show wpAny _ A.in1 (ret Value.none) _ _ s'
    refine wpAny_pure (hR s' (mv.mono wider) ?_)
    rw [← len, List.take_length] at hS
    obtain ⟨o, es, ep, t, ho, y⟩ := hS
    exact ⟨o, es, ep, t, mv.heap S _ out2 ho, y⟩
  | succ k ih =>
    intro i s hk hi st hS hR
    have lt : i < n := by omega
    refine codeAny_builtin PyProof.Rows.F.entry_set_update_loop ?_
    rw [Around.under_plainId PyProof.Rows.F.plain_set_update_loop _]
    show wpAny _ A.in1 (pyNext (.ref I) >>= _) _ _ s
    refine wpAny_bind (W.item i s _ _ lt st fun v s' hP st' mv => ?_)
    obtain ⟨x, hx, hkey, sc⟩ := is i v hP
    have hS1 : s'.heap.SetOf knd S (fun y => decide (y ∈ once (ks.take i))) (once (ks.take i)).length := by
      obtain ⟨o, es, ep, t, ho, y⟩ := hS
      exact ⟨o, es, ep, t, mv.heap S _ out2 ho, y⟩
    show wpAny _ A.in1 (holding [v] (setAdd S v) >>= _) _ _ s'
    refine wpAny_bind (wpAny_holding ?_)
    unfold setAdd
    refine wpAny_holding (wpAny_bind (knd.pyHash hkey ?_))
    have small : (once (ks.take i)).length + 1 < scanBound := by
      have y := once_le (ks.take i)
      rw [List.length_take] at y
      omega
    refine wpAny_setAddHashed_of (knd := knd) (s := { s' with toks := s'.toks + 1 }) hkey sc hS1 small fun h' sb hS2 => ?_
    have hS3 : h'.SetOf knd S (fun y => decide (y ∈ once (ks.take (i + 1)))) (once (ks.take (i + 1))).length := by
      have e : ks.take (i + 1) = ks.take i ++ [x] := by rw [List.take_add_one, hx]; rfl
      refine SetOf_congr hS2 (fun y => ?_) ?_
      · rw [e, once_snoc]
        by_cases m : x ∈ once (ks.take i)
        · rw [if_pos m]
          by_cases z : y = x
          · rw [z, decide_eq_true m]
            rfl
          · rw [decide_eq_false z, Bool.or_false]
        · rw [if_neg m]
          by_cases z : y = x
          · rw [z]
            simp
          · simp [z]
      · rw [e, once_snoc]
        by_cases m : x ∈ once (ks.take i)
        · rw [if_pos m, if_pos (decide_eq_true m)]
        · rw [if_neg m, if_neg (by rw [decide_eq_false m]; exact Bool.false_ne_true)]
          simp
    refine wpAny_pure ⟨plainId_quiet PyProof.Rows.F.plain_set_update_loop _, ih (i + 1) _ (by omega) lt (W.frame _ s' _ _ st' (Nat.le_succ _) fun b hb o e => ?_) hS3 fun s'' mv2 hS4 => ?_⟩
    · rw [sb.2 b (fun z : b = S => out (by rw [← z]; exact hb))]
      exact e
    · refine hR s'' (Moved.trans W.gtrans ((mv.mono wider).then_heap (Nat.le_succ _) fun b o hb e => ?_) mv2) hS4
      rw [sb.2 b (fun z : b = S => hb (by rw [z]; exact List.mem_cons_self))]
      exact e
end
section
variable {prog : Program} {w : World} {A : Around} {E : Value → Shared → Prop} {s : Shared}
abbrev setNew (led : Bool) : Obj := { cls := .type "set", dict := none, data := .set #[] 0 (.fresh 0 0 led) }
theorem set_of_list {κ : Type} [DecidableEq κ] (knd : KeyKind prog w κ) {l : Addr} {items : Array Value} {ks : List κ} {Q : Value → Shared → Prop} (hh : A.handled = none) (seq : s.heap.IsList l items) (len : ks.length = items.size) (few : items.size + 1 < scanBound)
    (is : ∀ (i : Nat) (v : Value), items[i]? = some v → ∃ k, ks[i]? = some k ∧ knd.is k v = true ∧ v.scannable = true)
    (q : ∀ (h' : Heap) (tk : Nat), h'.SetOf knd s.heap.objs.size (fun y => decide (y ∈ once ks)) (once ks).length → (∀ b o, b < s.heap.objs.size → s.heap.get? b = some o → h'.get? b = some o) → Q (.ref s.heap.objs.size) { s with heap := h', toks := tk }) :
    wpAny (model prog w) A (call (.type "set") [.ref l]) Q E s := by
  obtain ⟨c0, t0, y_mro⟩ := PySem.F.called_set.mro
  have y_made := PySem.F.called_set.made
  have y_sub := PySem.F.called_set.sub
  refine wpAny_call (codeAny_of_tree ?_)
  show wpAny _ _ (callAny (.type "set") _) _ _ _
  refine wpAny_pure ⟨Code.quiet_builtin _ (by decide +kernel), codeAny_builtin PySem.F.entry_type_call ?_⟩
  rw [Around.under_plain (weight_type_call_type "set" [.ref l] []) rfl]
  have y_not := PySem.F.called_set.notType
  have y_can := PySem.F.called_set.canCreate
  have y_chk := PySem.F.typeCall_set_1 (.ref l)
  repeat (any_goals (first | assumption | wp_step))

  refine codeAny_mono (code_set_new_1 (.ref l) (E := E) (Q₁ := fun y s1 => ∃ led : Bool, y = .ref s.heap.objs.size ∧ s1 = { s with heap := s.heap.push (setNew led) }) fun led => ⟨led, rfl, rfl⟩) fun r s1 hr => ?_
  match r, hr with
  | .error e, hr => exact hr
  | .ok .next, hr => exact hr.elim
  | .ok .brk, hr => exact hr.elim
  | .ok .cont, hr => exact hr.elim
  | .ok (.ret y), hr =>
    obtain ⟨led, rfl, rfl⟩ := hr
    have hS : (s.heap.push (setNew led)).get? s.heap.objs.size = some (setNew led) := Heap.get?_push_size _ rfl
    have hT : Shared.TypeIs { s with heap := s.heap.push (setNew led) } (.ref s.heap.objs.size) "set" := ⟨_, hS, rfl⟩
    have y_look := PySem.F.called_set.init.lookup
    have y_bind := PySem.F.called_set.init.bind (.ref s.heap.objs.size)
    repeat (any_goals (first | assumption | wp_step))

    refine codeAny_mono (codeAny_call_builtin (R := wants (fun r s2 => r = .none ∧ ∃ h' tk, s2 = { s with heap := h', toks := tk } ∧ h'.SetOf knd s.heap.objs.size (fun y => decide (y ∈ once ks)) (once ks).length ∧
        (∀ b o, b < s.heap.objs.size → s.heap.get? b = some o → h'.get? b = some o)) E) PySem.F.called_set.init.plain PySem.F.entry_set_init (check_set_init_1 hT ?_)) fun r2 s2 hr2 => ?_
    · obtain ⟨ol, hol, oc, nl, od⟩ := seq
      obtain ⟨o1, o2, o3, o4⟩ := ol
      dsimp only at oc od
      subst oc od
      have there : (s.heap.push (setNew led)).get? l = some { cls := .type "list", dict := o2, data := .seq items nl, slots := o4 } := Heap.get?_push_of_some _ hol
      have y_s1 := PySem.F.sub_list_set
      have y_s2 := PySem.F.sub_list_frozenset
      have y_ne : (Value.type "list" == Value.type "dict") = false := by decide
      have seq1 : (s.heap.push (setNew led)).IsList l items := ⟨_, there, rfl, nl, rfl⟩
      unfold Builtin.«set.__init__» noKeywords Builtin.Frozenset.updateFrom
      generalize y_it : pyIter = PI
      wp_walk
      subst y_it

      refine wpAny_pyIter_list seq1 (wpAny_bind (wpAny_runValue ?_))
      have low : l < s.heap.objs.size := Heap.lt_size hol
      have hh3 : A.in1.in1.in1.handled = none := by simp [hh]
      have apart : l ≠ (s.heap.push (setNew led)).objs.size := by
        rw [Heap.size_push]
        exact Nat.ne_of_lt (Nat.lt_succ_of_lt low)
      have out : s.heap.objs.size ∉ [(s.heap.push (setNew led)).objs.size, l] := by
        intro z
        rw [Heap.size_push] at z
        rcases List.mem_cons.mp z with z | z
        · exact absurd z (Nat.ne_of_lt (Nat.lt_succ_self _))
        · exact absurd (List.mem_singleton.mp z).symm (Nat.ne_of_lt low)
      refine fill_set (knd := knd) ((Walks.list hh3 _ l apart items).toS) s.heap.objs.size out ks len few (fun i v hv => is i v hv) (items.size - 0) 0 _ (by omega) (Nat.zero_le _) ⟨⟨_, Heap.get?_push_size _ rfl, rfl, rfl⟩, (seq1.push _)⟩ ?_ ?_
      · have got : ((s.heap.push (setNew led)).push { cls := .type "list_iterator", data := .fields #[.ref l, .int 0 0] }).get? s.heap.objs.size = some (setNew led) := Heap.get?_push_of_some _ hS
        exact SetOf_congr ((PyProof.Rows.setObjOf_fresh (knd := knd) led).setOf got (by unfold scanBound; omega)) (fun _ => rfl) rfl
      · rintro ⟨h', g', d', tk', os'⟩ mv hS2
        obtain rfl : g' = s.gens := mv.gens
        obtain rfl : d' = s.drawn := mv.drawn
        obtain rfl : os' = s.os := mv.os
        show wpAny _ _ _ _ _ _
        refine wpAny_pure ?_
        show wpAny _ _ (ret Value.none) _ _ _
        refine wpAny_pure ⟨rfl, h', tk', rfl, hS2, fun b o hb e => mv.heap b o (fun z => ?_) (Heap.get?_push_of_some _ (Heap.get?_push_of_some _ e))⟩
        simp only [List.mem_cons, List.not_mem_nil, or_false, Heap.size_push] at z
        rcases z with z | z
        · exact absurd z (Nat.ne_of_lt hb)
        · exact absurd z (Nat.ne_of_lt (Nat.lt_succ_of_lt hb))
    · match r2, hr2 with
      | .error e, hr2 => exact hr2
      | .ok .next, hr2 => exact hr2.elim
      | .ok .brk, hr2 => exact hr2.elim
      | .ok .cont, hr2 => exact hr2.elim
      | .ok (.ret r), hr2 =>
        obtain ⟨rfl, h', tk, rfl, hS2, kp⟩ := hr2
        repeat (any_goals (first | assumption | wp_step))
        exact q _ _ hS2 kp
theorem set_of_tuple {κ : Type} [DecidableEq κ] (knd : KeyKind prog w κ) {l : Addr} {items : Array Value} {ks : List κ} {Q : Value → Shared → Prop} (hh : A.handled = none) (seq : s.heap.IsTuple l items) (len : ks.length = items.size) (few : items.size + 1 < scanBound)
    (is : ∀ (i : Nat) (v : Value), items[i]? = some v → ∃ k, ks[i]? = some k ∧ knd.is k v = true ∧ v.scannable = true)
    (q : ∀ (h' : Heap) (tk : Nat), h'.SetOf knd s.heap.objs.size (fun y => decide (y ∈ once ks)) (once ks).length → (∀ b o, b < s.heap.objs.size → s.heap.get? b = some o → h'.get? b = some o) → Q (.ref s.heap.objs.size) { s with heap := h', toks := tk }) :
    wpAny (model prog w) A (call (.type "set") [.ref l]) Q E s := by
  obtain ⟨c0, t0, y_mro⟩ := PySem.F.called_set.mro
  have y_made := PySem.F.called_set.made
  have y_sub := PySem.F.called_set.sub
  refine wpAny_call (codeAny_of_tree ?_)
  show wpAny _ _ (callAny (.type "set") _) _ _ _
  refine wpAny_pure ⟨Code.quiet_builtin _ (by decide +kernel), codeAny_builtin PySem.F.entry_type_call ?_⟩
  rw [Around.under_plain (weight_type_call_type "set" [.ref l] []) rfl]
  have y_not := PySem.F.called_set.notType
  have y_can := PySem.F.called_set.canCreate
  have y_chk := PySem.F.typeCall_set_1 (.ref l)
  repeat (any_goals (first | assumption | wp_step))

  refine codeAny_mono (code_set_new_1 (.ref l) (E := E) (Q₁ := fun y s1 => ∃ led : Bool, y = .ref s.heap.objs.size ∧ s1 = { s with heap := s.heap.push (setNew led) }) fun led => ⟨led, rfl, rfl⟩) fun r s1 hr => ?_
  match r, hr with
  | .error e, hr => exact hr
  | .ok .next, hr => exact hr.elim
  | .ok .brk, hr => exact hr.elim
  | .ok .cont, hr => exact hr.elim
  | .ok (.ret y), hr =>
    obtain ⟨led, rfl, rfl⟩ := hr
    have hS : (s.heap.push (setNew led)).get? s.heap.objs.size = some (setNew led) := Heap.get?_push_size _ rfl
    have hT : Shared.TypeIs { s with heap := s.heap.push (setNew led) } (.ref s.heap.objs.size) "set" := ⟨_, hS, rfl⟩
    have y_look := PySem.F.called_set.init.lookup
    have y_bind := PySem.F.called_set.init.bind (.ref s.heap.objs.size)
    repeat (any_goals (first | assumption | wp_step))

    refine codeAny_mono (codeAny_call_builtin (R := wants (fun r s2 => r = .none ∧ ∃ h' tk, s2 = { s with heap := h', toks := tk } ∧ h'.SetOf knd s.heap.objs.size (fun y => decide (y ∈ once ks)) (once ks).length ∧
        (∀ b o, b < s.heap.objs.size → s.heap.get? b = some o → h'.get? b = some o)) E) PySem.F.called_set.init.plain PySem.F.entry_set_init (check_set_init_1 hT ?_)) fun r2 s2 hr2 => ?_
    · obtain ⟨ol, hol, oc, nl, od⟩ := seq
      obtain ⟨o1, o2, o3, o4⟩ := ol
      dsimp only at oc od
      subst oc od
      have there : (s.heap.push (setNew led)).get? l = some { cls := .type "tuple", dict := o2, data := .seq items nl, slots := o4 } := Heap.get?_push_of_some _ hol
      have y_s1 := PySem.F.sub_tuple_set
      have y_s2 := PySem.F.sub_tuple_frozenset
      have y_ne : (Value.type "tuple" == Value.type "dict") = false := by decide
      have seq1 : (s.heap.push (setNew led)).IsTuple l items := ⟨_, there, rfl, nl, rfl⟩
      unfold Builtin.«set.__init__» noKeywords Builtin.Frozenset.updateFrom
      generalize y_it : pyIter = PI
      wp_walk
      subst y_it

      refine wpAny_pyIter_tuple seq1 (wpAny_bind (wpAny_runValue ?_))
      have low : l < s.heap.objs.size := Heap.lt_size hol
      have hh3 : A.in1.in1.in1.handled = none := by simp [hh]
      have apart : l ≠ (s.heap.push (setNew led)).objs.size := by
        rw [Heap.size_push]
        exact Nat.ne_of_lt (Nat.lt_succ_of_lt low)
      have out : s.heap.objs.size ∉ [(s.heap.push (setNew led)).objs.size, l] := by
        intro z
        rw [Heap.size_push] at z
        rcases List.mem_cons.mp z with z | z
        · exact absurd z (Nat.ne_of_lt (Nat.lt_succ_self _))
        · exact absurd (List.mem_singleton.mp z).symm (Nat.ne_of_lt low)
      refine fill_set (knd := knd) ((Walks.tuple hh3 _ l apart items).toS) s.heap.objs.size out ks len few (fun i v hv => is i v hv) (items.size - 0) 0 _ (by omega) (Nat.zero_le _) ⟨⟨_, Heap.get?_push_size _ rfl, rfl, rfl⟩, (seq1.push _)⟩ ?_ ?_
      · have got : ((s.heap.push (setNew led)).push { cls := .type "tuple_iterator", data := .fields #[.ref l, .int 0 0] }).get? s.heap.objs.size = some (setNew led) := Heap.get?_push_of_some _ hS
        exact SetOf_congr ((PyProof.Rows.setObjOf_fresh (knd := knd) led).setOf got (by unfold scanBound; omega)) (fun _ => rfl) rfl
      · rintro ⟨h', g', d', tk', os'⟩ mv hS2
        obtain rfl : g' = s.gens := mv.gens
        obtain rfl : d' = s.drawn := mv.drawn
        obtain rfl : os' = s.os := mv.os
        show wpAny _ _ _ _ _ _
        refine wpAny_pure ?_
        show wpAny _ _ (ret Value.none) _ _ _
        refine wpAny_pure ⟨rfl, h', tk', rfl, hS2, fun b o hb e => mv.heap b o (fun z => ?_) (Heap.get?_push_of_some _ (Heap.get?_push_of_some _ e))⟩
        simp only [List.mem_cons, List.not_mem_nil, or_false, Heap.size_push] at z
        rcases z with z | z
        · exact absurd z (Nat.ne_of_lt hb)
        · exact absurd z (Nat.ne_of_lt (Nat.lt_succ_of_lt hb))
    · match r2, hr2 with
      | .error e, hr2 => exact hr2
      | .ok .next, hr2 => exact hr2.elim
      | .ok .brk, hr2 => exact hr2.elim
      | .ok .cont, hr2 => exact hr2.elim
      | .ok (.ret r), hr2 =>
        obtain ⟨rfl, h', tk, rfl, hS2, kp⟩ := hr2
        repeat (any_goals (first | assumption | wp_step))
        exact q _ _ hS2 kp
end
end KX

set_option autoImplicit false
set_option maxRecDepth 100000
set_option maxHeartbeats 4000000
namespace KX
open PySem PySem.Spec PyProof.Rows L2
theorem strs_vals : ∀ {zs : List Str} {us : List Value}, Vals (zs.map V.str) us → ∀ (i : Nat) (u : Value), us[i]? = some u → ∃ (z : Str) (t : Tok), zs[i]? = some z ∧ u = .str z t
  | [], _, .nil, i, u, h => by simp at h
  | z :: zs, _, .cons r t, 0, u, h => by
    obtain ⟨k, e⟩ := r
    rw [List.getElem?_cons_zero] at h
    cases h
    exact ⟨z, k, rfl, e⟩
  | z :: zs, _, .cons r t, i + 1, u, h => by
    rw [List.getElem?_cons_succ] at h
    obtain ⟨y, k, e1, e2⟩ := strs_vals t i u h
    exact ⟨y, k, by rw [List.getElem?_cons_succ]; exact e1, e2⟩
/-- len(set(words)) -/
def tLenWords (K : PySem.W.Frag) (ta : TE) : TE := fun σ H Q => ta σ H fun x H1 => ∃ (l : Addr) (zs : List Str), x = .ref l ∧ (SqL K H1 l (zs.map V.str) ∨ SqT K H1 l (zs.map V.str)) ∧ zs.length ≤ 1000 ∧ Q (.int ((once zs).length : Nat)) H1
theorem pe_lenWords {X : Cx} {a : Expr} {ta : TE} {p p2 q pos : Pos} (hg : Gl X "len") (hm : X.mg "len" = none) (hg2 : Gl X "set") (hm2 : X.mg "set" = none) (ha : PE X a ta) (hc : X.calm = true := by rfl)
    (na : starEach [a] X.env = (false, eval a X.env) :: starEach [] X.env := by rfl) : PE X (.Call (.Name "len" p) [.Call (.Name "set" p2) [a] [] q] [] pos) (tLenWords X.K ta) := by
  refine ⟨fun pins s σ H Q I h => ?_⟩
  refine Call_ (ld_blt I hg hm boot_len (PyProof.Rows.callWith_builtin1 (PyProof.Rows.args_cons ?_ rfl) rfl rfl))
  refine Call_ (ld_blt I hg2 hm2 boot_set ?_)
  refine PyProof.Rows.callWith_type1 (PyProof.Rows.args_cons (thn (ha.run pins s σ H _ I h) fun v s1 ⟨x, H1, I1, r1, q1⟩ => PyProof.Rows.args_nil ?_) na) na rfl
  obtain ⟨l, zs, rfl, hq, few, q1⟩ := q1
  obtain rfl : v = Value.ref l := r1
  have last : ∀ (h' : Heap) (tk : Nat), h'.SetOf (PySem.strKind X.prog X.w) s1.heap.objs.size (fun y => decide (y ∈ once zs)) (once zs).length → (∀ b o, b < s1.heap.objs.size → s1.heap.get? b = some o → h'.get? b = some o) →
      wpAny (model X.prog X.w) X.A (spliced (backTo pos (starEach [] X.env))) (fun vs s2 => wpAny (model X.prog X.w) X.A (call (.builtin "len") (Value.ref s1.heap.objs.size :: vs)) (EP X pins σ Q) X.xe s2) X.xe { s1 with heap := h', toks := tk } := fun h' tk y kp => by
    refine PyProof.Rows.args_nil ?_
    obtain ⟨o, es, ep, t, ho, hex, hd, _, _, _, hf, hn⟩ := y
    have I2 : Inv X pins σ H1 { s1 with heap := h', toks := tk } := I1.kept fun b o e => kp b o (Heap.lt_size e) e
    have le := once_le zs
    exact call_len_set ho hex hd hf (by rw [hn]; omega) ⟨.int (once zs).length, H1, I2.tok _, ⟨_, by rw [hn]⟩, q1⟩
  rcases hq with hq | hq
  · obtain ⟨its, r, pl, hz⟩ := I1.list hq
    have ln : zs.length = its.length := by have := Paired.length r; rw [List.length_map] at this; exact this
    refine set_of_list (PySem.strKind X.prog X.w) (ks := zs) (I1.ok.hd hc) pl.isList (by rw [List.size_toArray]; exact ln) (by rw [List.size_toArray]; unfold scanBound; omega) (fun i u hu => ?_) last
    obtain ⟨z, t, e1, rfl⟩ := strs_vals r i u (by rw [← List.getElem?_toArray]; exact hu)
    exact ⟨z, e1, strKind_is _ _ _ _, rfl⟩
  · obtain ⟨its, r, pl, hz⟩ := I1.tuple hq
    have ln : zs.length = its.length := by have := Paired.length r; rw [List.length_map] at this; exact this
    refine set_of_tuple (PySem.strKind X.prog X.w) (ks := zs) (I1.ok.hd hc) pl (by rw [List.size_toArray]; exact ln) (by rw [List.size_toArray]; unfold scanBound; omega) (fun i u hu => ?_) last
    obtain ⟨z, t, e1, rfl⟩ := strs_vals r i u (by rw [← List.getElem?_toArray]; exact hu)
    exact ⟨z, e1, strKind_is _ _ _ _, rfl⟩
end KX

set_option autoImplicit false
set_option maxRecDepth 100000
set_option maxHeartbeats 4000000
namespace K01
open PySem PySem.Spec PyProof.Rows L2 KX
/-! data: which is a name, names, arrays -/
def isNm : PyData → Bool
  | .str z => nameS z
  | _ => false
def areNm (n : Nat) : PyData → Bool
  | .tuple ds => decide (ds.length ≤ n) && ds.all isNm
  | _ => false
def lenD : PyData → Nat
  | .tuple ds => ds.length
  | _ => 0
def isPr (d : PyData) : Bool := areNm 2 d && decide (lenD d = 2)
def areArr : PyData → Bool
  | .tuple ds => decide (ds.length ≤ 12) && ds.all isPr
  | _ => false
mutual
/-- every text is short and of signs that there are; lists and tuples are short -/
def gd : PyData → Bool
  | .str z => decide (z.length ≤ 1000) && z.cps.toList.all fun c => decide (c < 0x110000)
  | .list xs | .tuple xs => decide (xs.length ≤ 1000) && gdAll xs
  | .none | .bool _ | .int _ | .dict _ => true
def gdAll : List PyData → Bool
  | [] => true
  | x :: xs => gd x && gdAll xs
end
theorem gdAll_mem : ∀ {xs : List PyData} {x : PyData}, gdAll xs = true → x ∈ xs → gd x = true
  | [], _, _, h => nomatch h
  | y :: ys, x, h, m => by
    simp only [gdAll, Bool.and_eq_true] at h
    rcases List.mem_cons.mp m with rfl | m
    · exact h.1
    · exact gdAll_mem h.2 m
def tyD : PyData → String
  | .none => "NoneType"
  | .bool _ => "bool"
  | .int _ => "int"
  | .str _ => "str"
  | .list _ => "list"
  | .tuple _ => "tuple"
  | .dict _ => "dict"
section
variable {K : PySem.W.Frag} {H H' : Hp} {v : V} {d : PyData}
theorem shw_ty (s : Shw H v d) : TyX K H v (.type (tyD d)) := by
  cases s with
  | non => exact .base .non
  | bl b => exact .base (.bl b)
  | int i => exact .base (.int i)
  | str x => exact .base (.str x)
  | lst e _ => exact .base (.lst e)
  | tup e _ => exact .base (.tup e)
  | dct e => exact .base (.dK e)
theorem shw_name (s : Shw H v d) (g : gd d = true) : NameOf K H v (isNm d) := by
  have t := shw_ty (K := K) s
  cases s with
  | str x =>
    simp only [gd, Bool.and_eq_true, decide_eq_true_eq] at g
    exact .str x g.1 fun c hc => of_decide_eq_true (List.all_eq_true.mp g.2 c hc)
  | non => exact .odd t (by show kitB "NoneType" "str" = some false; decide +kernel)
  | bl b => exact .odd t (by show kitB "bool" "str" = some false; decide +kernel)
  | int i => exact .odd t (by show kitB "int" "str" = some false; decide +kernel)
  | lst e _ => exact .odd t (by show kitB "list" "str" = some false; decide +kernel)
  | tup e _ => exact .odd t (by show kitB "tuple" "str" = some false; decide +kernel)
  | dct e => exact .odd t (by show kitB "dict" "str" = some false; decide +kernel)
theorem Shw.same (s : Shw H v d) (g : Same H H') : Shw H' v d := s.grow fun b o e _ => g b o e
theorem ShwAll.same {vs : List V} {ds : List PyData} (s : ShwAll H vs ds) (g : Same H H') : ShwAll H' vs ds := s.grow fun b o e _ => g b o e
theorem ShwAll.len : ∀ {vs : List V} {ds : List PyData}, ShwAll H vs ds → vs.length = ds.length
  | _, _, .nil => rfl
  | _, _, .cons _ r => by rw [List.length_cons, List.length_cons, ShwAll.len r]
theorem ShwAll.get : ∀ {vs : List V} {ds : List PyData} {i : Nat} {x : V}, ShwAll H vs ds → vs[i]? = some x → ∃ d, ds[i]? = some d ∧ Shw H x d
  | _, _, i, x, .nil, h => by simp at h
  | _, _, 0, x, .cons a r, h => by
    rw [List.getElem?_cons_zero] at h
    cases h
    exact ⟨_, rfl, a⟩
  | _, _, i + 1, x, .cons a r, h => by
    rw [List.getElem?_cons_succ] at h
    obtain ⟨d, h1, h2⟩ := ShwAll.get r h
    exact ⟨d, by rw [List.getElem?_cons_succ]; exact h1, h2⟩
end
/-- a comprehension over a tuple of data, each element told by its datum -/
theorem lc_tupD {K : PySem.W.Frag} {a : Addr} {xs : List V} {ds : List PyData} {g : TG} {te : TE} {vs : List Nat} {σ : L2.St} {H1 : Hp} {D : Addr} {Qd : Hp → Prop} (G : PyData → V) (hx : H1 a = some (.tup xs)) (n : H1 D = none) (few : xs.length ≤ 100000) (sh : ShwAll H1 xs ds)
    (step : ∀ (x : V) (d : PyData) (H' : Hp) (Q' : VK), x ∈ xs → d ∈ ds → Shw H' x d → Same H1 H' → (∀ H4, Same H' H4 → Q' (G d) H4) → g x (wipe σ vs) H' fun σ2 H2 => wipe σ2 vs = wipe σ vs ∧ te σ2 H2 Q')
    (fin : ∀ H', Same H1 H' → H' D = some (.lst (ds.map G)) → Qd H') :
    ∃ W : Nat → Nat → Hp → Prop, (∃ m, W 0 m (upd H1 D (.lst []))) ∧ ∀ i m H, W i m H →
      ((Itt K a).stop i H ∧ Qd H) ∨ ((Itt K a).go i H ∧ ∃ Nx : Hp → Prop, (∀ H', Nx H' → ∃ m', m' < m ∧ W (i + 1) m' H') ∧ ∀ x H', (Itt K a).yld i H x H' → g x (wipe σ vs) H' fun σ2 H2 => wipe σ2 vs = wipe σ vs ∧ tYes σ2 H2 fun b H3 =>
        if b = true then te σ2 H3 fun y H4 => ∃ acc, H4 D = some (.lst acc) ∧ acc.length < sizeLine ∧ Nx (upd H4 D (.lst (acc ++ [y]))) else Nx H3) := by
  have ln := ShwAll.len sh
  refine lc_tup (K := K) (a := a) (xs := xs) (fun m H' => Same H1 H' ∧ H' D = some (.lst ((ds.take m).map G))) ⟨same_upd n, by rw [List.take_zero]; exact upd_same⟩ (fun m H' _ hP => SqT.of (hP.1 _ _ hx)) (fun m x H' hm hP => ?_) (fun H' hP => ?_)
  · obtain ⟨s1, d1⟩ := hP
    obtain ⟨d, hd, sd⟩ := ShwAll.get sh hm
    refine step x d H' _ (List.mem_of_getElem? hm) (List.mem_of_getElem? hd) (Shw.same sd s1) s1 fun H4 s4 => ⟨_, s4 _ _ d1, ?_, fun b o e => ?_, ?_⟩
    · have := (List.getElem?_eq_some_iff.mp hm).1
      rw [List.length_map, List.length_take, sizeLine_eq]
      omega
    · rw [upd_ne (ne_of_none e n)]
      exact s4 _ _ (s1 _ _ e)
    · rw [upd_same, List.take_add_one, hd, List.map_append]
      rfl
  · obtain ⟨s1, d1⟩ := hP
    rw [ln, List.take_length] at d1
    exact fin H' s1 d1
end K01

set_option autoImplicit false
set_option maxRecDepth 100000
set_option maxHeartbeats 4000000
namespace K01
open PySem PySem.Spec PyProof.Rows L2 KX
/-- a def of the module, with its promise -/
structure Fnc (P : Program) (w : World) (K : PySem.W.Frag) (mg : Str → Option Value) (base : Heap) (CX : CXT) (k : Nat) (x : Str) (ps : List Str) (sp : Sp) : Prop where
  ex : ∃ (f : Addr) (fd : FuncData), FnOk P w K mg base CX k f fd ps sp ∧ Binds K fd ps [] ∧ mg x = some (.ref f) ∧ PySem.W.keepIn K (.ref f) = true
section
variable {X : Cx} {CX : CXT} {k j : Nat} {x : Str} {ps : List Str} {sp : Sp} {E : XK} {p pos : Pos} {e : Expr} {es : List Expr} {t : TA}
theorem pe_fnc (F : Fnc X.prog X.w X.K X.mg X.base CX k x ps sp) (hr : Room j X.A) (hk : k ≤ j) (hg : Gl X x) (hx : Passes CX X E) (ha : PA X (e :: es) t) (hdb : (x == ("__debug__" : Str)) = false := by decide)
    (he : starEach (e :: es) X.env = (false, eval e X.env) :: starEach es X.env := by rfl) (hpl : (backTo pos (starEach es X.env)).any (·.1) = false := by rfl) : PE X (.Call (.Name x p) (e :: es) [] pos) (tCall sp [] E t) := by
  obtain ⟨f, fd, G, hb, hm, hkp⟩ := F.ex
  exact pe_call G (hr.mono hk) hg hm hkp hb .nil hx ha hdb he hpl
end
/-- built-in names that are left alone -/
structure Free (mg : Str → Option Value) : Prop where
  isinstance : mg "isinstance" = none
  str : mg "str" = none
  tuple : mg "tuple" = none
  len : mg "len" = none
  all : mg "all" = none
  set : mg "set" = none
  int : mg "int" = none
  list : mg "list" = none
  range : mg "range" = none
def rLen (K : PySem.W.Frag) : List V → Hp → VK → Prop := fun xs H Q => ∃ p ys, xs = [V.ref p] ∧ (SqL K H p ys ∨ SqT K H p ys) ∧ Q (V.int ↑ys.length) H
abbrev sAreNames : Stmt := topS 12
abbrev sAreArrays : Stmt := topS 13
theorem scAreNames : FnScope ["value", "most", "word"] ["value", "most"] (defScope sAreNames) :=
  ⟨rfl, rfl, rfl, by decide +kernel, rfl, by decide +kernel, by decide +kernel⟩
theorem scAreArrays : FnScope ["value", "pair"] ["value"] (defScope sAreArrays) :=
  ⟨rfl, rfl, rfl, by decide +kernel, rfl, by decide +kernel, by decide +kernel⟩
def spNames : Sp := fun vs H Q _ => ∃ (v : V) (d : PyData) (n : Nat), vs = [v, .int n] ∧ Shw H v d ∧ gd d = true ∧ ∀ H', Same H H' → Q (.bl (areNm n d)) H'
def spArrays : Sp := fun vs H Q _ => ∃ (v : V) (d : PyData), vs = [v] ∧ Shw H v d ∧ gd d = true ∧ ∀ H', Same H H' → Q (.bl (areArr d)) H'
section
variable {P : Program} {w : World} {K : PySem.W.Frag} {mg : Str → Option Value} {base : Heap}
def isTup : PyData → Bool
  | .tuple _ => true
  | _ => false
theorem kit_tup (d : PyData) : kitB (tyD d) "tuple" = some (isTup d) := by
  have a : (["NoneType", "bool", "int", "str", "list", "dict"].all fun t => kitB t "tuple" == some false) = true := by decide +kernel
  have b := fun t h => beq_iff_eq.mp (List.all_eq_true.mp a t h)
  cases d with
  | tuple ds => show kitB "tuple" "tuple" = some true; decide +kernel
  | none => exact b "NoneType" (by simp)
  | bool _ => exact b "bool" (by simp)
  | int _ => exact b "int" (by simp)
  | str _ => exact b "str" (by simp)
  | list _ => exact b "list" (by simp)
  | dict _ => exact b "dict" (by simp)
theorem not_tup {t : String} (h : t ∈ ["NoneType", "bool", "int", "str", "list", "dict"]) : kitB t "tuple" = some false := by
  have a : (["NoneType", "bool", "int", "str", "list", "dict"].all fun t => kitB t "tuple" == some false) = true := by decide +kernel
  exact beq_iff_eq.mp (List.all_eq_true.mp a t h)
theorem ok_names {f : Addr} {fd : FuncData} (F : Fun K "are_names" "are_names" sAreNames f fd) (N : Fnc P w K mg base CX0 1 "is_name" ["value"] (spName K)) (B : Free mg) :
    FnOk P w K mg base CX0 2 f fd ["value", "most"] spNames := by
  refine F.ok scAreNames (fun vs H Q E h => ?_) (fun cdv A outer s H vs Q E hr h => ?_)
  · obtain ⟨v, d, n, rfl, _⟩ := h
    rfl
  · obtain ⟨v, d, n, rfl, sh, g, q⟩ := h
    refine ⟨_, pss_one (ps_ret (pe_and (pe_callB call_isi (by rfl) B.isinstance (by decide +kernel) (pa_cons (pv 0) (pa_cons (pe_bltn (v := .ty "tuple") (by rfl) B.tuple (by decide +kernel) rfl) pa_nil)))
      (pe_and (pe_cmpR op_le (pe_callB call_len_seq (by rfl) B.len PySem.boot_len (pa_cons (pv 0) pa_nil)) (pv 1) (nomark _))
      (pe_one (pe_callB (cr_all rfl) (by rfl) B.all (by decide +kernel) (pa_cons (pe_lc (own := [("word", 2)]) (g := gName 2) (tt := tYes) rfl scAreNames.nd (pi_tup (pv 0)) (blkOk_by (N := ["value", "most", "word"]) (sc := defScope sAreNames) (by decide +kernel))
          (fun _ _ _ _ _ => pg_name (i := 2) scAreNames.nd rfl (Or.inl rfl)) (fun _ _ _ _ _ => pts_nil) (fun _ _ _ _ _ => pe_fnc N hr (by omega) (by rfl) pass0 (pa_cons (pv 2) pa_nil))) pa_nil)))))), ?_⟩
    refine ⟨v, rfl, v, .ty "tuple", _, _, isTup d, rfl, .ty _, shw_ty sh, kit_ty (kit_tup d), isTup d, rfl, ?_⟩
    cases sh with
    | non => exact q H (Same.refl H)
    | bl b => exact q H (Same.refl H)
    | int i => exact q H (Same.refl H)
    | str x => exact q H (Same.refl H)
    | lst e _ => exact q H (Same.refl H)
    | dct e => exact q H (Same.refl H)
    | @tup a xs ds e ha =>
      have ln := ShwAll.len ha
      simp only [gd, Bool.and_eq_true, decide_eq_true_eq] at g
      refine ⟨.ref a, rfl, a, xs, rfl, .inr (SqT.of e), .int n, rfl, _, _, rfl, rfl, _, rfl, ite2 (fun e1 => ?_) (fun e1 => ?_)⟩
      · have h1 : xs.length ≤ n := by
          have := of_decide_eq_true e1
          omega
        refine ⟨.ref a, rfl, a, rfl, ⟨_, SqT.of e⟩, fun D nD => ?_⟩
        refine lc_tupD (K := K) (fun d => .bl (isNm d)) e nD (by omega) ha (fun x d H' Q' hx hd shx s1 k => ⟨rfl, x, rfl, x, isNm d, rfl, shw_name shx (gdAll_mem g.2 hd), fun H4 s4 => k H4 s4⟩) (fun H' s1 d1 => ?_)
        refine ⟨D, ds.map isNm, rfl, SqL.of (by rw [d1, List.map_map]; rfl), ?_⟩
        have en : areNm n (.tuple ds) = (ds.map isNm).all id := by
          show (decide (ds.length ≤ n) && ds.all isNm) = _
          rw [decide_eq_true (by omega), Bool.true_and, List.all_map]
          rfl
        have z := q H' s1
        rw [en] at z
        exact z
      · have h1 : ¬ xs.length ≤ n := fun z => e1 (decide_eq_true (by omega))
        have en : areNm n (.tuple ds) = false := by
          show (decide (ds.length ≤ n) && ds.all isNm) = _
          rw [decide_eq_false (by omega), Bool.false_and]
        have z := q H (Same.refl H)
        rw [en] at z
        exact z
theorem ok_arrays {f : Addr} {fd : FuncData} {tk : Tok} (F : Fun K "are_arrays" "are_arrays" sAreArrays f fd) (N : Fnc P w K mg base CX0 2 "are_names" ["value", "most"] spNames) (B : Free mg) (gA : mg "MAX_ARRAYS" = some (.int 12 tk)) :
    FnOk P w K mg base CX0 3 f fd ["value"] spArrays := by
  refine F.ok scAreArrays (fun vs H Q E h => ?_) (fun cdv A outer s H vs Q E hr h => ?_)
  · obtain ⟨v, d, rfl, _⟩ := h
    rfl
  · obtain ⟨v, d, rfl, sh, g, q⟩ := h
    refine ⟨_, pss_cons (ps_if (PW.pt (pw_or (pt_not (pt_val (pe_callB call_isi (by rfl) B.isinstance (by decide +kernel) (pa_cons (pv 0) (pa_cons (pe_bltn (v := .ty "tuple") (by rfl) B.tuple (by decide +kernel) rfl) pa_nil)))))
          (pw_or1 (pt_cmpR op_gt (pe_callB call_len_seq (by rfl) B.len PySem.boot_len (pa_cons (pv 0) pa_nil)) (pe_glob (v := .int 12) (by rfl) gA ⟨_, rfl⟩) (nomark _)))))
        (pss_one (ps_ret pe_bl)) pss_nil)
      (pss_one (ps_ret (pe_callB (cr_all rfl) (by rfl) B.all (by decide +kernel) (pa_cons (pe_lc (own := [("pair", 1)]) (g := gName 1) (tt := tYes) rfl scAreArrays.nd (pi_tup (pv 0)) (blkOk_by (N := ["value", "pair"]) (sc := defScope sAreArrays) (by decide +kernel))
          (fun _ _ _ _ _ => pg_name (i := 1) scAreArrays.nd rfl (Or.inl rfl)) (fun _ _ _ _ _ => pts_nil)
          (fun _ _ _ _ _ => pe_and (pe_fnc N hr (by omega) (by rfl) pass0 (pa_cons (pv 1) (pa_cons pe_int pa_nil))) (pe_one (pe_cmpR op_eq (pe_callB (r := rLen K) call_len_seq (by rfl) B.len PySem.boot_len (pa_cons (pv 1) pa_nil)) pe_int (nomark _))))) pa_nil)))), ?_⟩
    refine ⟨v, rfl, v, .ty "tuple", _, _, isTup d, rfl, .ty _, shw_ty sh, kit_ty (kit_tup d), isTup d, rfl, ?_⟩
    cases sh with
    | non => exact q H (Same.refl H)
    | bl b => exact q H (Same.refl H)
    | int i => exact q H (Same.refl H)
    | str x => exact q H (Same.refl H)
    | lst e _ => exact q H (Same.refl H)
    | dct e => exact q H (Same.refl H)
    | @tup a xs ds e ha =>
      have ln := ShwAll.len ha
      simp only [gd, Bool.and_eq_true, decide_eq_true_eq] at g
      refine ⟨.ref a, rfl, a, xs, rfl, .inr (SqT.of e), _, _, rfl, rfl, _, rfl, ite2 (fun e1 => ?_) (fun e1 => ?_)⟩
      · have h1 : 12 < xs.length := by
          have := of_decide_eq_true e1
          omega
        have en : areArr (.tuple ds) = false := by
          show (decide (ds.length ≤ 12) && ds.all isPr) = _
          rw [decide_eq_false (by omega), Bool.false_and]
        have z := q H (Same.refl H)
        rw [en] at z
        exact z
      · have h1 : xs.length ≤ 12 := by
          have : ¬ ((xs.length : Int) > 12) := fun z => e1 (decide_eq_true z)
          omega
        refine ⟨.ref a, rfl, a, rfl, ⟨_, SqT.of e⟩, fun D nD => ?_⟩
        refine lc_tupD (K := K) (fun d => .bl (isPr d)) e nD (by omega) ha (fun x d H' Q' hx hd shx s1 k => ⟨rfl, x, rfl, x, d, 2, rfl, shx, gdAll_mem g.2 hd, fun H4 s4 => ⟨_, rfl, ?_⟩⟩) (fun H' s1 d1 => ?_)
        · refine ite2 (fun e2 => ?_) (fun e2 => ?_)
          · cases Shw.same shx s4 with
            | @tup a2 ys es e3 ha2 =>
              have l2 := ShwAll.len ha2
              refine ⟨_, rfl, a2, ys, rfl, .inr (SqT.of e3), rfl, ?_⟩
              have en : isPr (.tuple es) = decide (V.int (ys.length : Int) = V.int 2) := by
                show (areNm 2 (.tuple es) && decide (es.length = 2)) = _
                rw [e2, Bool.true_and, ← l2]
                refine decide_eq_decide.mpr ⟨fun z => by rw [z]; rfl, fun z => ?_⟩
                have := V.int.inj z
                omega
              have z := k H4 s4
              simp only [en] at z
              exact z
            | non => cases e2
            | bl b => cases e2
            | int i => cases e2
            | str x => cases e2
            | lst e _ => cases e2
            | dct e => cases e2
          · have en : isPr d = false := by
              unfold isPr
              rw [Bool.eq_false_iff.mpr e2, Bool.false_and]
            have z := k H4 s4
            simp only [en] at z
            exact z
        · refine ⟨D, ds.map isPr, rfl, SqL.of (by rw [d1, List.map_map]; rfl), ?_⟩
          have en : areArr (.tuple ds) = (ds.map isPr).all id := by
            show (decide (ds.length ≤ 12) && ds.all isPr) = _
            rw [decide_eq_true (by omega), Bool.true_and, List.all_map]
            rfl
          have z := q H' s1
          rw [en] at z
          exact z
end
end K01

set_option autoImplicit false
set_option maxRecDepth 100000
set_option maxHeartbeats 4000000
namespace K01
open PySem PySem.Spec PyProof.Rows L2 KX
/-- a pair of texts -/
def prD (p : Str × Str) : PyData := .tuple [.str p.1, .str p.2]
/-- texts, each once -/
def onceS (zs : List Str) : List Str := zs.foldl (fun acc z => if z ∈ acc then acc else acc ++ [z]) []
theorem onceS_snoc (zs : List Str) (z : Str) : onceS (zs ++ [z]) = if z ∈ onceS zs then onceS zs else onceS zs ++ [z] := by
  unfold onceS
  rw [List.foldl_append]
  rfl
theorem onceS_le (zs : List Str) : (onceS zs).length ≤ zs.length := by
  have go : ∀ (l acc : List Str), (l.foldl (fun acc k => if k ∈ acc then acc else acc ++ [k]) acc).length ≤ acc.length + l.length := fun l => by
    induction l with
    | nil => exact fun acc => Nat.le_refl _
    | cons k l ih =>
      intro acc
      have y := ih (if k ∈ acc then acc else acc ++ [k])
      rw [List.foldl_cons, List.length_cons]
      by_cases m : k ∈ acc
      · rw [if_pos m] at y ⊢
        omega
      · rw [if_neg m] at y ⊢
        rw [List.length_append, List.length_singleton] at y
        omega
  have y := go zs []
  rw [List.length_nil, Nat.zero_add] at y
  exact y
/-- the dict of these keys, all with one value -/
def keysK (v : V) (zs : List Str) : List (Key × V) := zs.map fun z => ((.inr z : Key), v)
theorem put_keysK (v : V) (zs : List Str) (z : Str) : putK (keysK v zs) (.inr z) v = keysK v (if z ∈ zs then zs else zs ++ [z]) := by
  unfold putK keysK
  by_cases m : z ∈ zs
  · have a : ((zs.map fun z => ((.inr z : Key), v)).any fun kv => decide (kv.1 = .inr z)) = true := List.any_eq_true.mpr ⟨_, List.mem_map.mpr ⟨z, m, rfl⟩, by simp⟩
    rw [if_pos a, if_pos m, List.map_map]
    refine List.map_congr_left fun y _ => ?_
    show (if (.inr y : Key) = .inr z then ((.inr y : Key), v) else ((.inr y : Key), v)) = _
    split <;> rfl
  · have a : ¬ ((zs.map fun z => ((.inr z : Key), v)).any fun kv => decide (kv.1 = .inr z)) = true := fun h => by
      obtain ⟨kv, h1, h2⟩ := List.any_eq_true.mp h
      obtain ⟨y, hy, rfl⟩ := List.mem_map.mp h1
      have e : (.inr y : Key) = .inr z := of_decide_eq_true h2
      exact m (Sum.inr.inj e ▸ hy)
    rw [if_neg a, if_neg m, List.map_append]
    rfl
abbrev sLengthsIn : Stmt := topS 14
theorem scLengthsIn : FnScope ["arrays", "array", "length"] ["arrays"] (defScope sLengthsIn) :=
  ⟨rfl, rfl, rfl, by decide +kernel, rfl, by decide +kernel, by decide +kernel⟩
/-- arrays: pairs of texts -/
def Arr (H : Hp) (v : V) (ps : List (Str × Str)) : Prop := Shw H v (.tuple (ps.map prD))
def lensOf (ps : List (Str × Str)) : List Str := onceS (ps.map (·.2))
def spLens : Sp := fun vs H Q _ => ∃ (v : V) (ps : List (Str × Str)), vs = [v] ∧ Arr H v ps ∧ ps.length ≤ 1000 ∧ ∀ (t : Addr) (H' : Hp), Same H H' → H' t = some (.tup ((lensOf ps).map V.str)) → Q (.ref t) H'
theorem pair_get {H : Hp} {x : V} {p : Str × Str} (s : Shw H x (prD p)) : ∃ b : Addr, x = .ref b ∧ H b = some (.tup [.str p.1, .str p.2]) := by
  cases s with
  | @tup b xs _ e ha =>
    cases ha with
    | cons h1 h2 =>
      cases h1
      cases h2 with
      | cons h3 h4 =>
        cases h3
        cases h4
        exact ⟨b, rfl, e⟩
theorem arr_get {H : Hp} {v : V} {ps : List (Str × Str)} (s : Arr H v ps) : ∃ (a : Addr) (xs : List V), v = .ref a ∧ H a = some (.tup xs) ∧ xs.length = ps.length ∧ ∀ (i : Nat) (x : V), xs[i]? = some x → ∃ (p : Str × Str) (b : Addr), ps[i]? = some p ∧ x = .ref b ∧ H b = some (.tup [.str p.1, .str p.2]) := by
  cases s with
  | @tup a xs _ e ha =>
    refine ⟨a, xs, rfl, e, by have := ShwAll.len ha; rw [List.length_map] at this; exact this, fun i x hx => ?_⟩
    obtain ⟨d, h1, h2⟩ := ShwAll.get ha hx
    rw [List.getElem?_map] at h1
    obtain ⟨p, h3, rfl⟩ := Option.map_eq_some_iff.mp h1
    obtain ⟨b, e1, e2⟩ := pair_get h2
    exact ⟨p, b, h3, e1, e2⟩
section
variable {P : Program} {w : World} {K : PySem.W.Frag} {mg : Str → Option Value} {base : Heap}
theorem ok_lens {f : Addr} {fd : FuncData} (F : Fun K "lengths_in" "lengths_in" sLengthsIn f fd) (B : Free mg) : FnOk P w K mg base CX0 1 f fd ["arrays"] spLens := by
  refine F.ok scLengthsIn (fun vs H Q E h => ?_) (fun cdv A outer s H vs Q E hr h => ?_)
  · obtain ⟨v, ps, rfl, _⟩ := h
    rfl
  · obtain ⟨v, ps, rfl, sh, few, q⟩ := h
    refine ⟨_, pss_one (ps_ret (pe_callTy (call_tuple_dK rfl) (by rfl) B.tuple (by decide +kernel) (pa_cons (pe_dc (own := [("array", 1), ("length", 2)]) (g := gTup K 2 (gCons (gName 1) (gCons (gName 2) gNil))) (tt := tYes) rfl scLengthsIn.nd (pi_tup (pv 0)) (blkOk_by (N := ["arrays", "array", "length"]) (sc := defScope sLengthsIn) (by decide +kernel))
        (fun _ _ _ _ _ => pg_tup rfl (pgs_cons (pg_name (i := 1) scLengthsIn.nd rfl (Or.inl rfl) (Or.inr rfl)) (pgs_cons (pg_name (i := 2) scLengthsIn.nd rfl (Or.inl rfl) (Or.inr rfl)) pgs_nil))) (fun _ _ _ _ _ => pts_nil)
        (fun _ _ _ _ _ => pv 2) (fun _ _ _ _ _ => pe_bl)) pa_nil))), ?_⟩
    obtain ⟨a, xs, rfl, e, ln, at_⟩ := arr_get sh
    refine ⟨.ref a, rfl, a, rfl, ⟨_, SqT.of e⟩, fun D nD => ?_⟩
    refine dc_tup (K := K) (a := a) (xs := xs) (fun m H' => Same H H' ∧ H' D = some (.dK (keysK (.bl true) (onceS ((ps.take m).map (·.2)))))) ⟨same_upd nD, upd_same⟩ (fun m H' _ hP => SqT.of (hP.1 _ _ e)) (fun m x H' hm hP => ?_) (fun H' hP => ?_)
    · obtain ⟨s1, d1⟩ := hP
      obtain ⟨p, b, hp, rfl, e2⟩ := at_ m x hm
      have len1 : (keysK (.bl true) (onceS ((ps.take m).map (·.2)))).length < sizeLine := by
        unfold keysK
        rw [List.length_map, sizeLine_eq]
        have := onceS_le ((ps.take m).map (·.2))
        rw [List.length_map, List.length_take] at this
        omega
      refine ⟨b, _, rfl, SqT.of (s1 _ _ e2), rfl, _, _, rfl, _, _, rfl, rfl, rfl, _, rfl, _, .inr p.2, rfl, d1, len1, fun c o z => ?_, ?_⟩
      · rw [upd_ne (ne_of_none z nD)]
        exact s1 _ _ z
      · rw [upd_same, put_keysK, List.take_add_one, hp, List.map_append]
        show _ = some (HO.dK (keysK (.bl true) (onceS ((ps.take m).map (·.2) ++ [p.2]))))
        rw [onceS_snoc]
    · obtain ⟨s1, d1⟩ := hP
      rw [ln, List.take_length] at d1
      refine ⟨D, _, rfl, d1, fun t nt => q t _ (s1.trans (same_upd nt)) ?_⟩
      rw [upd_same]
      unfold keysK lensOf
      rw [List.map_map]
      rfl
end
end K01

set_option autoImplicit false
set_option maxRecDepth 100000
set_option maxHeartbeats 4000000
namespace K01
open PySem PySem.Spec PyProof.Rows L2 KX
abbrev sWordsIn : Stmt := topS 15
theorem scWordsIn : FnScope ["arrays", "positions", "values", "array", "length"] ["arrays", "positions", "values"] (defScope sWordsIn) :=
  ⟨rfl, rfl, rfl, by decide +kernel, rfl, by decide +kernel, by decide +kernel⟩
/-- a tuple of texts -/
def Txts (H : Hp) (v : V) (zs : List Str) : Prop := ∃ a : Addr, v = .ref a ∧ H a = some (.tup (zs.map V.str))
theorem Txts.same {H H' : Hp} {v : V} {zs : List Str} (t : Txts H v zs) (s : Same H H') : Txts H' v zs := t.imp fun a h => ⟨h.1, s _ _ h.2⟩
def wordsOf (ps : List (Str × Str)) (qs rs : List Str) : List Str := ps.map (·.1) ++ (lensOf ps ++ (qs ++ rs))
def spWords : Sp := fun vs H Q _ => ∃ (v1 v2 v3 : V) (ps : List (Str × Str)) (qs rs : List Str), vs = [v1, v2, v3] ∧ Arr H v1 ps ∧ Txts H v2 qs ∧ Txts H v3 rs ∧ ps.length ≤ 300 ∧ qs.length ≤ 300 ∧ rs.length ≤ 300 ∧
  ∀ (t : Addr) (H' : Hp), Same H H' → H' t = some (.tup ((wordsOf ps qs rs).map V.str)) → Q (.ref t) H'
theorem lensOf_le (ps : List (Str × Str)) : (lensOf ps).length ≤ ps.length := by
  have := onceS_le (ps.map (·.2))
  rw [List.length_map] at this
  exact this
section
variable {P : Program} {w : World} {K : PySem.W.Frag} {mg : Str → Option Value} {base : Heap}
theorem ok_words {f : Addr} {fd : FuncData} (F : Fun K "words_in" "words_in" sWordsIn f fd) (L : Fnc P w K mg base CX0 1 "lengths_in" ["arrays"] spLens) (B : Free mg) :
    FnOk P w K mg base CX0 2 f fd ["arrays", "positions", "values"] spWords := by
  refine F.ok scWordsIn (fun vs H Q E h => ?_) (fun cdv A outer s H vs Q E hr h => ?_)
  · obtain ⟨v1, v2, v3, ps, qs, rs, rfl, _⟩ := h
    rfl
  · obtain ⟨v1, v2, v3, ps, qs, rs, rfl, sh, t2, t3, few1, few2, few3, q⟩ := h
    refine ⟨_, pss_one (ps_ret (pe_tup (StX.pa_star (pe_lc (own := [("array", 3), ("length", 4)]) (g := gTup K 2 (gCons (gName 3) (gCons (gName 4) gNil))) (tt := tYes) rfl scWordsIn.nd (pi_tup (pv 0)) (blkOk_by (N := ["arrays", "positions", "values", "array", "length"]) (sc := defScope sWordsIn) (by decide +kernel))
        (fun _ _ _ _ _ => pg_tup rfl (pgs_cons (pg_name (i := 3) scWordsIn.nd rfl (Or.inl rfl) (Or.inr rfl)) (pgs_cons (pg_name (i := 4) scWordsIn.nd rfl (Or.inl rfl) (Or.inr rfl)) pgs_nil))) (fun _ _ _ _ _ => pts_nil) (fun _ _ _ _ _ => pv 3))
      (StX.pa_star (pe_fnc L hr (by omega) (by rfl) pass0 (pa_cons (pv 0) pa_nil)) (StX.pa_star (pv 1) (StX.pa_star (pv 2) pa_nil)))))), ?_⟩
    obtain ⟨a, xs, rfl, e, ln, at_⟩ := arr_get sh
    obtain ⟨a2, rfl, e2⟩ := t2
    obtain ⟨a3, rfl, e3⟩ := t3
    refine ⟨.ref a, rfl, a, rfl, ⟨_, SqT.of e⟩, fun D nD => ?_⟩
    refine lc_tup (K := K) (a := a) (xs := xs) (fun m H' => Same H H' ∧ H' D = some (.lst ((ps.take m).map fun p => V.str p.1))) ⟨same_upd nD, upd_same⟩ (fun m H' _ hP => SqT.of (hP.1 _ _ e)) (fun m x H' hm hP => ?_) (fun H' hP => ?_)
    · obtain ⟨s1, d1⟩ := hP
      obtain ⟨p, b, hp, rfl, eb⟩ := at_ m x hm
      refine ⟨b, _, rfl, SqT.of (s1 _ _ eb), rfl, _, _, rfl, _, _, rfl, rfl, rfl, _, rfl, _, d1, ?_, fun c o z => ?_, ?_⟩
      · rw [List.length_map, List.length_take, sizeLine_eq]
        omega
      · rw [upd_ne (ne_of_none z nD)]
        exact s1 _ _ z
      · rw [upd_same, List.take_add_one, hp, List.map_append]
        rfl
    · obtain ⟨s1, d1⟩ := hP
      rw [ln, List.take_length] at d1
      refine ⟨D, _, rfl, .inr (SqL.of d1), .ref a, rfl, .ref a, ps, rfl, Shw.same sh s1, by omega, fun t H2 s2 e4 => ⟨t, _, rfl, .inl (SqT.of e4), .ref a2, rfl, a2, _, rfl, .inl (SqT.of (s2 _ _ (s1 _ _ e2))), .ref a3, rfl, a3, _, rfl, .inl (SqT.of (s2 _ _ (s1 _ _ e3))), ?_, fun r nr => ?_⟩⟩
      · have l1 := lensOf_le ps
        simp only [List.length_append, List.length_map, List.length_nil, sizeLine_eq]
        omega
      · refine q r _ ((s1.trans s2).trans (same_upd nr)) ?_
        rw [upd_same]
        unfold wordsOf
        simp [List.map_append, List.map_map, Function.comp_def]
end
end K01

set_option autoImplicit false
set_option maxRecDepth 100000
set_option maxHeartbeats 4000000
namespace K01
open PySem PySem.Spec PyProof.Rows L2 KX
def txtD : PyData → Str
  | .str z => z
  | _ => ""
def itemsD : PyData → List PyData
  | .tuple ds => ds
  | _ => []
def strsD (d : PyData) : List Str := (itemsD d).map txtD
def pairD (d : PyData) : Str × Str := ((strsD d).getD 0 "", (strsD d).getD 1 "")
def prsD (d : PyData) : List (Str × Str) := (itemsD d).map pairD
theorem isNm_str {d : PyData} (h : isNm d = true) : d = .str (txtD d) := by
  cases d with
  | str z => rfl
  | _ => cases h
theorem names_are {n : Nat} {d : PyData} (h : areNm n d = true) : d = .tuple ((strsD d).map PyData.str) ∧ (strsD d).length ≤ n := by
  cases d with
  | tuple ds =>
    have h' : (decide (ds.length ≤ n) && ds.all isNm) = true := h
    rw [Bool.and_eq_true, decide_eq_true_eq] at h'
    refine ⟨?_, by show (ds.map txtD).length ≤ n; rw [List.length_map]; exact h'.1⟩
    show PyData.tuple ds = .tuple ((ds.map txtD).map PyData.str)
    rw [List.map_map]
    congr 1
    refine (List.map_id ds).symm.trans (List.map_congr_left fun y hy => ?_)
    exact isNm_str (List.all_eq_true.mp h'.2 y hy)
  | _ => cases h
theorem pair_is {d : PyData} (h : isPr d = true) : d = prD (pairD d) := by
  unfold isPr at h
  rw [Bool.and_eq_true, decide_eq_true_eq] at h
  obtain ⟨e, l⟩ := names_are h.1
  have l2 : (strsD d).length = 2 := by
    rw [e] at h
    have := h.2
    simpa [lenD] using this
  unfold prD pairD
  match hs : strsD d, l2 with
  | [y, z], _ =>
    rw [hs] at e
    exact e
theorem arrays_are {d : PyData} (h : areArr d = true) : d = .tuple ((prsD d).map prD) ∧ (prsD d).length ≤ 12 := by
  cases d with
  | tuple ds =>
    have h' : (decide (ds.length ≤ 12) && ds.all isPr) = true := h
    rw [Bool.and_eq_true, decide_eq_true_eq] at h'
    refine ⟨?_, by show (ds.map pairD).length ≤ 12; rw [List.length_map]; exact h'.1⟩
    show PyData.tuple ds = .tuple ((ds.map pairD).map prD)
    rw [List.map_map]
    congr 1
    refine (List.map_id ds).symm.trans (List.map_congr_left fun y hy => ?_)
    exact pair_is (List.all_eq_true.mp h'.2 y hy)
  | _ => cases h
def nodupW (ws : List Str) : Bool := decide (((onceS ws).length : Int) = (ws.length : Int))
def wordsD (d1 d2 d3 : PyData) : List Str := wordsOf (prsD d1) (strsD d2) (strsD d3)
def isFrame (d1 d2 d3 : PyData) : Bool := areArr d1 && (areNm 6 d2 && (areNm 6 d3 && nodupW (wordsD d1 d2 d3)))
theorem txts_of {H : Hp} {v : V} {zs : List Str} (s : Shw H v (.tuple (zs.map PyData.str))) : Txts H v zs := by
  cases s with
  | @tup a xs _ e ha =>
    refine ⟨a, rfl, ?_⟩
    have : ∀ (zs : List Str) (xs : List V), ShwAll H xs (zs.map PyData.str) → xs = zs.map V.str := fun zs => by
      induction zs with
      | nil =>
        intro xs h
        cases h
        rfl
      | cons z zs ih =>
        intro xs h
        cases h with
        | cons h1 h2 =>
          cases h1
          rw [List.map_cons, ih _ h2]
    rw [e, this zs xs ha]
abbrev sFrameOf : Stmt := topS 16
theorem scFrameOf : FnScope ["arrays", "positions", "values", "words"] ["arrays", "positions", "values"] (defScope sFrameOf) :=
  ⟨rfl, rfl, rfl, by decide +kernel, rfl, by decide +kernel, by decide +kernel⟩
def spFrameOf : Sp := fun vs H Q _ => ∃ (v1 v2 v3 : V) (d1 d2 d3 : PyData), vs = [v1, v2, v3] ∧ Shw H v1 d1 ∧ Shw H v2 d2 ∧ Shw H v3 d3 ∧ gd d1 = true ∧ gd d2 = true ∧ gd d3 = true ∧ ∀ H', Same H H' → Q (.bl (isFrame d1 d2 d3)) H'
section
variable {P : Program} {w : World} {K : PySem.W.Frag} {mg : Str → Option Value} {base : Heap}
theorem ok_frameOf {f : Addr} {fd : FuncData} {tp tv : Tok} (F : Fun K "is_frame_of" "is_frame_of" sFrameOf f fd) (A1 : Fnc P w K mg base CX0 3 "are_arrays" ["value"] spArrays) (A2 : Fnc P w K mg base CX0 2 "are_names" ["value", "most"] spNames)
    (A3 : Fnc P w K mg base CX0 2 "words_in" ["arrays", "positions", "values"] spWords) (B : Free mg) (gP : mg "MAX_POSITIONS" = some (.int 6 tp)) (gV : mg "MAX_VALUES" = some (.int 6 tv)) :
    FnOk P w K mg base CX0 4 f fd ["arrays", "positions", "values"] spFrameOf := by
  refine F.ok scFrameOf (fun vs H Q E h => ?_) (fun cdv A outer s H vs Q E hr h => ?_)
  · obtain ⟨v1, v2, v3, d1, d2, d3, rfl, _⟩ := h
    rfl
  · obtain ⟨v1, v2, v3, d1, d2, d3, rfl, s1, s2, s3, g1, g2, g3, q⟩ := h
    refine ⟨_, pss_cons (ps_if (PW.pt (pw_or (pt_not (pt_val (pe_fnc A1 hr (by omega) (by rfl) pass0 (pa_cons (pv 0) pa_nil))))
          (pw_or (pt_not (pt_val (pe_fnc A2 hr (by omega) (by rfl) pass0 (pa_cons (pv 1) (pa_cons (pe_glob (v := .int 6) (by rfl) gP ⟨_, rfl⟩) pa_nil)))))
          (pw_or1 (pt_not (pt_val (pe_fnc A2 hr (by omega) (by rfl) pass0 (pa_cons (pv 2) (pa_cons (pe_glob (v := .int 6) (by rfl) gV ⟨_, rfl⟩) pa_nil)))))))))
        (pss_one (ps_ret pe_bl)) pss_nil)
      (pss_cons (ps_set (i := 3) scFrameOf.nd rfl (.inl rfl) (pe_fnc A3 hr (by omega) (by rfl) pass0 (pa_cons (pv 0) (pa_cons (pv 1) (pa_cons (pv 2) pa_nil)))))
      (pss_one (ps_ret (pe_cmpR op_eq (pe_lenWords (by rfl) B.len (by rfl) B.set (pv 3)) (pe_callB call_len_seq (by rfl) B.len PySem.boot_len (pa_cons (pv 3) pa_nil)) (nomark _))))), ?_⟩
    refine ⟨v1, rfl, v1, d1, rfl, s1, g1, fun H1 w1 => ⟨_, rfl, ?_⟩⟩
    cases e1 : areArr d1 with
    | false =>
      have en : isFrame d1 d2 d3 = false := by
        unfold isFrame
        rw [e1, Bool.false_and]
      have z := q H1 w1
      rw [en] at z
      exact z
    | true =>
      refine ⟨v2, rfl, v2, d2, 6, rfl, Shw.same s2 w1, g2, fun H2 w2 => ⟨_, rfl, ?_⟩⟩
      cases e2 : areNm 6 d2 with
      | false =>
        have en : isFrame d1 d2 d3 = false := by
          unfold isFrame
          rw [e1, e2, Bool.false_and, Bool.and_false]
        have z := q H2 (w1.trans w2)
        rw [en] at z
        exact z
      | true =>
        refine ⟨v3, rfl, v3, d3, 6, rfl, Shw.same s3 (w1.trans w2), g3, fun H3 w3 => ⟨_, rfl, ?_⟩⟩
        have w123 := (w1.trans w2).trans w3
        cases e3 : areNm 6 d3 with
        | false =>
          have en : isFrame d1 d2 d3 = false := by
            unfold isFrame
            rw [e1, e2, e3, Bool.false_and, Bool.and_false, Bool.and_false]
          have z := q H3 w123
          rw [en] at z
          exact z
        | true =>
          obtain ⟨x1, l1⟩ := arrays_are e1
          obtain ⟨x2, l2⟩ := names_are e2
          obtain ⟨x3, l3⟩ := names_are e3
          have y1 : Arr H3 v1 (prsD d1) := by
            have y := Shw.same s1 w123
            rw [x1] at y
            exact y
          have y2 : Txts H3 v2 (strsD d2) := txts_of (by rw [← x2]; exact Shw.same s2 w123)
          have y3 : Txts H3 v3 (strsD d3) := txts_of (by rw [← x3]; exact Shw.same s3 w123)
          refine ⟨v1, rfl, v2, rfl, v3, rfl, v1, v2, v3, prsD d1, strsD d2, strsD d3, rfl, y1, y2, y3, by omega, by omega, by omega, fun t H4 w4 e4 => ?_⟩
          have few : (wordsOf (prsD d1) (strsD d2) (strsD d3)).length ≤ 100 := by
            have l4 := lensOf_le (prsD d1)
            unfold wordsOf
            simp only [List.length_append, List.length_map]
            omega
          refine ⟨_, rfl, t, _, rfl, .inr (SqT.of e4), by omega, .ref t, rfl, t, _, rfl, .inr (SqT.of e4), rfl, ?_⟩
          have en : isFrame d1 d2 d3 = decide (V.int ((once (wordsOf (prsD d1) (strsD d2) (strsD d3))).length : Nat) = V.int (((wordsOf (prsD d1) (strsD d2) (strsD d3)).map V.str).length : Nat)) := by
            unfold isFrame nodupW wordsD
            rw [e1, e2, e3, Bool.true_and, Bool.true_and, Bool.true_and, List.length_map]
            refine decide_eq_decide.mpr ⟨fun z => congrArg V.int z, fun z => V.int.inj z⟩
          have z := q H4 (w123.trans w4)
          rw [en] at z
          exact z
end
end K01

set_option autoImplicit false
set_option maxRecDepth 100000
set_option maxHeartbeats 4000000
namespace K01
open PySem PySem.Spec PyProof.Rows L2 KX
theorem onceS_full {l acc : List Str} (na : acc.Nodup) (h : (l.foldl (fun acc k => if k ∈ acc then acc else acc ++ [k]) acc).length = acc.length + l.length) : (acc ++ l).Nodup ∧ l.foldl (fun acc k => if k ∈ acc then acc else acc ++ [k]) acc = acc ++ l := by
  induction l generalizing acc with
  | nil => exact ⟨by rw [List.append_nil]; exact na, by rw [List.append_nil]; rfl⟩
  | cons k l ih =>
    have le : ∀ (l acc : List Str), (l.foldl (fun acc k => if k ∈ acc then acc else acc ++ [k]) acc).length ≤ acc.length + l.length := fun l => by
      induction l with
      | nil => exact fun acc => Nat.le_refl _
      | cons k l ih =>
        intro acc
        have y := ih (if k ∈ acc then acc else acc ++ [k])
        rw [List.foldl_cons, List.length_cons]
        by_cases m : k ∈ acc
        · rw [if_pos m] at y ⊢
          omega
        · rw [if_neg m] at y ⊢
          rw [List.length_append, List.length_singleton] at y
          omega
    rw [List.foldl_cons, List.length_cons] at h
    by_cases m : k ∈ acc
    · rw [if_pos m] at h
      have := le l acc
      omega
    · rw [if_neg m] at h
      have n2 : (acc ++ [k]).Nodup := List.nodup_append.mpr ⟨na, by simp, fun a ha b hb => by
        rw [List.mem_singleton.mp hb]
        exact fun e => m (e ▸ ha)⟩
      have y := ih n2 (by rw [h, List.length_append, List.length_singleton]; omega)
      rw [List.append_assoc] at y
      refine ⟨y.1, ?_⟩
      rw [List.foldl_cons, if_neg m]
      exact y.2
theorem nodupW_is {ws : List Str} (h : nodupW ws = true) : ws.Nodup ∧ onceS ws = ws := by
  have e := of_decide_eq_true h
  have y := onceS_full (l := ws) (acc := []) List.nodup_nil (by show (onceS ws).length = 0 + ws.length; omega)
  exact ⟨y.1, y.2⟩
theorem onceS_nodup {l : List Str} : ∀ {acc : List Str}, (acc ++ l).Nodup → l.foldl (fun acc k => if k ∈ acc then acc else acc ++ [k]) acc = acc ++ l := by
  induction l with
  | nil => exact fun _ => (List.append_nil _).symm
  | cons k l ih =>
    intro acc n
    have m : k ∉ acc := fun z => (List.nodup_append.mp n).2.2 k z k List.mem_cons_self rfl
    rw [List.foldl_cons, if_neg m, ih (by rw [List.append_assoc]; exact n), List.append_assoc]
    rfl
theorem onceS_id {l : List Str} (n : l.Nodup) : onceS l = l := onceS_nodup (acc := []) n
/-- new keys go behind -/
theorem merge_new : ∀ {more kvs : List (Key × V)}, ((kvs ++ more).map (·.1)).Nodup → mergeK kvs more = kvs ++ more
  | [], kvs, _ => (List.append_nil kvs).symm
  | kv :: more, kvs, n => by
    have m : ¬ (kvs.any fun y => decide (y.1 = kv.1)) = true := fun z => by
      obtain ⟨y, hy, e⟩ := List.any_eq_true.mp z
      rw [List.map_append, List.nodup_append] at n
      exact n.2.2 y.1 (List.mem_map.mpr ⟨y, hy, rfl⟩) kv.1 (List.mem_map.mpr ⟨kv, List.mem_cons_self, rfl⟩) (of_decide_eq_true e)
    have e : putK kvs kv.1 kv.2 = kvs ++ [kv] := by
      unfold putK
      rw [if_neg m]
    show mergeK (putK kvs kv.1 kv.2) more = _
    rw [e, merge_new (by rw [List.append_assoc]; exact n), List.append_assoc]
    rfl
/-- a dict comprehension over any walk -/
theorem dc_it {J : It} {n : Nat} {G : Hp → Prop} {Y : Nat → Hp → V → Hp → Prop} (w : Walk J n G Y) {g : TG} {tt : TT} {tk tv : TE} {vs : List Nat} {σ : L2.St} {H1 : Hp} {D : Addr} {Qd : Hp → Prop} (Pv : Nat → Hp → Prop) (h0 : Pv 0 (upd H1 D (.dK []))) (hG : ∀ i H, i ≤ n → Pv i H → G H)
    (hs : ∀ i x H H', i < n → Pv i H → Y i H x H' → g x (wipe σ vs) H' fun σ2 H2 => wipe σ2 vs = wipe σ vs ∧ tt σ2 H2 fun b H3 =>
      if b = true then tk σ2 H3 fun y H4 => tv σ2 H4 fun z H5 => ∃ kvs k, y = kV k ∧ H5 D = some (.dK kvs) ∧ kvs.length < sizeLine ∧ Pv (i + 1) (upd H5 D (.dK (putK kvs k z))) else Pv (i + 1) H3) (hd : ∀ H, Pv n H → Qd H) :
    ∃ W : Nat → Nat → Hp → Prop, (∃ m, W 0 m (upd H1 D (.dK []))) ∧ ∀ i m H, W i m H →
      (J.stop i H ∧ Qd H) ∨ (J.go i H ∧ ∃ Nx : Hp → Prop, (∀ H', Nx H' → ∃ m', m' < m ∧ W (i + 1) m' H') ∧ ∀ x H', J.yld i H x H' → g x (wipe σ vs) H' fun σ2 H2 => wipe σ2 vs = wipe σ vs ∧ tt σ2 H2 fun b H3 =>
        if b = true then tk σ2 H3 fun y H4 => tv σ2 H4 fun z H5 => ∃ kvs k, y = kV k ∧ H5 D = some (.dK kvs) ∧ kvs.length < sizeLine ∧ Nx (upd H5 D (.dK (putK kvs k z))) else Nx H3) := by
  refine ⟨fun i m H => m = n - i ∧ i ≤ n ∧ Pv i H, ⟨n, rfl, Nat.zero_le _, h0⟩, ?_⟩
  rintro i m H ⟨rfl, hi, p⟩
  rcases Nat.lt_or_ge i n with lt | ge
  · exact .inr ⟨w.goes i H lt (hG i H hi p), Pv (i + 1), fun H' p' => ⟨n - (i + 1), by omega, rfl, lt, p'⟩, fun x H' y => hs i x H H' lt p (w.yields i H x H' lt (hG i H hi p) y)⟩
  · obtain rfl : i = n := Nat.le_antisymm hi ge
    exact .inl ⟨w.stops H (hG i H hi p), hd H p⟩
/-- {word: v for word in ..}, the words told by a walk -/
theorem dc_words {J : It} {G : Hp → Prop} {Y : Nat → Hp → V → Hp → Prop} {zs : List Str} {i0 : Nat} {v : V} {vs : List Nat} {σ : L2.St} {H1 : Hp} {D : Addr} {Qd : Hp → Prop} (w : Walk J zs.length G Y) (n : H1 D = none) (few : zs.length ≤ 1000) (nd : zs.Nodup)
    (hG : ∀ H', Same H1 H' → G H') (hY : ∀ i H x H', i < zs.length → Y i H x H' → H' = H ∧ ∃ z, zs[i]? = some z ∧ x = .str z) (l0 : i0 < σ.length) (hw : wipe ((wipe σ vs).set i0 (some (.str ""))) vs = wipe σ vs)
    (hw2 : ∀ x : V, wipe ((wipe σ vs).set i0 (some x)) vs = wipe σ vs) (fin : ∀ H', Same H1 H' → H' D = some (.dK (keysK v zs)) → Qd H') :
    ∃ W : Nat → Nat → Hp → Prop, (∃ m, W 0 m (upd H1 D (.dK []))) ∧ ∀ i m H, W i m H →
      (J.stop i H ∧ Qd H) ∨ (J.go i H ∧ ∃ Nx : Hp → Prop, (∀ H', Nx H' → ∃ m', m' < m ∧ W (i + 1) m' H') ∧ ∀ x H', J.yld i H x H' → gName i0 x (wipe σ vs) H' fun σ2 H2 => wipe σ2 vs = wipe σ vs ∧ tYes σ2 H2 fun b H3 =>
        if b = true then tVar i0 σ2 H3 fun y H4 => tC v σ2 H4 fun z H5 => ∃ kvs k, y = kV k ∧ H5 D = some (.dK kvs) ∧ kvs.length < sizeLine ∧ Nx (upd H5 D (.dK (putK kvs k z))) else Nx H3) := by
  refine dc_it w (fun m H' => Same H1 H' ∧ H' D = some (.dK (keysK v (onceS (zs.take m))))) ⟨same_upd n, upd_same⟩ (fun m H' _ hP => hG H' hP.1) (fun m x H' H'' hm hP hy => ?_) (fun H' hP => ?_)
  · obtain ⟨s1, d1⟩ := hP
    obtain ⟨rfl, z, hz, rfl⟩ := hY m H' x H'' hm hy
    have short : (keysK v (onceS (zs.take m))).length < sizeLine := by
      unfold keysK
      rw [List.length_map, sizeLine_eq]
      have := onceS_le (zs.take m)
      rw [List.length_take] at this
      omega
    refine ⟨hw2 _, .str z, ?_, _, .inr z, rfl, d1, short, fun c o e => ?_, ?_⟩
    · rw [List.getElem?_set_self (by rw [wipe_length]; exact l0)]
    · rw [upd_ne (ne_of_none e n)]
      exact s1 _ _ e
    · rw [upd_same, put_keysK, List.take_add_one, hz]
      show _ = some (HO.dK (keysK v (onceS (zs.take m ++ [z]))))
      rw [onceS_snoc]
  · obtain ⟨s1, d1⟩ := hP
    rw [List.take_length, onceS_id nd] at d1
    exact fin H' s1 d1
end K01

set_option autoImplicit false
set_option maxRecDepth 100000
set_option maxHeartbeats 4000000
namespace K01
open PySem PySem.Spec PyProof.Rows L2 KX
/-- what is no instance stays -/
def Keep (H H' : Hp) : Prop := ∀ b o, H b = some o → (∀ C dx fs, o ≠ .ins C dx fs) → H' b = some o
theorem Keep.refl {H : Hp} : Keep H H := fun _ _ e _ => e
theorem Keep.trans {H H1 H2 : Hp} (a : Keep H H1) (b : Keep H1 H2) : Keep H H2 := fun c o e n => b c o (a c o e n) n
theorem Keep.same {H H1 : Hp} (a : Same H H1) : Keep H H1 := fun c o e _ => a c o e
theorem Keep.put {H : Hp} {p C : Addr} {dx : Addr} {fs : List (Str × V)} {o' : HO} (h : H p = some (.ins C dx fs)) : Keep H (upd H p o') := fun b o e n => by
  by_cases z : b = p
  · rw [z, h] at e
    cases e
    exact absurd rfl (n _ _ _)
  · rw [upd_ne z]
    exact e
section
variable {H H' : Hp}
mutual
theorem Shw.keep (g : Keep H H') : ∀ {v : V} {d : PyData}, Shw H v d → Shw H' v d
  | _, _, .non => .non
  | _, _, .bl b => .bl b
  | _, _, .int i => .int i
  | _, _, .str x => .str x
  | _, _, .lst h r => .lst (g _ _ h fun _ _ _ z => nomatch z) (ShwAll.keep g r)
  | _, _, .tup h r => .tup (g _ _ h fun _ _ _ z => nomatch z) (ShwAll.keep g r)
  | _, _, .dct h => .dct (g _ _ h fun _ _ _ z => nomatch z)
theorem ShwAll.keep (g : Keep H H') : ∀ {vs : List V} {ds : List PyData}, ShwAll H vs ds → ShwAll H' vs ds
  | _, _, .nil => .nil
  | _, _, .cons a r => .cons (Shw.keep g a) (ShwAll.keep g r)
end
end
theorem Txts.keep {H H' : Hp} {v : V} {zs : List Str} (t : Txts H v zs) (g : Keep H H') : Txts H' v zs := by
  obtain ⟨a, e, h⟩ := t
  exact ⟨a, e, g _ _ h fun _ _ _ z => nomatch z⟩
theorem putF_new {f : Str} {v : V} : ∀ {fs : List (Str × V)}, (∀ kv ∈ fs, kv.1 ≠ f) → putF f v fs = fs ++ [(f, v)]
  | [], _ => rfl
  | kv :: fs, h => by
    unfold putF
    rw [if_neg (h kv List.mem_cons_self), putF_new fun y hy => h y (List.mem_cons_of_mem _ hy)]
    rfl
theorem putF_zip {ns : List Str} {vs : List V} {f : Str} {v : V} (n : (ns.all fun k => !decide (k = f)) = true) (l : ns.length = vs.length) : putF f v (ns.zip vs) = (ns ++ [f]).zip (vs ++ [v]) := by
  rw [putF_new fun kv h => ?_, List.zip_append l]
  · rfl
  · have m := (List.of_mem_zip (show (kv.1, kv.2) ∈ ns.zip vs from h)).1
    have z := List.all_eq_true.mp n _ m
    intro e
    rw [decide_eq_true e] at z
    cases z
theorem lookup_zip {f : Str} : ∀ {ns : List Str} {vs : List V} {i : Nat}, ns.findIdx? (fun k => f == k) = some i → ns.length = vs.length → (ns.zip vs).lookup f = vs[i]?
  | [], _, _, h, _ => by cases h
  | n :: ns, v :: vs, i, h, l => by
    rw [List.findIdx?_cons] at h
    rw [List.zip_cons_cons, List.lookup_cons]
    cases e : f == n with
    | true =>
      rw [e] at h
      cases h
      rfl
    | false =>
      rw [e] at h
      obtain ⟨j, hj, rfl⟩ := Option.map_eq_some_iff.mp (show Option.map (· + 1) (ns.findIdx? fun k => f == k) = some i from h)
      exact lookup_zip hj (Nat.succ.inj l)
def lenK (ps : List (Str × Str)) : List (Key × V) := ps.map fun p => ((.inr p.1 : Key), V.str p.2)
theorem lenK_keys (ps : List (Str × Str)) : (lenK ps).map (·.1) = (ps.map (·.1)).map fun z => (.inr z : Key) := by
  unfold lenK
  rw [List.map_map, List.map_map]
  rfl
theorem keysK_keys (v : V) (zs : List Str) : (keysK v zs).map (·.1) = zs.map fun z => (.inr z : Key) := by
  unfold keysK
  rw [List.map_map]
  rfl
theorem nd_inr {zs : List Str} (n : zs.Nodup) : (zs.map fun z => (.inr z : Key)).Nodup := by
  refine List.Pairwise.map _ (fun a b h e => h (Sum.inr.inj e)) n
theorem putK_lenK {ps : List (Str × Str)} {m : Nat} {p : Str × Str} (n : (ps.map (·.1)).Nodup) (h : ps[m]? = some p) : putK (lenK (ps.take m)) (.inr p.1) (.str p.2) = lenK (ps.take (m + 1)) := by
  have e : lenK (ps.take (m + 1)) = lenK (ps.take m) ++ [((.inr p.1 : Key), V.str p.2)] := by
    unfold lenK
    rw [List.take_add_one, h, List.map_append]
    rfl
  rw [e]
  refine merge_new (more := [((.inr p.1 : Key), V.str p.2)]) ?_
  rw [← e, lenK_keys]
  refine nd_inr ?_
  rw [List.map_take]
  exact n.sublist (List.take_sublist _ _)
def kindsOf (ps : List (Str × Str)) (qs rs : List Str) : List (Key × V) := ((keysK (.str "array") (ps.map (·.1)) ++ keysK (.str "length") (lensOf ps)) ++ keysK (.str "position") qs) ++ keysK (.str "value") rs
theorem kinds_keys (ps : List (Str × Str)) (qs rs : List Str) : (kindsOf ps qs rs).map (·.1) = (wordsOf ps qs rs).map fun z => (.inr z : Key) := by
  unfold kindsOf wordsOf
  simp only [List.map_append, keysK_keys, List.append_assoc]
def frN : List Str := ["_arrays", "_positions", "_amounts", "_lengths", "_length_of", "_kinds"]
/-- a frame stands at p -/
structure FrameAt (C : Addr) (H : Hp) (p : Addr) (v1 v2 v3 : V) (ps : List (Str × Str)) (qs rs : List Str) : Prop where
  ob : ∃ (dx t d e : Addr), H p = some (.ins C dx (frN.zip [v1, v2, v3, .ref t, .ref d, .ref e])) ∧ H t = some (.tup ((lensOf ps).map V.str)) ∧ H d = some (.dK (lenK ps)) ∧ H e = some (.dK (kindsOf ps qs rs))
  ar : Arr H v1 ps
  po : Txts H v2 qs
  va : Txts H v3 rs
end K01

set_option autoImplicit false
set_option maxRecDepth 100000
set_option maxHeartbeats 4000000
namespace K01
open PySem PySem.Spec PyProof.Rows L2 KX
/-- C('m'), a class without an __init__ -/
structure MkP (K : PySem.W.Frag) (mg : Str → Option Value) (x : Str) (C : Addr) : Prop where
  ov : PySem.W.excIn K C [.type "ValueError", .type "Exception", .type "BaseException", .type "object"] "ValueError.__new__" = true
  hm : mg x = some (.ref C)
  kC : PySem.W.keepIn K (.ref C) = true
  exC : PySem.W.subIn K (.ref C) (.type "BaseException") = some true
  tyC : PySem.W.typeIn K (.ref C) = some (.type "type")
section
variable {X : Cx} {x : Str} {C : Addr} {p pos : Pos}
theorem pmk_mkP {m : Str} {j : Nat} {p2 : Pos} (M : MkP X.K X.mg x C) (hg : Gl X x) (hdb : (x == ("__debug__" : Str)) = false := by decide) :
    PMk X (.Call (.Name x p) [.Constant (.str m) j p2] [] pos) (fun _ H Q => Q (.ref C) none H) :=
  pmk_own PySem.F.excBase_ValueError M.ov M.hm M.kC (raises_own M.exC M.tyC) hg hdb
end
/-- what the walk asks of class Frame -/
structure FrTxt (K : PySem.W.Frag) (mg : Str → Option Value) (C : Addr) : Prop where
  cl : Cls K C
  no : ∀ f ∈ frN, NoAttr K C f
/-- on the way: the fields so far; all but the instance as it was -/
structure Mid (H1 : Hp) (p C dx : Addr) (F : List (Str × V)) (H' : Hp) : Prop where
  own : H' p = some (.ins C dx F)
  off : ∀ b o, H1 b = some o → b ≠ p → H' b = some o
section
variable {H1 H' H2 : Hp} {p C dx : Addr} {F F' : List (Str × V)}
theorem Mid.put (m : Mid H1 p C dx F H') : Mid H1 p C dx F' (upd H' p (.ins C dx F')) := ⟨upd_same, fun b o e n => by rw [upd_ne n]; exact m.off b o e n⟩
theorem Mid.same (m : Mid H1 p C dx F H') (s : Same H' H2) : Mid H1 p C dx F H2 := ⟨s _ _ m.own, fun b o e n => s _ _ (m.off b o e n)⟩
theorem Mid.keep (m : Mid H1 p C dx F H') (h : H1 p = some (.ins C dx [])) : Keep H1 H' := fun b o e n => m.off b o e fun z => by
  rw [z, h] at e
  cases e
  exact n _ _ _ rfl
end
theorem unlock_same {H H' : Hp} {d : Addr} {o : Obj} {u : HO} (h : H d = some u) (s : Same (upd H d (.frz o u)) H') : Same H (upd H' d u) := fun b x e => by
  by_cases z : b = d
  · rw [z, upd_same]
    rw [z, h] at e
    exact e
  · rw [upd_ne z]
    exact s _ _ (by rw [upd_ne z]; exact e)
section
variable {K : PySem.W.Frag} {tl : TE} {ts : List TE} {E : Addr} {kvs : List (Key × V)} {σ : L2.St} {H H7 : Hp} {Q : List (Key × V) → Hp → Prop} {b : Addr} {zs : List Str} {v : V} {i0 : Nat} {vs : List Nat}
theorem keysK_len (v : V) (zs : List Str) : (keysK v zs).length = zs.length := by
  unfold keysK
  rw [List.length_map]
/-- **{word: v for word in (a tuple of words)}, of words that are new -/
theorem star_tup (S : Same H7 H) (nE : H7 E = none) (eE : H E = some (.dK kvs)) (eb : H7 b = some (.tup (zs.map V.str))) (nd : zs.Nodup) (few : zs.length ≤ 1000) (ndk : ((kvs ++ keysK v zs).map (·.1)).Nodup) (fewk : kvs.length ≤ 1000)
    (l0 : i0 < σ.length) (hw : wipe ((wipe σ vs).set i0 (some (.str ""))) vs = wipe σ vs) (hw2 : ∀ x : V, wipe ((wipe σ vs).set i0 (some x)) vs = wipe σ vs) (rd : ∀ R : V → Hp → Prop, R (.ref b) H → tl σ H R)
    (next : ∀ H', Same H7 H' → H' E = some (.dK (kvs ++ keysK v zs)) → tStarsL ts E (kvs ++ keysK v zs) σ H' Q) :
    tStarsL (tDc (iTup K tl) (gName i0) tYes (tVar i0) (tC v) vs :: ts) E kvs σ H Q := by
  refine rd _ ⟨b, rfl, ⟨_, SqT.of (S _ _ eb)⟩, fun D nD => ?_⟩
  have wk : Walk (Itt K b) zs.length (fun H => SqT K H b (zs.map V.str)) (YAt (zs.map V.str)) := by
    have y := walk_tup (K := K) (a := b) (xs := zs.map V.str)
    rw [List.length_map] at y
    exact y
  refine dc_words wk nD few nd (fun H' s => SqT.of (s _ _ (S _ _ eb))) (fun i H1 x H2 lt y => ?_) l0 hw hw2 fun H' s e => ⟨D, keysK v zs, rfl, ne_of_none eE nD, s _ _ eE, e, ?_, ?_⟩
  · obtain ⟨r1, r2⟩ := y
    rw [List.getElem?_map] at r2
    obtain ⟨z, r3, rfl⟩ := Option.map_eq_some_iff.mp r2
    exact ⟨r1, z, r3, rfl⟩
  · rw [keysK_len, sizeLine_eq]
    omega
  · rw [merge_new ndk]
    refine next _ (fun c o z => ?_) upd_same
    rw [upd_ne (ne_of_none z nE)]
    exact s _ _ (S _ _ z)
/-- .. of a dict's keys, under its lock -/
theorem star_keys {d : Addr} {ps : List (Str × Str)} (S : Same H7 H) (nE : H7 E = none) (eE : H E = some (.dK kvs)) (ed : H7 d = some (.dK (lenK ps))) (nd : (ps.map (·.1)).Nodup) (few : ps.length ≤ 1000) (ndk : ((kvs ++ keysK v (ps.map (·.1))).map (·.1)).Nodup) (fewk : kvs.length ≤ 1000)
    (l0 : i0 < σ.length) (hw : wipe ((wipe σ vs).set i0 (some (.str ""))) vs = wipe σ vs) (hw2 : ∀ x : V, wipe ((wipe σ vs).set i0 (some x)) vs = wipe σ vs) (rd : ∀ (o : HO) (R : V → Hp → Prop), R (.ref d) (upd H d o) → tl σ (upd H d o) R)
    (next : ∀ H', Same H7 H' → H' E = some (.dK (kvs ++ keysK v (ps.map (·.1)))) → tStarsL ts E (kvs ++ keysK v (ps.map (·.1))) σ H' Q) :
    tStarsL (tLockE (tDc (iKeys tl) (gName i0) tYes (tVar i0) (tC v) vs) :: ts) E kvs σ H Q := by
  have hd := S _ _ ed
  have dE : d ≠ E := ne_of_none ed nE
  refine ⟨d, .dK (lenK ps), hd, trivial, fun od => rd _ _ ⟨d, od, rfl, .inl ⟨lenK ps, upd_same, fun D nD => ?_⟩⟩⟩
  have wk : Walk (Itk d od (lenK ps)) (ps.map (·.1)).length (fun H => H d = some (.frz od (.dK (lenK ps)))) (fun i H x H' => H' = H ∧ ∃ k v, (lenK ps)[i]? = some (k, v) ∧ x = kV k) := by
    have y := walk_keys (d := d) (o := od) (kvs := lenK ps)
    have el : (lenK ps).length = (ps.map (·.1)).length := by
      unfold lenK
      rw [List.length_map, List.length_map]
    rw [el] at y
    exact y
  have Ed : (upd H d (.frz od (.dK (lenK ps)))) E = some (.dK kvs) := by rw [upd_ne dE.symm]; exact eE
  have nDd : D ≠ d := fun z => by rw [z, upd_same] at nD; cases nD
  refine dc_words wk nD (by rw [List.length_map]; exact few) nd (fun H' s => s _ _ upd_same) (fun i H1 x H2 lt y => ?_) l0 hw hw2 fun H' s e => ⟨s _ _ upd_same, D, keysK v (ps.map (·.1)), rfl, ne_of_none Ed nD, ?_, ?_, ?_, ?_⟩
  · obtain ⟨r1, k, u, r2, rfl⟩ := y
    unfold lenK at r2
    rw [List.getElem?_map] at r2
    obtain ⟨z, r3, r4⟩ := Option.map_eq_some_iff.mp r2
    cases r4
    refine ⟨r1, z.1, ?_, rfl⟩
    rw [List.getElem?_map, r3]
    rfl
  · rw [upd_ne dE.symm]
    exact s _ _ Ed
  · rw [upd_ne nDd]
    exact e
  · rw [keysK_len, List.length_map, sizeLine_eq]
    omega
  · rw [merge_new ndk]
    have u := unlock_same hd s
    refine next _ (fun c o z => ?_) upd_same
    rw [upd_ne (ne_of_none z nE)]
    exact u _ _ (S _ _ z)
end
theorem isFrame_is {d1 d2 d3 : PyData} (h : isFrame d1 d2 d3 = true) : areArr d1 = true ∧ areNm 6 d2 = true ∧ areNm 6 d3 = true ∧ (wordsD d1 d2 d3).Nodup := by
  unfold isFrame at h
  rw [Bool.and_eq_true, Bool.and_eq_true, Bool.and_eq_true] at h
  exact ⟨h.1, h.2.1, h.2.2.1, (nodupW_is h.2.2.2).1⟩
abbrev sInit : Stmt := inClass (topS 19) 0
abbrev nInit : List Str := ["self", "arrays", "positions", "values", "array", "length", "word"]
theorem scInit : FnScope nInit ["self", "arrays", "positions", "values"] (defScope sInit) :=
  ⟨rfl, rfl, rfl, by decide +kernel, rfl, by decide +kernel, by decide +kernel⟩
def spInit (C CI : Addr) : Sp := fun vs H Q E => ∃ (p dx : Addr) (v1 v2 v3 : V) (d1 d2 d3 : PyData), vs = [.ref p, v1, v2, v3] ∧ H p = some (.ins C dx []) ∧ Shw H v1 d1 ∧ Shw H v2 d2 ∧ Shw H v3 d3 ∧ gd d1 = true ∧ gd d2 = true ∧ gd d3 = true ∧
  (isFrame d1 d2 d3 = false → ∀ H', Same H H' → E (.ref CI) none H') ∧
  (isFrame d1 d2 d3 = true → ∀ H', (∀ b o, H b = some o → b ≠ p → H' b = some o) → FrameAt C H' p v1 v2 v3 (prsD d1) (strsD d2) (strsD d3) → Q .non H')
section
variable {P : Program} {w : World} {K : PySem.W.Frag} {mg : Str → Option Value} {base : Heap}
theorem ok_init {f C CI : Addr} {fd : FuncData} (F : Fun K "__init__" "Frame.__init__" sInit f fd) (T : FrTxt K mg C) (M : MkP K mg "InvalidFrame" CI) (FO : Fnc P w K mg base CX0 4 "is_frame_of" ["arrays", "positions", "values"] spFrameOf)
    (L : Fnc P w K mg base CX0 1 "lengths_in" ["arrays"] spLens) : FnOk P w K mg base (L2.CX P w) 5 f fd ["self", "arrays", "positions", "values"] (spInit C CI) := by
  refine F.okX scInit (fun vs H Q E h => ?_) (fun cdv A outer s H vs Q E hr h => ?_)
  · obtain ⟨p, dx, v1, v2, v3, d1, d2, d3, rfl, _⟩ := h
    rfl
  · obtain ⟨p, dx, v1, v2, v3, d1, d2, d3, rfl, hp, s1, s2, s3, g1, g2, g3, bad, good⟩ := h
    refine ⟨_, pss_cons (ps_if (pt_not (pt_val (pe_fnc FO hr (by omega) (by rfl) pass0 (pa_cons (pv 1) (pa_cons (pv 2) (pa_cons (pv 3) pa_nil)))))) (pss_one (ps_raise rfl (takes_of rfl rfl rfl rfl) (pmk_mkP M (by rfl)))) pss_nil)
      (pss_cons (ps_fld (pv 0) (pv 1) rfl)
      (pss_cons (ps_fld (pv 0) (pv 2) rfl)
      (pss_cons (ps_fld (pv 0) (pv 3) rfl)
      (pss_cons (ps_fld (pv 0) (pe_fnc L hr (by omega) (by rfl) pass0 (pa_cons (pv 1) pa_nil)) rfl)
      (pss_cons (ps_fld (pv 0) (pe_dc (own := [("array", 4), ("length", 5)]) (g := gTup K 2 (gCons (gName 4) (gCons (gName 5) gNil))) (tt := tYes) rfl scInit.nd (pi_tup (pv 1)) (blkOk_by (N := nInit) (sc := defScope sInit) (by decide +kernel))
          (fun _ _ _ _ _ => pg_tup rfl (pgs_cons (pg_name (i := 4) scInit.nd rfl (Or.inl rfl) (Or.inr rfl)) (pgs_cons (pg_name (i := 5) scInit.nd rfl (Or.inl rfl) (Or.inr rfl)) pgs_nil))) (fun _ _ _ _ _ => pts_nil)
          (fun _ _ _ _ _ => pv 4) (fun _ _ _ _ _ => pv 5)) rfl)
      (pss_one (ps_fld (pv 0) (pe_stars (PStars.cons (pe_lock (pe_dc (own := [("word", 6)]) (g := gName 6) (tt := tYes) rfl scInit.nd (pi_keys (pe_fld (pv 0) rfl)) (blkOk_by (N := nInit) (sc := defScope sInit) (by decide +kernel))
            (fun _ _ _ _ _ => pg_name (i := 6) scInit.nd rfl (Or.inl rfl)) (fun _ _ _ _ _ => pts_nil) (fun _ _ _ _ _ => pv 6) (fun _ _ _ _ _ => pe_str)))
          (PStars.cons (pe_dc (own := [("word", 6)]) (g := gName 6) (tt := tYes) rfl scInit.nd (pi_tup (pe_fld (pv 0) rfl)) (blkOk_by (N := nInit) (sc := defScope sInit) (by decide +kernel))
            (fun _ _ _ _ _ => pg_name (i := 6) scInit.nd rfl (Or.inl rfl)) (fun _ _ _ _ _ => pts_nil) (fun _ _ _ _ _ => pv 6) (fun _ _ _ _ _ => pe_str))
          (PStars.cons (pe_dc (own := [("word", 6)]) (g := gName 6) (tt := tYes) rfl scInit.nd (pi_tup (pv 2)) (blkOk_by (N := nInit) (sc := defScope sInit) (by decide +kernel))
            (fun _ _ _ _ _ => pg_name (i := 6) scInit.nd rfl (Or.inl rfl)) (fun _ _ _ _ _ => pts_nil) (fun _ _ _ _ _ => pv 6) (fun _ _ _ _ _ => pe_str))
          (PStars.cons (pe_dc (own := [("word", 6)]) (g := gName 6) (tt := tYes) rfl scInit.nd (pi_tup (pv 3)) (blkOk_by (N := nInit) (sc := defScope sInit) (by decide +kernel))
            (fun _ _ _ _ _ => pg_name (i := 6) scInit.nd rfl (Or.inl rfl)) (fun _ _ _ _ _ => pts_nil) (fun _ _ _ _ _ => pv 6) (fun _ _ _ _ _ => pe_str)) PStars.nil)))) rfl (by nofun)) rfl))))))), ?_⟩
    refine ⟨v1, rfl, v2, rfl, v3, rfl, v1, v2, v3, d1, d2, d3, rfl, s1, s2, s3, g1, g2, g3, fun H1 w1 => ⟨_, rfl, ?_⟩⟩
    cases e : isFrame d1 d2 d3 with
    | false => exact bad e H1 w1
    | true =>
      obtain ⟨x1, x2, x3, nd⟩ := isFrame_is e
      obtain ⟨a1, l1⟩ := arrays_are x1
      obtain ⟨a2, l2⟩ := names_are x2
      obtain ⟨a3, l3⟩ := names_are x3
      have y1 : Arr H1 v1 (prsD d1) := by
        have y := Shw.same s1 w1
        rw [a1] at y
        exact y
      have y2 : Txts H1 v2 (strsD d2) := txts_of (by rw [← a2]; exact Shw.same s2 w1)
      have y3 : Txts H1 v3 (strsD d3) := txts_of (by rw [← a3]; exact Shw.same s3 w1)
      have hp1 := w1 _ _ hp
      replace good := fun (H' : Hp) (g : ∀ b o, H1 b = some o → b ≠ p → H' b = some o) => good e H' fun b o z n => g b o (w1 b o z) n
      clear bad e a1 a2 a3 x1 x2 x3 g1 g2 g3 s1 s2 s3
      have nd' : (wordsOf (prsD d1) (strsD d2) (strsD d3)).Nodup := nd
      clear nd
      generalize prsD d1 = ps at *
      generalize strsD d2 = qs at *
      generalize strsD d3 = rs at *
      have ln := lensOf_le ps
      have nd := nd'
      unfold wordsOf at nd
      have nA := (List.nodup_append.mp nd).1
      have nR := (List.nodup_append.mp nd).2.1
      have nL := (List.nodup_append.mp nR).1
      have nQR := (List.nodup_append.mp nR).2.1
      have nQ := (List.nodup_append.mp nQR).1
      have nV := (List.nodup_append.mp nQR).2.1
      have m0 : Mid H1 p C dx [] H1 := ⟨hp1, fun _ _ e _ => e⟩
      have f1 : putF "_arrays" v1 [] = (["_arrays"] : List Str).zip [v1] := putF_zip (ns := []) (vs := []) (by decide +kernel) rfl
      refine ⟨v1, rfl, .ref p, rfl, p, C, dx, _, rfl, m0.own, T.cl, T.no _ (by decide +kernel), (by show 0 < 1000; decide), ?_⟩
      rw [f1]
      have m1 := m0.put (F' := (["_arrays"] : List Str).zip [v1])
      have f2 : putF "_positions" v2 ((["_arrays"] : List Str).zip [v1]) = (["_arrays", "_positions"] : List Str).zip [v1, v2] := putF_zip (by decide +kernel) rfl
      refine ⟨v2, rfl, .ref p, rfl, p, C, dx, _, rfl, m1.own, T.cl, T.no _ (by decide +kernel), (by show 1 < 1000; decide), ?_⟩
      rw [f2]
      have m2 := m1.put (F' := (["_arrays", "_positions"] : List Str).zip [v1, v2])
      have f3 : putF "_amounts" v3 ((["_arrays", "_positions"] : List Str).zip [v1, v2]) = (["_arrays", "_positions", "_amounts"] : List Str).zip [v1, v2, v3] := putF_zip (by decide +kernel) rfl
      refine ⟨v3, rfl, .ref p, rfl, p, C, dx, _, rfl, m2.own, T.cl, T.no _ (by decide +kernel), (by show 2 < 1000; decide), ?_⟩
      rw [f3]
      have m3 := m2.put (F' := (["_arrays", "_positions", "_amounts"] : List Str).zip [v1, v2, v3])
      generalize upd (upd (upd H1 p _) p _) p _ = H3 at m3 ⊢
      refine ⟨v1, rfl, v1, ps, rfl, Shw.keep (m3.keep hp1) y1, by omega, fun t H4 w4 e4 => ?_⟩
      have m4 := m3.same w4
      have f4 : putF "_lengths" (.ref t) ((["_arrays", "_positions", "_amounts"] : List Str).zip [v1, v2, v3]) = (["_arrays", "_positions", "_amounts", "_lengths"] : List Str).zip [v1, v2, v3, .ref t] := putF_zip (by decide +kernel) rfl
      refine ⟨.ref p, rfl, p, C, dx, _, rfl, m4.own, T.cl, T.no _ (by decide +kernel), (by show 3 < 1000; decide), ?_⟩
      rw [f4]
      have m5 := m4.put (F' := (["_arrays", "_positions", "_amounts", "_lengths"] : List Str).zip [v1, v2, v3, .ref t])
      have np : t ≠ p := fun z => by rw [z, m4.own] at e4; cases e4
      have e5 : (upd H4 p (.ins C dx ((["_arrays", "_positions", "_amounts", "_lengths"] : List Str).zip [v1, v2, v3, .ref t]))) t = some (.tup ((lensOf ps).map V.str)) := by rw [upd_ne np]; exact e4
      generalize upd H4 p _ = H5 at m5 e5 ⊢
      have y15 := Shw.keep (m5.keep hp1) y1
      obtain ⟨a, xs, rfl, ea, lx, at_⟩ := arr_get y15
      refine ⟨.ref a, rfl, a, rfl, ⟨_, SqT.of ea⟩, fun D nD => ?_⟩
      refine dc_tup (K := K) (a := a) (xs := xs) (fun m H' => Same H5 H' ∧ H' D = some (.dK (lenK (ps.take m)))) ⟨same_upd nD, upd_same⟩ (fun m H' _ hP => SqT.of (hP.1 _ _ ea)) (fun m x H' hm hP => ?_) (fun H6 hP => ?_)
      · obtain ⟨u1, u2⟩ := hP
        obtain ⟨q, b, hq, rfl, eb⟩ := at_ m x hm
        have short : (lenK (ps.take m)).length < sizeLine := by
          unfold lenK
          rw [List.length_map, List.length_take, sizeLine_eq]
          omega
        refine ⟨b, _, rfl, SqT.of (u1 _ _ eb), rfl, _, _, rfl, _, _, rfl, rfl, rfl, _, rfl, _, rfl, _, .inr q.1, rfl, u2, short, fun c o z => ?_, ?_⟩
        · rw [upd_ne (ne_of_none z nD)]
          exact u1 _ _ z
        · rw [upd_same, putK_lenK nA hq]
      · obtain ⟨w6, e6⟩ := hP
        rw [lx, List.take_length] at e6
        have m6 := m5.same w6
        have f5 : putF "_length_of" (.ref D) ((["_arrays", "_positions", "_amounts", "_lengths"] : List Str).zip [.ref a, v2, v3, .ref t]) = (["_arrays", "_positions", "_amounts", "_lengths", "_length_of"] : List Str).zip [.ref a, v2, v3, .ref t, .ref D] := putF_zip (by decide +kernel) rfl
        refine ⟨.ref p, rfl, p, C, dx, _, rfl, m6.own, T.cl, T.no _ (by decide +kernel), (by show 4 < 1000; decide), ?_⟩
        rw [f5]
        have m7 := m6.put (F' := (["_arrays", "_positions", "_amounts", "_lengths", "_length_of"] : List Str).zip [.ref a, v2, v3, .ref t, .ref D])
        have nD' : D ≠ p := fun z => by rw [z, m6.own] at e6; cases e6
        have d7 : (upd H6 p (.ins C dx ((["_arrays", "_positions", "_amounts", "_lengths", "_length_of"] : List Str).zip [.ref a, v2, v3, .ref t, .ref D]))) D = some (.dK (lenK ps)) := by rw [upd_ne nD']; exact e6
        have t7 : (upd H6 p (.ins C dx ((["_arrays", "_positions", "_amounts", "_lengths", "_length_of"] : List Str).zip [.ref a, v2, v3, .ref t, .ref D]))) t = some (.tup ((lensOf ps).map V.str)) := by rw [upd_ne np]; exact w6 _ _ e5
        generalize upd H6 p _ = H7 at m7 d7 t7 ⊢
        intro E nE
        obtain ⟨b2, rfl, eb2⟩ := y2.keep (m7.keep hp1)
        obtain ⟨b3, rfl, eb3⟩ := y3.keep (m7.keep hp1)
        have kn := nd_inr nd'
        rw [← kinds_keys] at kn
        have kn3 : (((keysK (.str "array") (ps.map (·.1)) ++ keysK (.str "length") (lensOf ps)) ++ keysK (.str "position") qs).map (·.1)).Nodup := by
          unfold kindsOf at kn
          rw [List.map_append] at kn
          exact (List.nodup_append.mp kn).1
        have kn2 : ((keysK (.str "array") (ps.map (·.1)) ++ keysK (.str "length") (lensOf ps)).map (·.1)).Nodup := by
          rw [List.map_append] at kn3
          exact (List.nodup_append.mp kn3).1
        have kn1 : ((([] : List (Key × V)) ++ keysK (.str "array") (ps.map (·.1))).map (·.1)).Nodup := by
          rw [List.map_append] at kn2
          exact (List.nodup_append.mp kn2).1
        have nDp : D ≠ p := nD'
        refine star_keys (same_upd nE) nE upd_same d7 nA (by omega) kn1 (Nat.zero_le _) (show 6 < 7 by decide) rfl (fun _ => rfl) (fun o R r => ⟨.ref p, rfl, p, C, dx, _, .ref D, rfl, ?_, T.cl, T.no _ (by decide +kernel), lookup_zip (ns := ["_arrays", "_positions", "_amounts", "_lengths", "_length_of"]) (vs := [.ref a, .ref b2, .ref b3, .ref t, .ref D]) (i := 4) (by decide +kernel) rfl, r⟩) fun H8 w8 e8 => ?_
        · rw [upd_ne nDp.symm, upd_ne (ne_of_none m7.own nE)]
          exact m7.own
        refine star_tup w8 nE e8 t7 nL (by omega) kn2 (by rw [List.nil_append, keysK_len, List.length_map]; omega) (show 6 < 7 by decide) rfl (fun _ => rfl) (fun R r => ⟨.ref p, rfl, p, C, dx, _, .ref t, rfl, w8 _ _ m7.own, T.cl, T.no _ (by decide +kernel), lookup_zip (ns := ["_arrays", "_positions", "_amounts", "_lengths", "_length_of"]) (vs := [.ref a, .ref b2, .ref b3, .ref t, .ref D]) (i := 3) (by decide +kernel) rfl, r⟩) fun H9 w9 e9 => ?_
        refine star_tup w9 nE e9 eb2 nQ (by omega) kn3 (by rw [List.nil_append, List.length_append, keysK_len, keysK_len, List.length_map]; omega) (show 6 < 7 by decide) rfl (fun _ => rfl) (fun R r => ⟨.ref b2, rfl, r⟩) fun H10 w10 e10 => ?_
        refine star_tup w10 nE e10 eb3 nV (by omega) kn (by rw [List.nil_append, List.length_append, List.length_append, keysK_len, keysK_len, keysK_len, List.length_map]; omega) (show 6 < 7 by decide) rfl (fun _ => rfl) (fun R r => ⟨.ref b3, rfl, r⟩) fun H11 w11 e11 => ?_
        have m11 := m7.same w11
        have f6 : putF "_kinds" (.ref E) ((["_arrays", "_positions", "_amounts", "_lengths", "_length_of"] : List Str).zip [.ref a, .ref b2, .ref b3, .ref t, .ref D]) = frN.zip [.ref a, .ref b2, .ref b3, .ref t, .ref D, .ref E] := putF_zip (by decide +kernel) rfl
        refine ⟨.ref p, rfl, p, C, dx, _, rfl, m11.own, T.cl, T.no _ (by decide +kernel), (by show 5 < 1000; decide), ?_⟩
        rw [f6]
        have m12 := m11.put (F' := frN.zip [.ref a, .ref b2, .ref b3, .ref t, .ref D, .ref E])
        have nEp : E ≠ p := (ne_of_none m7.own nE).symm
        refine good _ (fun b o z n => m12.off b o z n) ⟨⟨dx, t, D, E, upd_same, ?_, ?_, ?_⟩, ?_, ?_, ?_⟩
        · rw [upd_ne np]; exact w11 _ _ t7
        · rw [upd_ne nDp]; exact w11 _ _ d7
        · rw [upd_ne nEp]; exact e11
        · exact Shw.keep (m12.keep hp1) y1
        · exact y2.keep (m12.keep hp1)
        · exact y3.keep (m12.keep hp1)
end
end K01

set_option autoImplicit false
set_option maxRecDepth 100000
set_option maxHeartbeats 4000000
namespace KX
open PySem PySem.Spec PyProof.Rows L2
section
variable {prog : Program} {w : World} {A : Around} {E : Value → Shared → Prop} {s : Shared} {K : PySem.W.Frag} {x C f : Addr} {ox : Obj} {od : Option Obj}
/-- y in x, by the class's own __contains__ that answers a truth value -/
theorem contains_own {y : Value} {Q : Bool → Shared → Prop} (X : K.In s.heap) (I : PySem.W.InstAt s.heap x ox C od) (hs : PySem.W.findIn K (.ref C) "__contains__" = some (some (.ref f))) (hf : PySem.W.isFn K (.ref f) = true)
    (h : wpAny (model prog w) A (call (.ref f) [.ref x, y]) (fun r s' => ∃ b, r = .bool b ∧ Q b s') E s) : wpAny (model prog w) A (contains (.ref x) y) Q E s := by
  unfold contains
  refine wpAny_holding ?_
  rw [show stdlibNamesSay? (.ref x) y = none from rfl]
  refine wpAny_bind (wpAny_bind (I.type.here ((PySem.W.looks_findIn X hs).here ?_)))
  show wpAny _ A (if (some (Value.ref f) == some Value.none) = true then _ else _) Q E s
  rw [if_neg (by simp)]
  refine wpAny_bind (m := callSpecialUnlessNone? (.ref x) "__contains__" [y] _) ?_
  unfold callSpecialUnlessNone?
  refine wpAny_bind (wpAny_bind (I.type.here ((PySem.W.looks_findIn X hs).here ?_)))
  refine wpAny_holding (wpAny_bind ((PySem.W.bind_fn X _ (beq_iff_eq.mp hf)).here ?_))
  dsimp only
  rw [if_neg (by simp)]
  refine wpAny_bind (wpAny_mono h (fun r s' hr => ?_) fun _ _ e => e)
  obtain ⟨b, rfl, q⟩ := hr
  exact wpAny_pure (wpAny_truthy_bool q)
/-- len(x), by the class's own __len__ that answers an int -/
theorem len_own {Q : Value → Shared → Prop} (X : K.In s.heap) (I : PySem.W.InstAt s.heap x ox C od) (hs : PySem.W.findIn K (.ref C) "__len__" = some (some (.ref f))) (hf : PySem.W.isFn K (.ref f) = true)
    (h : wpAny (model prog w) A.in1 (call (.ref f) [.ref x]) (fun r s' => ∃ (n : Int) (u : Tok), r = .int n u ∧ 0 ≤ n ∧ n < 2 ^ 63 ∧ ∀ tk, Q (.int n tk) { s' with toks := s'.toks + 1 }) E s) : wpAny (model prog w) A (call (.builtin "len") [.ref x]) Q E s := by
  refine Calls.call_function_entry kind_len plain_len entry_len (args_len1 _) ?_
  unfold Builtin.«len»
  refine wpAny_bind (m := oneArg "len" _) (wpAny_pure ?_)
  refine wpAny_bind (m := callSpecial? (.ref x) (Str.ofString "__len__")) (PySem.W.special_fn X I hs (beq_iff_eq.mp hf) (wpAny_mono h (fun r s' hr => ?_) fun _ _ y => y))
  obtain ⟨n, u, rfl, h0, h1, q⟩ := hr
  refine wpAny_bind (wpAny_holding (wpAny_pure ?_))
  refine wpAny_bind (wpAny_letGo ?_)
  show wpAny _ _ (if n < 0 then _ else _) _ _ _
  rw [if_neg (by omega)]
  show wpAny _ _ (if n ≥ 2 ^ 63 then _ else _) _ _ _
  rw [if_neg (by omega)]
  exact wpAny_bind (wpAny_mkInt (wpAny_pure ⟨_, rfl, q _⟩))
end
end KX

set_option autoImplicit false
set_option maxRecDepth 100000
set_option maxHeartbeats 4000000
namespace KX
open PySem PySem.Spec PyProof.Rows L2
section
variable {prog : Program} {w : World} {A : Around} {E : Value → Shared → Prop} {s : Shared} {K : PySem.W.Frag} {x C f L : Addr} {ox : Obj} {od : Option Obj} {y tb : Value} {h₀ : Heap} {m : Str → Option Value}
theorem objNe_entry (X : K.In s.heap) (I : PySem.W.InstAt s.heap x ox C od) (hs : PySem.W.findIn K (.ref C) "__eq__" = some (some (.ref f))) (hf : PySem.W.isFn K (.ref f) = true) (hu : A.units < cLine) {Q : Fin → Shared → Prop}
    (h : wpAny (model prog w) A (call (.ref f) [.ref x, y]) (fun v s' => ∃ b, v = .bool b ∧ Q (.done (.ret (.bool (!b)))) s') E s) : wpAny (model prog w) A (Builtin.«object.__ne__» ⟨[.ref x, y], []⟩) Q E s := by
  unfold Builtin.«object.__ne__»
  repeat (first
    | with_reducible refine wpAny_cRoomFor hu ?_
    | (refine wpAny_bind (m := callSpecialIfBound? (.ref x) (Str.ofString "__eq__") [y])
        (PySem.W.ifBound_K X I hs hf (wpAny_mono h (fun r s' hr => by
          obtain ⟨b, rfl, hq⟩ := hr
          repeat (first | exact hq | exact wpAny_pure hq | exact wpAny_truthy_bool hq | (refine wpAny_bind (m := truthy (.bool _)) (wpAny_truthy_bool ?_)) | wp_step)) fun _ _ e => e)))
    | wp_step)
theorem ifBound_objNe {args : List Value} {Q : Option Value → Shared → Prop} (X : K.In s.heap) (I : PySem.W.InstAt s.heap x ox C od) (hs : PySem.W.findIn K (.ref C) "__ne__" = some (some (.builtin "object.__ne__")))
    (h : wpAny (model prog w) A (call (.builtin "object.__ne__") (.ref x :: args)) (fun v => Q (some v)) E s) : wpAny (model prog w) A (callSpecialIfBound? (.ref x) "__ne__" args) Q E s := by
  simp only [callSpecialIfBound?, bindSpecialIfBound?]
  refine wpAny_holding (wpAny_bind (wpAny_bind (wpAny_bind (I.type.here ((PySem.W.looks_findIn X hs).here ?_)))))
  refine wpAny_bind (wpAny_askSetting (wpAny_ite ?_))
  have fin : wpAny (model prog w) A (call (.builtin "object.__ne__") ([.ref x] ++ args) >>= fun v => pure (some v)) Q E s := wpAny_bind (wpAny_mono h (fun v s' h' => wpAny_pure h') fun _ _ h' => h')
  split
  · exact wpAny_bind (wpAny_of_eq (F.cmp_object.ne.bind _) (wpAny_pure (by exact fin)))
  · exact wpAny_tryCatch (wpAny_bind (wpAny_of_eq (F.cmp_object.ne.bind _) (wpAny_pure (by exact fin))))
/-- x != y, by the class's own __eq__ and object's __ne__ -/
theorem ne_own {Q : Value → Shared → Prop} (hu : A.units + 1 < cLine) (X : K.In s.heap) (I : PySem.W.InstAt s.heap x ox C od) (hb : PySem.W.Looks (model prog w) s.heap (typeOf y) tb) (hn : PySem.W.notFirst K C tb = true)
    (hm : PySem.W.mroIn K C (.type "object") = some true) (hs : PySem.W.findIn K (.ref C) "__eq__" = some (some (.ref f))) (hne : PySem.W.findIn K (.ref C) "__ne__" = some (some (.builtin "object.__ne__"))) (hf : PySem.W.isFn K (.ref f) = true)
    (h : wpAny (model prog w) A.in1 (call (.ref f) [.ref x, y]) (fun v s' => ∃ b, v = .bool b ∧ Q (.bool (!b)) s') E s) : wpAny (model prog w) A (richCompare .NotEq (.ref x) y) Q E s := by
  have one : wpAny (model prog w) A (tryCompare (.ref x) "__ne__" y) (fun r s' => ∃ v, r = some v ∧ Q v s') E s := by
    unfold tryCompare
    refine wpAny_bind (ifBound_objNe X I hne (wpAny_call (codeAny_call_builtin F.cmp_object.ne.plain F.cmpEntry_ne (PySem.W.check_slot F.cmpKind_ne F.cmpSplit_ne (I.type.andThen (PySem.W.looks_mroIn X hm)) (F.cmpArgs_ne _ _)
      (objNe_entry (A := A.in1) X I hs hf hu (wpAny_mono h (fun v s' hv => ?_) fun _ _ e => e))))))
    obtain ⟨b, rfl, hq⟩ := hv
    first | exact ⟨b, rfl, wpAny_pure ⟨_, rfl, hq⟩⟩ | exact ⟨b, rfl, wpAny_pure (wpAny_pure ⟨_, rfl, hq⟩)⟩ | exact ⟨b, rfl, ⟨_, rfl, hq⟩⟩
  unfold richCompare
  simp only [oneThing_ref]
  refine wpAny_holding (wpAny_bind (wpAny_cRoomFor (Nat.lt_of_succ_lt hu) ?_))
  rw [cmpInfo_NotEq]
  dsimp only
  refine wpAny_bind (I.type.here (wpAny_bind (hb.here ?_)))
  split
  · rename_i q
    have e : PySem.W.subIn K tb (.ref C) = some false := by
      rcases Bool.or_eq_true_iff.mp hn with e | e
      · rw [beq_iff_eq.mp e] at q; simp at q
      · exact beq_iff_eq.mp e
    refine wpAny_bind ((PySem.W.looks_subIn X e).here ?_)
    simp only [Bool.false_eq_true, if_false]
    refine wpAny_bind (wpAny_mono one (fun r s' z => ?_) fun _ _ e => e)
    obtain ⟨v, rfl, hq⟩ := z
    exact wpAny_pure hq
  · refine wpAny_bind (wpAny_pure ?_)
    simp only [Bool.false_eq_true, if_false]
    refine wpAny_bind (wpAny_mono one (fun r s' z => ?_) fun _ _ e => e)
    obtain ⟨v, rfl, hq⟩ := z
    exact wpAny_pure hq
end
end KX

set_option autoImplicit false
set_option maxRecDepth 100000
set_option maxHeartbeats 4000000
namespace KX
open PySem PySem.Spec PyProof.Rows L2
/-- what stands right of == and != -/
inductive OfTy (H : Hp) : V → Value → Prop
  | ins {b C dy : Addr} {gs : List (Str × V)} (e : H b = some (.ins C dy gs)) : OfTy H (.ref b) (.ref C)
  | lst {b : Addr} {xs : List V} (e : H b = some (.lst xs)) : OfTy H (.ref b) (.type "list")
/-- the class at C has its own def of this name at g -/
structure OwnDef (K : PySem.W.Frag) (C : Addr) (name : Str) (g : Addr) : Prop where
  at_ : PySem.W.findIn K (.ref C) name = some (some (.ref g))
  fn : PySem.W.isFn K (.ref g) = true
/-- the own def answers; what it answers is a truth value -/
def spB (sp : Sp) (E : XK) (neg : Bool) : List V → Hp → VK → Prop := fun vs H Q => sp vs H (fun z H' => ∃ b, z = .bl b ∧ Q (.bl (neg ^^ b)) H') E
def rInOwn (C : Addr) (sp : Sp) (E : XK) (neg : Bool) : R2 := fun x y H Q => ∃ a dx fs, y = .ref a ∧ H a = some (.ins C dx fs) ∧ spB sp E neg [y, x] H Q
def rEqOwn (K : PySem.W.Frag) (C : Addr) (sp : Sp) (E : XK) (neg : Bool) : R2 := fun x y H Q => ∃ a dx fs tb, x = .ref a ∧ H a = some (.ins C dx fs) ∧ OfTy H y tb ∧ PySem.W.notFirst K C tb = true ∧ spB sp E neg [x, y] H Q
def rLenOwn (C : Addr) (sp : Sp) (E : XK) : List V → Hp → VK → Prop := fun xs H Q => ∃ a dx fs, xs = [V.ref a] ∧ H a = some (.ins C dx fs) ∧ sp [.ref a] H (fun z H' => ∃ n : Nat, z = .int n ∧ n < 2 ^ 62 ∧ Q z H') E
section
variable {X : Cx} {CX : CXT} {C g : Addr} {n : Nat} {sp : Sp} {E : XK}
theorem OfTy.looks {pins : List (Addr × Obj)} {σ : L2.St} {H : Hp} {s : Shared} {y : V} {u tb : Value} (t : OfTy H y tb) (I : Inv X pins σ H s) (r : RelV y u) : PySem.W.Looks (model X.prog X.w) s.heap (typeOf u) tb := by
  cases t with
  | @ins b C dy gs e =>
    cases (show u = Value.ref b from r)
    obtain ⟨mA, J, _⟩ := ins_get I.hok e
    obtain ⟨od, J, _⟩ := J.look
    exact J.type
  | @lst b xs e =>
    cases (show u = Value.ref b from r)
    obtain ⟨_, _, n, _, h1⟩ := (show ObjOk X.prog X.w H s.heap b (.lst xs) from I.hok b _ e)
    exact (PySem.W.Looks.ld h1).andThen .now
theorem in_run {neg : Bool} (D : OwnDef X.K C "__contains__" g) (F : FnR X.prog X.w X.K X.mg X.base CX n g sp) (hr : Room n X.A) (hx : Passes CX X E) {pins : List (Addr × Obj)} {σ : L2.St} {H : Hp} {s : Shared} {x y : V} {v u : Value} {Q : VK}
    (I : Inv X pins σ H s) (rx : RelV x v) (ry : RelV y u) (h : rInOwn C sp E neg x y H Q) : wpAny (model X.prog X.w) X.A (contains u v) (fun b s' => EP X pins σ Q (.bool (neg ^^ b)) s') X.xe s := by
  obtain ⟨a, dx, fs, rfl, ha, q⟩ := h
  cases (show u = Value.ref a from ry)
  obtain ⟨mA, J, _⟩ := ins_get I.hok ha
  obtain ⟨od, J, _⟩ := J.look
  refine contains_own I.kIn J D.at_ D.fn (wpAny_call ?_)
  refine codeAny_mono (run_fnR (us := [.ref a, v]) (vs := [.ref a, x]) F hr hx I (.cons rfl (.cons rx .nil)) q) fun r s' z => ?_
  cases r with
  | error e => exact z
  | ok fl =>
    cases fl with
    | ret w =>
      obtain ⟨z', H', I', rz, b, ez, qz⟩ := z
      subst ez
      cases (show w = Value.bool b from rz)
      exact ⟨b, rfl, .bl (neg ^^ b), H', I', rfl, qz⟩
    | next => exact z
    | brk => exact z
    | cont => exact z
theorem op_inOwn (D : OwnDef X.K C "__contains__" g) (F : FnR X.prog X.w X.K X.mg X.base CX n g sp) (hr : Room n X.A) (hx : Passes CX X E) : OpR X (compareOp .In) (rInOwn C sp E false) := by
  intro pins s σ H x y v u Q I rx ry h
  show wpAny _ _ (do return Value.bool (← contains u v)) _ _ s
  exact wpAny_bind (wpAny_mono (in_run D F hr hx I rx ry h) (fun b s' z => wpAny_pure (by rw [Bool.false_xor] at z; exact z)) fun _ _ e => e)
theorem op_niOwn (D : OwnDef X.K C "__contains__" g) (F : FnR X.prog X.w X.K X.mg X.base CX n g sp) (hr : Room n X.A) (hx : Passes CX X E) : OpR X (compareOp .NotIn) (rInOwn C sp E true) := by
  intro pins s σ H x y v u Q I rx ry h
  show wpAny _ _ (do return Value.bool (!(← contains u v))) _ _ s
  exact wpAny_bind (wpAny_mono (in_run D F hr hx I rx ry h) (fun b s' z => wpAny_pure (by rw [Bool.true_xor] at z; exact z)) fun _ _ e => e)
theorem op_eqOwn (D : OwnDef X.K C "__eq__" g) (F : FnR X.prog X.w X.K X.mg X.base CX n g sp) (hr : Room n X.A) (hx : Passes CX X E) : OpR X (compareOp .Eq) (rEqOwn X.K C sp E false) := by
  intro pins s σ H x y v u Q I rx ry h
  obtain ⟨a, dx, fs, tb, rfl, ha, ty, hn, q⟩ := h
  cases (show v = Value.ref a from rx)
  obtain ⟨mA, J, _⟩ := ins_get I.hok ha
  obtain ⟨od, J, _⟩ := J.look
  obtain ⟨m, hF⟩ := I.fr
  show wpAny _ _ (richCompare .Eq (.ref a) u) _ _ s
  refine PySem.W.cmp_K (op := .Eq) (tb := tb) hr.units0 hF I.ok.mod.kin J (ty.looks I ry) hn D.at_ D.fn ?_
  refine wpAny_mono (wpAny_call (run_fnR (us := [.ref a, u]) (vs := [.ref a, y]) F hr hx I (.cons rfl (.cons ry .nil)) q)) (fun w s' z => ?_) fun _ _ x => x
  obtain ⟨z', H', I', rz, b, ez, qz⟩ := z
  subst ez
  cases (show w = Value.bool b from rz)
  exact ⟨.bl b, H', I', rfl, by rw [Bool.false_xor] at qz; exact qz⟩
theorem op_neOwn (D : OwnDef X.K C "__eq__" g) (hm : PySem.W.mroIn X.K C (.type "object") = some true) (hne : PySem.W.findIn X.K (.ref C) "__ne__" = some (some (.builtin "object.__ne__"))) (F : FnR X.prog X.w X.K X.mg X.base CX n g sp) (hr : Room (n + 1) X.A) (hx : Passes CX X E) :
    OpR X (compareOp .NotEq) (rEqOwn X.K C sp E true) := by
  intro pins s σ H x y v u Q I rx ry h
  obtain ⟨a, dx, fs, tb, rfl, ha, ty, hn, q⟩ := h
  cases (show v = Value.ref a from rx)
  obtain ⟨mA, J, _⟩ := ins_get I.hok ha
  obtain ⟨od, J, _⟩ := J.look
  show wpAny _ _ (richCompare .NotEq (.ref a) u) _ _ s
  refine ne_own (by have := hr.un; omega) I.kIn J (ty.looks I ry) hn hm D.at_ hne D.fn ?_
  refine wpAny_mono (wpAny_call (SlX.run_at (us := [.ref a, u]) (ws := [.ref a, y]) F hr.in1 I.env0.in1 hx I (.cons rfl (.cons ry .nil)) q)) (fun w s' z => ?_) fun _ _ x => x
  obtain ⟨z', H', I', rz, b, ez, qz⟩ := z
  subst ez
  cases (show w = Value.bool b from rz)
  exact ⟨b, rfl, .bl (!b), H', I', rfl, by rw [Bool.true_xor] at qz; exact qz⟩
theorem call_lenOwn (D : OwnDef X.K C "__len__" g) (F : FnR X.prog X.w X.K X.mg X.base CX n g sp) (hr : Room (n + 1) X.A) (hx : Passes CX X E) : CallR X (.builtin "len") (rLenOwn C sp E) := by
  intro pins s σ H xs us Q I r h
  obtain ⟨a, dx, fs, rfl, ha, q⟩ := h
  obtain ⟨u, rfl, ru⟩ := r.one
  cases (show u = Value.ref a from ru)
  obtain ⟨mA, J, _⟩ := ins_get I.hok ha
  obtain ⟨od, J, _⟩ := J.look
  refine len_own I.kIn J D.at_ D.fn (wpAny_mono (wpAny_call (SlX.run_at (us := [.ref a]) (ws := [.ref a]) F hr.in1 I.env0.in1 hx I (.cons rfl .nil) q)) (fun w s' z => ?_) fun _ _ x => x)
  obtain ⟨z', H', I', rz, k, ez, hk, qz⟩ := z
  subst ez
  obtain ⟨t, e⟩ := (show ∃ t, w = Value.int k t from rz)
  cases e
  exact ⟨k, t, rfl, by omega, by omega, fun tk => ⟨.int k, H', I'.tok _, ⟨tk, rfl⟩, qz⟩⟩
end
end KX

set_option autoImplicit false
set_option maxRecDepth 100000
set_option maxHeartbeats 4000000
namespace KX
open PySem PySem.Spec PyProof.Rows L2
section
variable {prog : Program} {w : World} {A : Around} {E : Value → Shared → Prop} {s : Shared} {K : PySem.W.Frag} {x C f : Addr} {ox : Obj} {od : Option Obj}
/-- str(x), by the class's own __str__ that answers a text -/
theorem str_own {Q : Value → Shared → Prop} (hu : A.units + 2 < cLine) (X : K.In s.heap) (I : PySem.W.InstAt s.heap x ox C od) (hs : PySem.W.findIn K (.ref C) "__str__" = some (some (.ref f))) (hf : PySem.W.isFn K (.ref f) = true)
    (h : wpAny (model prog w) A.in1.in1 (call (.ref f) [.ref x]) (fun r s₁ => ∃ z u, r = Value.str z u ∧ Q r s₁) E s) : wpAny (model prog w) A (call (.type "str") [.ref x]) Q E s := by
  refine callType_codes (T := "str") (Bi := Builtin.«object.__init__») (Q₁ := fun r s₁ => ∃ z u, r = Value.str z u ∧ Q r s₁) PySem.F.called_str (PySem.F.typeCall_str_1 _) PySem.F.entry_object_init ?_ ?_
  · refine codeAny_of_tree ?_
    show wpAny _ A.in1.in1 (do checkBuiltinCall "str.__new__" ⟨[.type "str", .ref x], []⟩; again (.builtin "str.__new__" ⟨[.type "str", .ref x], []⟩)) _ _ s
    refine wpAny_bind (wpAny_of_eq (PySem.F.newCall_str_1 _) (wpAny_pure ⟨plainId_quiet (by decide +kernel) _, codeAny_builtin PySem.F.entry_str_new ?_⟩))
    rw [Around.under_plainId (by decide +kernel) _, str_new_tree]
    refine wpAny_bind (wpAny_pure ?_)
    refine wpAny_bind (wpAny_of_eq isSubtype_str_str ?_)
    refine wpAny_bind ?_
    unfold Builtin.Str.strOf
    rw [show Builtin.Str.isExactStr (.ref x) = false from rfl]
    simp only [Bool.false_eq_true, if_false, pure_bind]
    refine wpAny_bind (wpAny_cRoomFor hu ?_)
    refine wpAny_bind (m := callSpecial? (.ref x) (Str.ofString "__str__")) (PySem.W.special_fn X I hs (beq_iff_eq.mp hf) (wpAny_mono h (fun r s' hr => ?_) fun _ _ y => y))
    obtain ⟨z, u, rfl, q⟩ := hr
    first | exact wpAny_pure (wpAny_pure ⟨z, u, rfl, q⟩) | exact wpAny_pure (wpAny_pure ⟨_, rfl, z, u, rfl, q⟩)
  · rintro obj s₁ ⟨n, u, rfl, hq⟩
    exact ⟨typeIs_str _ _ _, PySem.F.args_object_init_2 _ _, object_init_meets PySem.F.called_str.init.lookup PySem.F.called_str.made (by decide) prog w A.in1 _ s₁ ⟨typeIs_str _ _ _, rfl, hq⟩⟩
end
def rStrOwn (C : Addr) (sp : Sp) (E : XK) : List V → Hp → VK → Prop := fun xs H Q => ∃ a dx fs, xs = [V.ref a] ∧ H a = some (.ins C dx fs) ∧ sp [.ref a] H (fun z H' => ∃ t : Str, z = .str t ∧ Q z H') E
section
variable {X : Cx} {CX : CXT} {C g : Addr} {n : Nat} {sp : Sp} {E : XK}
theorem call_strOwn (D : OwnDef X.K C "__str__" g) (F : FnR X.prog X.w X.K X.mg X.base CX n g sp) (hr : Room (n + 2) X.A) (hx : Passes CX X E) : CallR X (.type "str") (rStrOwn C sp E) := by
  intro pins s σ H xs us Q I r h
  obtain ⟨a, dx, fs, rfl, ha, q⟩ := h
  obtain ⟨u, rfl, ru⟩ := r.one
  cases (show u = Value.ref a from ru)
  obtain ⟨mA, J, _⟩ := ins_get I.hok ha
  obtain ⟨od, J, _⟩ := J.look
  have hr2 : Room n X.A.in1.in1 := (show Room (n + 1) X.A.in1 from Room.in1 hr).in1
  refine str_own (by have := hr.un; omega) I.kIn J D.at_ D.fn (wpAny_mono (wpAny_call (SlX.run_at (us := [.ref a]) (ws := [.ref a]) F hr2 I.env0.in1.in1 hx I (.cons rfl .nil) q)) (fun w s' z => ?_) fun _ _ x => x)
  obtain ⟨z', H', I', rz, t, ez, qz⟩ := z
  subst ez
  obtain ⟨tk, e⟩ := (show ∃ tk, w = Value.str t tk from rz)
  cases e
  exact ⟨t, tk, rfl, .str t, H', I', ⟨tk, rfl⟩, qz⟩
end
end KX

set_option autoImplicit false
set_option maxRecDepth 100000
set_option maxHeartbeats 4000000
namespace K01
open PySem PySem.Spec PyProof.Rows L2 KX
/-- a statement that is never come to -/
theorem ps_never {X : Cx} {st : Stmt} : PS X st (fun _ _ _ => False) := ⟨fun _ _ _ _ _ _ h => h.elim⟩
def isStrD : PyData → Bool
  | .str _ => true
  | _ => false
theorem kit_strD (d : PyData) : kitB (tyD d) "str" = some (isStrD d) := by
  have a : (["NoneType", "bool", "int", "tuple", "list", "dict"].all fun t => kitB t "str" == some false) = true := by decide +kernel
  have b := fun t h => beq_iff_eq.mp (List.all_eq_true.mp a t h)
  cases d with
  | tuple ds => exact b "tuple" (by simp)
  | none => exact b "NoneType" (by simp)
  | bool _ => exact b "bool" (by simp)
  | int _ => exact b "int" (by simp)
  | str _ => show kitB "str" "str" = some true; decide +kernel
  | list _ => exact b "list" (by simp)
  | dict _ => exact b "dict" (by simp)
def hasW (ws : List Str) : PyData → Bool
  | .str z => decide (z ∈ ws)
  | _ => false
theorem kinds_some (ps : List (Str × Str)) (qs rs : List Str) (z : Str) : (valV (kindsOf ps qs rs) (.inr z)).isSome = decide (z ∈ wordsOf ps qs rs) := by
  have e : ((.inr z : Key) ∈ (kindsOf ps qs rs).map (·.1)) ↔ z ∈ wordsOf ps qs rs := by
    rw [kinds_keys]
    refine ⟨fun h => ?_, fun h => List.mem_map.mpr ⟨z, h, rfl⟩⟩
    obtain ⟨y, h1, h2⟩ := List.mem_map.mp h
    exact Sum.inr.inj h2 ▸ h1
  cases q : valV (kindsOf ps qs rs) (.inr z) with
  | none => exact (decide_eq_false fun m => valV_not q (e.mpr m)).symm
  | some v => exact (decide_eq_true (e.mp (valV_in q))).symm
theorem FnOk.r {P : Program} {w : World} {K : PySem.W.Frag} {mg : Str → Option Value} {base : Heap} {CX : CXT} {k : Nat} {f : Addr} {fd : FuncData} {ps : List Str} {sp : Sp} (F : FnOk P w K mg base CX k f fd ps sp) (hb : Binds K fd ps []) : FnR P w K mg base CX k f sp :=
  (F.raw hb .nil).imp fun vs H Q E h => by rw [List.append_nil]; exact h
/-- a method of the class, with its promise -/
structure OM (P : Program) (w : World) (K : PySem.W.Frag) (mg : Str → Option Value) (base : Heap) (CX : CXT) (k : Nat) (C : Addr) (m : Str) (ps : List Str) (sp : Sp) : Prop where
  ex : ∃ (g : Addr) (fd : FuncData), OwnDef K C m g ∧ PySem.W.keepIn K (.ref g) = true ∧ FnOk P w K mg base CX k g fd ps sp ∧ Binds K fd ps []
section
variable {X : Cx} {CX : CXT} {C : Addr} {k j : Nat} {sp : Sp} {ps : List Str} {E : XK}
theorem OM.isIn (O : OM X.prog X.w X.K X.mg X.base CX k C "__contains__" ps sp) (hr : Room j X.A) (hk : k ≤ j) (hx : Passes CX X E) : OpR X (compareOp .In) (rInOwn C sp E false) := by
  obtain ⟨g, fd, D, _, F, hb⟩ := O.ex
  exact op_inOwn D (FnOk.r F hb) (hr.mono hk) hx
theorem OM.notIn (O : OM X.prog X.w X.K X.mg X.base CX k C "__contains__" ps sp) (hr : Room j X.A) (hk : k ≤ j) (hx : Passes CX X E) : OpR X (compareOp .NotIn) (rInOwn C sp E true) := by
  obtain ⟨g, fd, D, _, F, hb⟩ := O.ex
  exact op_niOwn D (FnOk.r F hb) (hr.mono hk) hx
theorem OM.len (O : OM X.prog X.w X.K X.mg X.base CX k C "__len__" ps sp) (hr : Room j X.A) (hk : k + 1 ≤ j) (hx : Passes CX X E) : CallR X (.builtin "len") (rLenOwn C sp E) := by
  obtain ⟨g, fd, D, _, F, hb⟩ := O.ex
  exact call_lenOwn D (FnOk.r F hb) (hr.mono hk) hx
theorem OM.str (O : OM X.prog X.w X.K X.mg X.base CX k C "__str__" ps sp) (hr : Room j X.A) (hk : k + 2 ≤ j) (hx : Passes CX X E) : CallR X (.type "str") (rStrOwn C sp E) := by
  obtain ⟨g, fd, D, _, F, hb⟩ := O.ex
  exact call_strOwn D (FnOk.r F hb) (hr.mono hk) hx
end
section
variable {P : Program} {w : World} {K : PySem.W.Frag} {mg : Str → Option Value} {base : Heap}
abbrev sIn : Stmt := inClass (topS 19) 15
abbrev sLen : Stmt := inClass (topS 19) 16
theorem scIn : FnScope ["self", "value"] ["self", "value"] (defScope sIn) := ⟨rfl, rfl, rfl, by decide +kernel, rfl, by decide +kernel, by decide +kernel⟩
theorem scLen : FnScope ["self"] ["self"] (defScope sLen) := ⟨rfl, rfl, rfl, by decide +kernel, rfl, by decide +kernel, by decide +kernel⟩
def spIn (C : Addr) : Sp := fun vs H Q _ => ∃ (p : Addr) (v1 v2 v3 : V) (ps : List (Str × Str)) (qs rs : List Str) (v : V) (d : PyData), vs = [.ref p, v] ∧ FrameAt C H p v1 v2 v3 ps qs rs ∧ Shw H v d ∧ Q (.bl (hasW (wordsOf ps qs rs) d)) H
def spLen (C : Addr) : Sp := fun vs H Q _ => ∃ (p : Addr) (v1 v2 v3 : V) (ps : List (Str × Str)) (qs rs : List Str), vs = [.ref p] ∧ FrameAt C H p v1 v2 v3 ps qs rs ∧ Q (.int (wordsOf ps qs rs).length) H
theorem ok_in {f C : Addr} {fd : FuncData} (F : Fun K "__contains__" "Frame.__contains__" sIn f fd) (T : FrTxt K mg C) (B : Free mg) : FnOk P w K mg base CX0 1 f fd ["self", "value"] (spIn C) := by
  refine F.ok scIn (fun vs H Q E h => ?_) (fun cdv A outer s H vs Q E hr h => ?_)
  · obtain ⟨p, v1, v2, v3, ps, qs, rs, v, d, rfl, _⟩ := h
    rfl
  · obtain ⟨p, v1, v2, v3, ps, qs, rs, v, d, rfl, Fr, sh, q⟩ := h
    have hu := hu_of hr
    refine ⟨_, pss_one (ps_ret (pe_and (pe_callB call_isi (by rfl) B.isinstance (by decide +kernel) (pa_cons (pv 1) (pa_cons (pe_bltn (v := .ty "str") (by rfl) B.str (by decide +kernel) rfl) pa_nil)))
      (pe_one (pe_cmp (pc_din hu (pv 1) (pe_fld (pv 0) rfl)))))), ?_⟩
    refine ⟨v, rfl, v, .ty "str", _, _, isStrD d, rfl, .ty _, shw_ty sh, kit_ty (kit_strD d), isStrD d, rfl, ?_⟩
    obtain ⟨dx, t, d2, e, ob, _, _, hk⟩ := Fr.ob
    cases sh with
    | str z =>
      refine ⟨_, rfl, _, rfl, p, C, dx, _, .ref e, rfl, ob, T.cl, T.no _ (by decide +kernel), lookup_zip (i := 5) (by decide +kernel) rfl, e, _, rfl, DGet.k (k := Sum.inr z) hk, ?_⟩
      rw [kinds_some]
      exact q
    | non => exact q
    | bl b => exact q
    | int i => exact q
    | lst _ _ => exact q
    | tup _ _ => exact q
    | dct _ => exact q
theorem kinds_len (ps : List (Str × Str)) (qs rs : List Str) : (kindsOf ps qs rs).length = (wordsOf ps qs rs).length := by
  have e := congrArg List.length (kinds_keys ps qs rs)
  rw [List.length_map, List.length_map] at e
  exact e
theorem ok_len {f C : Addr} {fd : FuncData} (F : Fun K "__len__" "Frame.__len__" sLen f fd) (T : FrTxt K mg C) (B : Free mg) : FnOk P w K mg base CX0 1 f fd ["self"] (spLen C) := by
  refine F.ok scLen (fun vs H Q E h => ?_) (fun cdv A outer s H vs Q E hr h => ?_)
  · obtain ⟨p, v1, v2, v3, ps, qs, rs, rfl, _⟩ := h
    rfl
  · obtain ⟨p, v1, v2, v3, ps, qs, rs, rfl, Fr, q⟩ := h
    refine ⟨_, pss_one (ps_ret (pe_callB call_lenD (by rfl) B.len PySem.boot_len (pa_cons (pe_fld (pv 0) rfl) pa_nil))), ?_⟩
    obtain ⟨dx, t, d2, e, ob, _, _, hk⟩ := Fr.ob
    refine ⟨_, rfl, p, C, dx, _, .ref e, rfl, ob, T.cl, T.no _ (by decide +kernel), lookup_zip (i := 5) (by decide +kernel) rfl, e, _, rfl, hk, ?_⟩
    rw [kinds_len]
    exact q
abbrev sKind : Stmt := inClass (topS 19) 7
abbrev sFresh : Stmt := inClass (topS 19) 8
theorem scKind : FnScope ["self", "word"] ["self", "word"] (defScope sKind) := ⟨rfl, rfl, rfl, by decide +kernel, rfl, by decide +kernel, by decide +kernel⟩
theorem scFresh : FnScope ["self", "value"] ["self", "value"] (defScope sFresh) := ⟨rfl, rfl, rfl, by decide +kernel, rfl, by decide +kernel, by decide +kernel⟩
/-- asked of a name of the frame -/
def spKind (C : Addr) : Sp := fun vs H Q _ => ∃ (p : Addr) (v1 v2 v3 : V) (ps : List (Str × Str)) (qs rs : List Str) (z : Str) (v : V), vs = [.ref p, .str z] ∧ FrameAt C H p v1 v2 v3 ps qs rs ∧ valV (kindsOf ps qs rs) (.inr z) = some v ∧ Q v H
def spFresh (C : Addr) : Sp := fun vs H Q _ => ∃ (p : Addr) (v1 v2 v3 : V) (ps : List (Str × Str)) (qs rs : List Str) (v : V) (d : PyData), vs = [.ref p, v] ∧ FrameAt C H p v1 v2 v3 ps qs rs ∧ Shw H v d ∧ gd d = true ∧ ∀ H', Same H H' → Q (.bl (isNm d && !hasW (wordsOf ps qs rs) d)) H'
theorem FrameAt.same {C p : Addr} {H H' : Hp} {v1 v2 v3 : V} {ps : List (Str × Str)} {qs rs : List Str} (f : FrameAt C H p v1 v2 v3 ps qs rs) (s : Same H H') : FrameAt C H' p v1 v2 v3 ps qs rs := by
  obtain ⟨⟨dx, t, d, e, h1, h2, h3, h4⟩, h5, h6, h7⟩ := f
  exact ⟨⟨dx, t, d, e, s _ _ h1, s _ _ h2, s _ _ h3, s _ _ h4⟩, Shw.same h5 s, h6.same s, h7.same s⟩
theorem ok_kind {f C : Addr} {fd : FuncData} (F : Fun K "kind_of" "Frame.kind_of" sKind f fd) (T : FrTxt K mg C) (O : OM P w K mg base CX0 1 C "__contains__" ["self", "value"] (spIn C)) : FnOk P w K mg base CX0 2 f fd ["self", "word"] (spKind C) := by
  refine F.ok scKind (fun vs H Q E h => ?_) (fun cdv A outer s H vs Q E hr h => ?_)
  · obtain ⟨p, v1, v2, v3, ps, qs, rs, z, v, rfl, _⟩ := h
    rfl
  · obtain ⟨p, v1, v2, v3, ps, qs, rs, z, v, rfl, Fr, hv, q⟩ := h
    have hu := hu_of hr
    refine ⟨_, pss_cons (ps_if (pt_cmpR (O.notIn hr (by omega) pass0) (pv 1) (pv 0) (by with_unfolding_all rfl)) (pss_one ps_never) pss_nil)
      (pss_one (ps_ret (pe_dget hu (pe_fld (pv 0) rfl) (pv 1) (fun _ _ => rfl)))), ?_⟩
    obtain ⟨dx, t, d2, e, ob, _, _, hk⟩ := Fr.ob
    have hw : hasW (wordsOf ps qs rs) (.str z) = true := by
      have := kinds_some ps qs rs z
      rw [hv] at this
      exact this.symm
    refine ⟨_, rfl, _, rfl, p, dx, _, rfl, ob, p, v1, v2, v3, ps, qs, rs, .str z, .str z, rfl, Fr, .str z, ⟨_, rfl, ⟨_, rfl, ?_⟩⟩⟩
    rw [hw]
    show if (true ^^ true) = true then _ else _
    refine iteF ?_
    refine ⟨_, rfl, p, C, dx, _, .ref e, rfl, ob, T.cl, T.no _ (by decide +kernel), lookup_zip (i := 5) (by decide +kernel) rfl, _, rfl, e, v, rfl, ?_, q⟩
    have g := DGet.k (k := Sum.inr z) hk
    rw [hv] at g
    exact g
theorem ok_fresh {f C : Addr} {fd : FuncData} (F : Fun K "is_fresh" "Frame.is_fresh" sFresh f fd) (N : Fnc P w K mg base CX0 1 "is_name" ["value"] (spName K)) (O : OM P w K mg base CX0 1 C "__contains__" ["self", "value"] (spIn C)) : FnOk P w K mg base CX0 2 f fd ["self", "value"] (spFresh C) := by
  refine F.ok scFresh (fun vs H Q E h => ?_) (fun cdv A outer s H vs Q E hr h => ?_)
  · obtain ⟨p, v1, v2, v3, ps, qs, rs, v, d, rfl, _⟩ := h
    rfl
  · obtain ⟨p, v1, v2, v3, ps, qs, rs, v, d, rfl, Fr, sh, g, q⟩ := h
    refine ⟨_, pss_one (ps_ret (pe_and (pe_fnc N hr (by omega) (by rfl) pass0 (pa_cons (pv 1) pa_nil)) (pe_one (pe_cmpR (O.notIn hr (by omega) pass0) (pv 1) (pv 0) (by with_unfolding_all rfl))))), ?_⟩
    refine ⟨v, rfl, v, isNm d, rfl, shw_name sh g, fun H1 w1 => ⟨isNm d, rfl, ?_⟩⟩
    cases e : isNm d with
    | false =>
      have z := q H1 w1
      rw [e] at z
      exact z
    | true =>
      have Fr1 := Fr.same w1
      obtain ⟨dx, t, d2, e2, ob, _⟩ := Fr1.ob
      have z := q H1 w1
      rw [e] at z
      exact ⟨_, rfl, _, rfl, p, dx, _, rfl, ob, p, v1, v2, v3, ps, qs, rs, v, d, rfl, Fr1, Shw.same sh w1, ⟨_, rfl, by rw [Bool.true_xor]; exact z⟩⟩
end
end K01

set_option autoImplicit false
set_option maxRecDepth 100000
set_option maxHeartbeats 4000000
namespace K01
open PySem PySem.Spec PyProof.Rows L2 KX
theorem lookup_zip_none {f : Str} : ∀ {ns : List Str} {vs : List V}, ns.all (fun k => !(f == k)) = true → (ns.zip vs).lookup f = none
  | [], _, _ => rfl
  | n :: ns, [], _ => rfl
  | n :: ns, v :: vs, h => by
    rw [List.all_cons, Bool.and_eq_true] at h
    rw [List.zip_cons_cons, List.lookup_cons]
    have e : (f == n) = false := by
      cases q : f == n with
      | false => rfl
      | true => rw [q] at h; cases h.1
    rw [e]
    exact lookup_zip_none h.2
section
variable {X : Cx} {CX : CXT} {k j : Nat} {C : Addr} {m : Str} {sp : Sp} {ps : List Str} {E : XK} {o e : Expr} {es : List Expr} {ta : TE} {t : TA} {apos pos : Pos}
/-- o.m(..), a method of the class -/
theorem pe_om {pl : Sem Bool} (O : OM X.prog X.w X.K X.mg X.base CX k C m ps sp) (c : Cls X.K C) (hr : Room j X.A) (hk : k ≤ j) (hx : Passes CX X E) (he : PE X o ta) (ha : PA X (e :: es) t)
    (hst : starEach (e :: es) X.env = (false, eval e X.env) :: starEach es X.env := by rfl) (hpl : (backTo pos (starEach es X.env)).any (·.1) = false := by rfl)
    (ht : eval (.Call (.Attribute o m apos) (e :: es) [] pos) X.env = (do
      let ov ← eval o X.env
      standAt apos.atName
      let (f, first) ← holding [ov] (getMethod ov m pl)
      callWith pos f first (backTo pos (starEach (e :: es) X.env)) (backToKw pos (keywordEach [] X.env))) := by rfl) : PE X (.Call (.Attribute o m apos) (e :: es) [] pos) (tMeth C m sp [] E ta t) := by
  obtain ⟨g, fd, D, hkp, F, hb⟩ := O.ex
  exact pe_meth he c ⟨D.at_, D.fn, hkp⟩ F (hr.mono hk) hb .nil hx ha hst hpl ht
end
section
variable {P : Program} {w : World} {K : PySem.W.Frag} {mg : Str → Option Value} {base : Heap}
abbrev sHas : Stmt := inClass (topS 19) 5
abbrev sLenOf : Stmt := inClass (topS 19) 6
theorem scHas : FnScope ["self", "value", "kinds"] ["self", "value", "kinds"] (defScope sHas) := ⟨rfl, rfl, rfl, by decide +kernel, rfl, by decide +kernel, by decide +kernel⟩
theorem scLenOf : FnScope ["self", "array"] ["self", "array"] (defScope sLenOf) := ⟨rfl, rfl, rfl, by decide +kernel, rfl, by decide +kernel, by decide +kernel⟩
/-- asked of a name of the frame, with its own kind -/
def spHas (C : Addr) : Sp := fun vs H Q _ => ∃ (p : Addr) (v1 v2 v3 : V) (ps : List (Str × Str)) (qs rs : List Str) (z kd : Str) (k : Addr), vs = [.ref p, .str z, .ref k] ∧ FrameAt C H p v1 v2 v3 ps qs rs ∧ valV (kindsOf ps qs rs) (.inr z) = some (.str kd) ∧ H k = some (.tup [.str kd]) ∧ Q (.bl true) H
def spLenOf (C : Addr) : Sp := fun vs H Q _ => ∃ (p : Addr) (v1 v2 v3 : V) (ps : List (Str × Str)) (qs rs : List Str) (z : Str) (v : V), vs = [.ref p, .str z] ∧ FrameAt C H p v1 v2 v3 ps qs rs ∧ valV (kindsOf ps qs rs) (.inr z) = some (.str "array") ∧ valV (lenK ps) (.inr z) = some v ∧ ∀ H', Same H H' → Q v H'
theorem ok_has {f C : Addr} {fd : FuncData} (F : Fun K "has_kind" "Frame.has_kind" sHas f fd) (T : FrTxt K mg C) (B : Free mg) : FnOk P w K mg base CX0 1 f fd ["self", "value", "kinds"] (spHas C) := by
  refine F.ok scHas (fun vs H Q E h => ?_) (fun cdv A outer s H vs Q E hr h => ?_)
  · obtain ⟨p, v1, v2, v3, ps, qs, rs, z, kd, k, rfl, _⟩ := h
    rfl
  · obtain ⟨p, v1, v2, v3, ps, qs, rs, z, kd, k, rfl, Fr, hv, hk, q⟩ := h
    have hu := hu_of hr
    refine ⟨_, pss_one (ps_ret (pe_and (pe_callB call_isi (by rfl) B.isinstance (by decide +kernel) (pa_cons (pv 1) (pa_cons (pe_bltn (v := .ty "str") (by rfl) B.str (by decide +kernel) rfl) pa_nil)))
      (pe_one (pe_cmpR op_in_seq (pe_dget1 hu (pe_fld (pv 0) rfl) (pv 1) ⟨rfl, rfl, rfl, rfl⟩) (pv 2) (by with_unfolding_all rfl))))), ?_⟩
    refine ⟨.str z, rfl, .str z, .ty "str", _, _, isStrD (.str z), rfl, .ty _, shw_ty (.str z), kit_ty (kit_strD (.str z)), true, rfl, ?_⟩
    obtain ⟨dx, t, d2, e, ob, _, _, hd⟩ := Fr.ob
    have g := DGet.k (k := Sum.inr z) hd
    rw [hv] at g
    refine ⟨_, rfl, p, C, dx, _, .ref e, rfl, ob, T.cl, T.no _ (by decide +kernel), lookup_zip (i := 5) (by decide +kernel) rfl, e, rfl, ?_, _, rfl, _, g, _, rfl, k, _, rfl, .inr (SqT.of hk), rfl, rfl, ?_⟩
    · exact .inl ⟨_, .inl hd⟩
    · have e : inV (.str kd) [.str kd] = true := by simp [inV, eqV]
      show Q (.bl (inV (.str kd) [.str kd])) H
      rw [e]
      exact q
theorem ok_lenOf {f C : Addr} {fd : FuncData} (F : Fun K "length_of" "Frame.length_of" sLenOf f fd) (T : FrTxt K mg C) (O : OM P w K mg base CX0 1 C "has_kind" ["self", "value", "kinds"] (spHas C)) : FnOk P w K mg base CX0 2 f fd ["self", "array"] (spLenOf C) := by
  refine F.ok scLenOf (fun vs H Q E h => ?_) (fun cdv A outer s H vs Q E hr h => ?_)
  · obtain ⟨p, v1, v2, v3, ps, qs, rs, z, v, rfl, _⟩ := h
    rfl
  · obtain ⟨p, v1, v2, v3, ps, qs, rs, z, v, rfl, Fr, hv, hl, q⟩ := h
    have hu := hu_of hr
    refine ⟨_, pss_cons (ps_if (pt_not (pt_val (pe_om (pl := _) O T.cl hr (by omega) pass0 (pv 0) (pa_cons (pv 1) (pa_cons (pe_tup (pa_cons pe_str pa_nil)) pa_nil))))) (pss_one ps_never) pss_nil)
      (pss_one (ps_ret (pe_dget hu (pe_fld (pv 0) rfl) (pv 1) (fun _ _ => rfl)))), ?_⟩
    obtain ⟨dx, t, d2, e, ob, _, hd, _⟩ := id Fr.ob
    refine ⟨.ref p, rfl, p, dx, _, rfl, ob, lookup_zip_none (by decide +kernel), _, rfl, (by rw [sizeLine_eq]; decide), fun tp ntp => ?_⟩
    have sm := same_upd (p := tp) (o := .tup [.str "array"]) ntp
    refine ⟨p, v1, v2, v3, ps, qs, rs, z, "array", tp, rfl, Fr.same sm, hv, upd_same, _, rfl, ?_⟩
    show if (!true) = true then _ else _
    refine iteF ?_
    have g := DGet.k (k := Sum.inr z) (sm _ _ hd)
    rw [hl] at g
    exact ⟨_, rfl, p, C, dx, _, .ref d2, rfl, sm _ _ ob, T.cl, T.no _ (by decide +kernel), lookup_zip (i := 4) (by decide +kernel) rfl, _, rfl, d2, v, rfl, g, q _ sm⟩
end
end K01

set_option autoImplicit false
set_option maxRecDepth 100000
set_option maxHeartbeats 4000000
namespace K01
open PySem PySem.Spec PyProof.Rows L2 KX
section
variable {P : Program} {w : World} {K : PySem.W.Frag} {mg : Str → Option Value} {base : Heap}
theorem ok_get0 {f C : Addr} {fd : FuncData} (F : Fun K "arrays" "Frame.arrays" (inClass (topS 19) 1) f fd) (T : FrTxt K mg C) : FnOk P w K mg base CX0 1 f fd ["self"] (getSp C "_arrays") := by
  refine F.ok (N := ["self"]) ⟨rfl, rfl, rfl, by decide +kernel, rfl, by decide +kernel, by decide +kernel⟩ (fun vs H Q E h => ?_) (fun cdv A outer s H vs Q E hr h => ?_)
  · obtain ⟨p, dx, fs, v, rfl, _⟩ := h
    rfl
  · obtain ⟨p, dx, fs, v, rfl, ob, l, q⟩ := h
    exact ⟨_, pss_one (ps_ret (pe_fld (pv 0) rfl)), .ref p, rfl, p, C, dx, fs, v, rfl, ob, T.cl, T.no _ (by decide +kernel), l, q⟩
theorem ok_get1 {f C : Addr} {fd : FuncData} (F : Fun K "positions" "Frame.positions" (inClass (topS 19) 2) f fd) (T : FrTxt K mg C) : FnOk P w K mg base CX0 1 f fd ["self"] (getSp C "_positions") := by
  refine F.ok (N := ["self"]) ⟨rfl, rfl, rfl, by decide +kernel, rfl, by decide +kernel, by decide +kernel⟩ (fun vs H Q E h => ?_) (fun cdv A outer s H vs Q E hr h => ?_)
  · obtain ⟨p, dx, fs, v, rfl, _⟩ := h
    rfl
  · obtain ⟨p, dx, fs, v, rfl, ob, l, q⟩ := h
    exact ⟨_, pss_one (ps_ret (pe_fld (pv 0) rfl)), .ref p, rfl, p, C, dx, fs, v, rfl, ob, T.cl, T.no _ (by decide +kernel), l, q⟩
theorem ok_get2 {f C : Addr} {fd : FuncData} (F : Fun K "amounts" "Frame.amounts" (inClass (topS 19) 3) f fd) (T : FrTxt K mg C) : FnOk P w K mg base CX0 1 f fd ["self"] (getSp C "_amounts") := by
  refine F.ok (N := ["self"]) ⟨rfl, rfl, rfl, by decide +kernel, rfl, by decide +kernel, by decide +kernel⟩ (fun vs H Q E h => ?_) (fun cdv A outer s H vs Q E hr h => ?_)
  · obtain ⟨p, dx, fs, v, rfl, _⟩ := h
    rfl
  · obtain ⟨p, dx, fs, v, rfl, ob, l, q⟩ := h
    exact ⟨_, pss_one (ps_ret (pe_fld (pv 0) rfl)), .ref p, rfl, p, C, dx, fs, v, rfl, ob, T.cl, T.no _ (by decide +kernel), l, q⟩
theorem ok_get3 {f C : Addr} {fd : FuncData} (F : Fun K "lengths" "Frame.lengths" (inClass (topS 19) 4) f fd) (T : FrTxt K mg C) : FnOk P w K mg base CX0 1 f fd ["self"] (getSp C "_lengths") := by
  refine F.ok (N := ["self"]) ⟨rfl, rfl, rfl, by decide +kernel, rfl, by decide +kernel, by decide +kernel⟩ (fun vs H Q E h => ?_) (fun cdv A outer s H vs Q E hr h => ?_)
  · obtain ⟨p, dx, fs, v, rfl, _⟩ := h
    rfl
  · obtain ⟨p, dx, fs, v, rfl, ob, l, q⟩ := h
    exact ⟨_, pss_one (ps_ret (pe_fld (pv 0) rfl)), .ref p, rfl, p, C, dx, fs, v, rfl, ob, T.cl, T.no _ (by decide +kernel), l, q⟩
end
end K01

set_option autoImplicit false
set_option maxRecDepth 100000
set_option maxHeartbeats 4000000
namespace K01
open PySem PySem.Spec PyProof.Rows L2 KX
abbrev sWT : Stmt := topS 17
abbrev sAT : Stmt := topS 18
theorem scWT : FnScope ["words"] ["words"] (defScope sWT) := ⟨rfl, rfl, rfl, by decide +kernel, rfl, by decide +kernel, by decide +kernel⟩
theorem scAT : FnScope ["arrays", "array", "length"] ["arrays"] (defScope sAT) := ⟨rfl, rfl, rfl, by decide +kernel, rfl, by decide +kernel, by decide +kernel⟩
def wt : List Str → Str
  | [] => "-"
  | zs => Txt.join " " zs
def pairT (p : Str × Str) : Str := p.1 ++ ":" ++ p.2
def short (n : Nat) (zs : List Str) : Prop := ∀ z ∈ zs, z.length ≤ n
theorem short_sum {n : Nat} : ∀ {zs : List Str}, short n zs → (zs.map (·.length)).sum ≤ zs.length * n
  | [], _ => Nat.zero_le _
  | z :: zs, h => by
    have a := h z List.mem_cons_self
    have b := short_sum fun y hy => h y (List.mem_cons_of_mem _ hy)
    rw [List.map_cons, List.sum_cons, List.length_cons, Nat.succ_mul]
    omega
def spWT (K : PySem.W.Frag) : Sp := fun vs H Q _ => ∃ (p : Addr) (zs : List Str), vs = [.ref p] ∧ (SqL K H p (zs.map V.str) ∨ SqT K H p (zs.map V.str)) ∧ zs.length ≤ 100 ∧ short 100 zs ∧ Q (.str (wt zs)) H
def spAT : Sp := fun vs H Q _ => ∃ (v : V) (ps : List (Str × Str)), vs = [v] ∧ Arr H v ps ∧ ps.length ≤ 100 ∧ short 40 (ps.map (·.1)) ∧ short 40 (ps.map (·.2)) ∧ ∀ H', Same H H' → Q (.str (wt (ps.map pairT))) H'
section
variable {P : Program} {w : World} {K : PySem.W.Frag} {mg : Str → Option Value} {base : Heap}
theorem ok_wt {f : Addr} {fd : FuncData} (F : Fun K "words_text" "words_text" sWT f fd) (B : Free mg) : FnOk P w K mg base CX0 1 f fd ["words"] (spWT K) := by
  refine F.ok scWT (fun vs H Q E h => ?_) (fun cdv A outer s H vs Q E hr h => ?_)
  · obtain ⟨p, zs, rfl, _⟩ := h
    rfl
  · obtain ⟨p, zs, rfl, hs, few, sh, q⟩ := h
    refine ⟨_, pss_one (ps_ret (pe_ifExp (pt_cmpR op_gt (pe_callB (r := rLen K) call_len_seq (by rfl) B.len PySem.boot_len (pa_cons (pv 0) pa_nil)) pe_int (nomark _)) (pe_join pe_str (pv 0)) pe_str)), ?_⟩
    refine ⟨_, rfl, p, _, rfl, hs, _, _, rfl, rfl, _, rfl, ?_⟩
    rw [List.length_map]
    cases zs with
    | nil => exact q
    | cons z zs =>
      rw [if_pos (decide_eq_true (by show (0 : Int) < ((z :: zs).length : Nat); rw [List.length_cons]; omega))]
      refine ⟨⟨_, rfl⟩, _, rfl, _, p, z :: zs, rfl, rfl, hs, ?_, q⟩
      have a := short_sum sh
      have b : (" " : Str).length = 1 := by decide +kernel
      rw [b]
      omega
abbrev nAT : List Str := ["arrays", "array", "length"]
theorem str_three (a b : Str) : ((Str.empty ++ a) ++ ":") ++ b = pairT (a, b) := by
  rw [Str.empty_append]
  rfl
theorem pairT_len {p : Str × Str} {n m : Nat} (h1 : p.1.length ≤ n) (h2 : p.2.length ≤ m) : (pairT p).length ≤ n + m + 1 := by
  unfold pairT
  rw [Str.length_append, Str.length_append]
  have b : (":" : Str).length = 1 := by decide +kernel
  omega
theorem ok_at {f : Addr} {fd : FuncData} (F : Fun K "arrays_text" "arrays_text" sAT f fd) (W : Fnc P w K mg base CX0 1 "words_text" ["words"] (spWT K)) : FnOk P w K mg base CX0 2 f fd ["arrays"] spAT := by
  refine F.ok scAT (fun vs H Q E h => ?_) (fun cdv A outer s H vs Q E hr h => ?_)
  · obtain ⟨v, ps, rfl, _⟩ := h
    rfl
  · obtain ⟨v, ps, rfl, sh, few, k1, k2, q⟩ := h
    refine ⟨_, pss_one (ps_ret (pe_fnc W hr (by omega) (by rfl) pass0 (pa_cons (pe_lc (own := [("array", 1), ("length", 2)]) (g := gTup K 2 (gCons (gName 1) (gCons (gName 2) gNil))) (tt := tYes) rfl scAT.nd (pi_tup (pv 0)) (blkOk_by (N := nAT) (sc := defScope sAT) (by decide +kernel))
        (fun _ _ _ _ _ => pg_tup rfl (pgs_cons (pg_name (i := 1) scAT.nd rfl (Or.inl rfl) (Or.inr rfl)) (pgs_cons (pg_name (i := 2) scAT.nd rfl (Or.inl rfl) (Or.inr rfl)) pgs_nil))) (fun _ _ _ _ _ => pts_nil)
        (fun _ _ _ _ _ => pe_joined (PJ.cons (pe_fmt (pv 1)) (PJ.cons pe_str (PJ.cons (pe_fmt (pv 2)) PJ.nil))))) pa_nil))), ?_⟩
    obtain ⟨a, xs, rfl, e, ln, at_⟩ := arr_get sh
    refine ⟨.ref a, rfl, a, rfl, ⟨_, SqT.of e⟩, fun D nD => ?_⟩
    refine lc_tup (K := K) (a := a) (xs := xs) (g := gTup K 2 (gCons (gName 1) (gCons (gName 2) gNil))) (tt := tYes) (te := fun σ H Q => tJs [tFmt (tVar 1), tC (.str ":"), tFmt (tVar 2)] Str.empty σ H fun out H1 => Q (.str out) H1) (fun m H' => Same H H' ∧ H' D = some (.lst ((ps.take m).map fun p => V.str (pairT p)))) ⟨same_upd nD, upd_same⟩ (fun m H' _ hP => SqT.of (hP.1 _ _ e)) (fun m x H' hm hP => ?_) (fun H' hP => ?_)
    · obtain ⟨s1, d1⟩ := hP
      obtain ⟨p, b, hp, rfl, eb⟩ := at_ m x hm
      have l1 := k1 p.1 (List.mem_map.mpr ⟨p, List.mem_of_getElem? hp, rfl⟩)
      have l2 := k2 p.2 (List.mem_map.mpr ⟨p, List.mem_of_getElem? hp, rfl⟩)
      have c1 : (":" : Str).length = 1 := by decide +kernel
      refine ⟨b, _, rfl, SqT.of (s1 _ _ eb), rfl, _, _, rfl, _, _, rfl, rfl, rfl, ?_⟩
      refine ⟨_, rfl, .inl ⟨p.1, rfl, by rw [sizeLine_eq]; omega, p.1, rfl, by rw [sizeLine_eq, Str.empty_append]; omega, _, rfl, by rw [sizeLine_eq, Str.empty_append, Str.length_append]; omega, _, rfl, .inl ⟨p.2, rfl, by rw [sizeLine_eq]; omega, p.2, rfl, by rw [sizeLine_eq, Str.empty_append, Str.length_append, Str.length_append]; omega, ?_⟩⟩⟩
      rw [str_three]
      refine ⟨_, d1, ?_, fun c o z => ?_, ?_⟩
      · rw [List.length_map, List.length_take, sizeLine_eq]
        omega
      · rw [upd_ne (ne_of_none z nD)]
        exact s1 _ _ z
      · rw [upd_same, List.take_add_one, hp, List.map_append]
        rfl
    · obtain ⟨s1, d1⟩ := hP
      rw [ln, List.take_length] at d1
      refine ⟨D, ps.map pairT, rfl, .inl (SqL.of (by rw [List.map_map]; exact d1)), by rw [List.length_map]; exact few, fun z hz => ?_, q _ s1⟩
      obtain ⟨p, hp, rfl⟩ := List.mem_map.mp hz
      have l1 := k1 p.1 (List.mem_map.mpr ⟨p, hp, rfl⟩)
      have l2 := k2 p.2 (List.mem_map.mpr ⟨p, hp, rfl⟩)
      have := pairT_len l1 l2
      omega
end
end K01

set_option autoImplicit false
set_option maxRecDepth 100000
set_option maxHeartbeats 4000000
namespace K01
open PySem PySem.Spec PyProof.Rows L2 KX
theorem wt_len {n m : Nat} {zs : List Str} (h : zs.length ≤ n) (s : short m zs) : (wt zs).length ≤ n * m + n + 1 := by
  cases zs with
  | nil =>
    have : (wt []).length = 1 := by decide +kernel
    omega
  | cons z zs =>
    show (Txt.join " " (z :: zs)).length ≤ _
    rw [TL.join_eq]
    have a := StrLaws.join_length_le " " (z :: zs)
    have b : (" " : Str).length = 1 := by decide +kernel
    have c := short_sum s
    have d : (z :: zs).length * m ≤ n * m := Nat.mul_le_mul_right m h
    rw [b] at a
    omega
def frT (ps : List (Str × Str)) (qs rs : List Str) : Str := wt (ps.map pairT) ++ " | " ++ wt qs ++ " | " ++ wt rs
abbrev sStr : Stmt := inClass (topS 19) 18
theorem scStr : FnScope ["self"] ["self"] (defScope sStr) := ⟨rfl, rfl, rfl, by decide +kernel, rfl, by decide +kernel, by decide +kernel⟩
def spStr (C : Addr) : Sp := fun vs H Q _ => ∃ (p : Addr) (v1 v2 v3 : V) (ps : List (Str × Str)) (qs rs : List Str), vs = [.ref p] ∧ FrameAt C H p v1 v2 v3 ps qs rs ∧ ps.length ≤ 12 ∧ qs.length ≤ 12 ∧ rs.length ≤ 12 ∧ short 8 (ps.map (·.1)) ∧ short 8 (ps.map (·.2)) ∧ short 8 qs ∧ short 8 rs ∧ ∀ H', Same H H' → Q (.str (frT ps qs rs)) H'
section
variable {P : Program} {w : World} {K : PySem.W.Frag} {mg : Str → Option Value} {base : Heap}
theorem ok_str {f C : Addr} {fd : FuncData} (F : Fun K "__str__" "Frame.__str__" sStr f fd) (T : FrTxt K mg C) (A3 : Fnc P w K mg base CX0 2 "arrays_text" ["arrays"] spAT) (W : Fnc P w K mg base CX0 1 "words_text" ["words"] (spWT K)) : FnOk P w K mg base CX0 3 f fd ["self"] (spStr C) := by
  refine F.ok scStr (fun vs H Q E h => ?_) (fun cdv A outer s H vs Q E hr h => ?_)
  · obtain ⟨p, v1, v2, v3, ps, qs, rs, rfl, _⟩ := h
    rfl
  · obtain ⟨p, v1, v2, v3, ps, qs, rs, rfl, Fr, l1, l2, l3, k1, k1', k2, k3, q⟩ := h
    refine ⟨_, pss_one (ps_ret (pe_joined (PJ.cons (pe_fmt (pe_fnc A3 hr (by omega) (by rfl) pass0 (pa_cons (pe_fld (pv 0) rfl) pa_nil)))
      (PJ.cons pe_str (PJ.cons (pe_fmt (pe_fnc W hr (by omega) (by rfl) pass0 (pa_cons (pe_fld (pv 0) rfl) pa_nil)))
      (PJ.cons pe_str (PJ.cons (pe_fmt (pe_fnc W hr (by omega) (by rfl) pass0 (pa_cons (pe_fld (pv 0) rfl) pa_nil))) PJ.nil))))))), ?_⟩
    obtain ⟨dx, t, d2, e, ob, _, _, _⟩ := id Fr.ob
    have m40 : ∀ {zs : List Str} {n : Nat}, short 8 zs → 8 ≤ n → short n zs := fun h l z hz => Nat.le_trans (h z hz) l
    have b1 := wt_len (m := 17) (n := 12) (zs := ps.map pairT) (by rw [List.length_map]; exact l1) (fun z hz => by
      obtain ⟨y, hy, rfl⟩ := List.mem_map.mp hz
      exact pairT_len (k1 _ (List.mem_map.mpr ⟨y, hy, rfl⟩)) (k1' _ (List.mem_map.mpr ⟨y, hy, rfl⟩)))
    have b2 := wt_len l2 k2
    have b3 := wt_len l3 k3
    have c1 : (" | " : Str).length = 3 := by decide +kernel
    refine ⟨_, rfl, p, C, dx, _, v1, rfl, ob, T.cl, T.no _ (by decide +kernel), lookup_zip (i := 0) (by decide +kernel) rfl, v1, ps, rfl, Fr.ar, by omega, m40 k1 (by omega), m40 k1' (by omega), fun H1 w1 => ?_⟩
    have Fr1 := Fr.same w1
    obtain ⟨a2, rfl, e2⟩ := Fr1.po
    obtain ⟨a3, rfl, e3⟩ := Fr1.va
    refine .inl ⟨_, rfl, by rw [sizeLine_eq]; omega, _, rfl, by rw [sizeLine_eq, Str.empty_append]; omega, _, rfl, by rw [sizeLine_eq, Str.empty_append, Str.length_append]; omega, ?_⟩
    refine ⟨_, rfl, p, C, dx, _, .ref a2, rfl, w1 _ _ ob, T.cl, T.no _ (by decide +kernel), lookup_zip (i := 1) (by decide +kernel) rfl, a2, qs, rfl, .inr (SqT.of e2), by omega, m40 k2 (by omega), ?_⟩
    refine .inl ⟨_, rfl, by rw [sizeLine_eq]; omega, _, rfl, by rw [sizeLine_eq, Str.empty_append, Str.length_append, Str.length_append]; omega, _, rfl, by rw [sizeLine_eq, Str.empty_append, Str.length_append, Str.length_append, Str.length_append]; omega, ?_⟩
    refine ⟨_, rfl, p, C, dx, _, .ref a3, rfl, w1 _ _ ob, T.cl, T.no _ (by decide +kernel), lookup_zip (i := 2) (by decide +kernel) rfl, a3, rs, rfl, .inr (SqT.of e3), by omega, m40 k3 (by omega), ?_⟩
    refine .inl ⟨_, rfl, by rw [sizeLine_eq]; omega, _, rfl, by rw [sizeLine_eq, Str.empty_append, Str.length_append, Str.length_append, Str.length_append, Str.length_append]; omega, ?_⟩
    have z := q H1 w1
    unfold frT at z
    rw [Str.empty_append]
    exact z
end
end K01

set_option autoImplicit false
set_option maxRecDepth 100000
set_option maxHeartbeats 4000000
namespace K01
open PySem PySem.Spec PyProof.Rows L2 KX
section
variable {K : PySem.W.Frag} {H : Hp}
mutual
theorem Shw.dp : ∀ {v : V} {d : PyData}, PyData.canLay0 d = true → Shw H v d → Dp K H v d
  | _, _, _, .non => .non
  | _, _, _, .bl b => .bl b
  | _, _, _, .int i => .int i
  | _, _, _, .str x => .str x
  | _, _, n, .lst h r => .lst (SqL.of h) (ShwAll.dp (by simpa only [PyData.canLay0] using n) r)
  | _, _, n, .tup h r => .tup (SqT.of h) (ShwAll.dp (by simpa only [PyData.canLay0] using n) r)
  | _, _, n, .dct h => by simp [PyData.canLay0] at n
theorem ShwAll.dp : ∀ {vs : List V} {ds : List PyData}, PyData.canLayAll0 ds = true → ShwAll H vs ds → DpAll K H vs ds
  | _, _, _, .nil => .nil
  | _, _, n, .cons a r => by
    simp only [PyData.canLayAll0, Bool.and_eq_true] at n
    exact .cons (Shw.dp n.1 a) (ShwAll.dp n.2 r)
end
end
def frD (ps : List (Str × Str)) (qs rs : List Str) : PyData := .tuple [.tuple (ps.map prD), .tuple (qs.map PyData.str), .tuple (rs.map PyData.str)]
def okS (zs : List Str) : Prop := ∀ z ∈ zs, PyData.strOk z = true
theorem strs_lay : ∀ {zs : List Str}, okS zs → PyData.canLayAll0 (zs.map PyData.str) = true
  | [], _ => rfl
  | z :: zs, h => by simp only [List.map_cons, PyData.canLayAll0, PyData.canLay0, h z List.mem_cons_self, strs_lay fun y hy => h y (List.mem_cons_of_mem _ hy), Bool.and_self]
theorem prs_lay : ∀ {ps : List (Str × Str)}, okS (ps.map (·.1)) → okS (ps.map (·.2)) → PyData.canLayAll0 (ps.map prD) = true
  | [], _, _ => rfl
  | p :: ps, h1, h2 => by
    have a := h1 p.1 (by rw [List.map_cons]; exact List.mem_cons_self)
    have b := h2 p.2 (by rw [List.map_cons]; exact List.mem_cons_self)
    simp only [List.map_cons, PyData.canLayAll0, PyData.canLay0, prD, a, b, prs_lay (fun y hy => h1 y (by rw [List.map_cons]; exact List.mem_cons_of_mem _ hy)) (fun y hy => h2 y (by rw [List.map_cons]; exact List.mem_cons_of_mem _ hy)), Bool.and_self]
theorem strs_depth : ∀ zs : List Str, PyData.depthAll (zs.map PyData.str) = 0
  | [] => rfl
  | z :: zs => by simp only [List.map_cons, PyData.depthAll, PyData.depth, strs_depth zs, Nat.max_self]
theorem prs_depth : ∀ ps : List (Str × Str), PyData.depthAll (ps.map prD) ≤ 1
  | [] => by simp [PyData.depthAll]
  | p :: ps => by
    have := prs_depth ps
    simp only [List.map_cons, PyData.depthAll, PyData.depth, prD]
    omega
theorem fr_shaped {ps : List (Str × Str)} {qs rs : List Str} (h1 : okS (ps.map (·.1))) (h2 : okS (ps.map (·.2))) (h3 : okS qs) (h4 : okS rs) : SeqAt.shaped (frD ps qs rs) = true := by
  have d : PyData.depth (frD ps qs rs) ≤ 64 := by
    have := prs_depth ps
    simp only [frD, PyData.depth, PyData.depthAll, strs_depth]
    omega
  have c : PyData.canLay0 (frD ps qs rs) = true := by
    simp only [frD, PyData.canLay0, PyData.canLayAll0, strs_lay h3, strs_lay h4, prs_lay h1 h2, Bool.and_self]
  unfold SeqAt.shaped
  rw [c, decide_eq_true d]
  rfl
end K01

set_option autoImplicit false
set_option maxRecDepth 100000
set_option maxHeartbeats 4000000
namespace K01
open PySem PySem.Spec PyProof.Rows L2 KX
/-- what isinstance asks of class Frame -/
structure FrIs (K : PySem.W.Frag) (mg : Str → Option Value) (C : Addr) : Prop where
  gF : mg "Frame" = some (.ref C)
  ha : PySem.W.findIn K (.ref C) "__class__" = some (some (.builtin "object.__class__"))
  hn : PySem.W.specialIn K (.builtin "object.__class__") "__get__" = some (some (.builtin "getset_descriptor.__get__"))
  ht : PySem.W.takesIn K (.builtin "object.__class__") = some true
  hm : PySem.W.mroIn K C (.type "object") = some true
  kT : PySem.W.kitOne K (.ref C) (.ref C) = some true
  kL : PySem.W.kitOne K (.type "list") (.ref C) = some false
abbrev sEq : Stmt := inClass (topS 19) 17
theorem scEq : FnScope ["self", "other"] ["self", "other"] (defScope sEq) := ⟨rfl, rfl, rfl, by decide +kernel, rfl, by decide +kernel, by decide +kernel⟩
def okF (ps : List (Str × Str)) (qs rs : List Str) : Prop := okS (ps.map (·.1)) ∧ okS (ps.map (·.2)) ∧ okS qs ∧ okS rs
def spEq (C : Addr) : Sp := fun vs H Q _ => ∃ (p q : Addr) (v1 v2 v3 : V) (ps : List (Str × Str)) (qs rs : List Str), vs = [.ref p, .ref q] ∧ FrameAt C H p v1 v2 v3 ps qs rs ∧
  ((∃ xs, H q = some (.lst xs) ∧ Q (.bl false) H) ∨
   ∃ (w1 w2 w3 : V) (ps' : List (Str × Str)) (qs' rs' : List Str), FrameAt C H q w1 w2 w3 ps' qs' rs' ∧ okF ps qs rs ∧ okF ps' qs' rs' ∧ ∀ H', Same H H' → Q (.bl (PyData.eqv (frD ps qs rs) (frD ps' qs' rs'))) H')
theorem txts_shw {H : Hp} {v : V} {zs : List Str} (t : Txts H v zs) : Shw H v (.tuple (zs.map PyData.str)) := by
  obtain ⟨a, rfl, e⟩ := t
  refine .tup e ?_
  have : ∀ zs : List Str, ShwAll H (zs.map V.str) (zs.map PyData.str) := fun zs => by
    induction zs with
    | nil => exact .nil
    | cons z zs ih => exact .cons (.str z) ih
  exact this zs
theorem FrameAt.shw {C p a : Addr} {H : Hp} {v1 v2 v3 : V} {ps : List (Str × Str)} {qs rs : List Str} (f : FrameAt C H p v1 v2 v3 ps qs rs) (h : H a = some (.tup [v1, v2, v3])) : Shw H (.ref a) (frD ps qs rs) :=
  .tup h (.cons f.ar (.cons (txts_shw f.po) (.cons (txts_shw f.va) .nil)))
section
variable {P : Program} {w : World} {K : PySem.W.Frag} {mg : Str → Option Value} {base : Heap}
theorem ok_eq {f C : Addr} {fd : FuncData} (F : Fun K "__eq__" "Frame.__eq__" sEq f fd) (T : FrTxt K mg C) (S : FrIs K mg C) (B : Free mg) : FnOk P w K mg base CX0 1 f fd ["self", "other"] (spEq C) := by
  refine F.ok scEq (fun vs H Q E h => ?_) (fun cdv A outer s H vs Q E hr h => ?_)
  · obtain ⟨p, q, v1, v2, v3, ps, qs, rs, rfl, _⟩ := h
    rfl
  · obtain ⟨p, q, v1, v2, v3, ps, qs, rs, rfl, Fr, hq⟩ := h
    refine ⟨_, pss_cons (ps_if (pt_not (pt_val (pe_callB call_isi (by rfl) B.isinstance (by decide +kernel) (pa_cons (pv 1) (pa_cons (pe_glob (v := .ref C) (by rfl) S.gF rfl) pa_nil))))) (pss_one (ps_ret pe_bl)) pss_nil)
      (pss_one (ps_ret (pe_cmpR (op_eqD hr.units) (pe_tup (pa_cons (pe_fld (pv 0) rfl) (pa_cons (pe_fld (pv 0) rfl) (pa_cons (pe_fld (pv 0) rfl) pa_nil))))
        (pe_tup (pa_cons (pe_fld (pv 1) rfl) (pa_cons (pe_fld (pv 1) rfl) (pa_cons (pe_fld (pv 1) rfl) pa_nil)))) (nomark _)))), ?_⟩
    rcases hq with ⟨xs, hl, k⟩ | ⟨w1, w2, w3, ps', qs', rs', Fr', o1, o2, k⟩
    · exact ⟨.ref q, rfl, .ref q, .ref C, _, _, false, rfl, .own C, .base (.lst hl), S.kL, false, rfl, k⟩
    · obtain ⟨dx, t, d2, e, ob, _⟩ := id Fr.ob
      obtain ⟨dx', t', d2', e', ob', _⟩ := id Fr'.ob
      refine ⟨.ref q, rfl, .ref q, .ref C, _, _, true, rfl, .own C, .base (.ins ob' T.cl S.ha S.hn S.ht S.hm), S.kT, true, rfl, ?_⟩
      show if (!true) = true then _ else _
      refine iteF ?_
      refine ⟨.ref p, rfl, p, C, dx, _, v1, rfl, ob, T.cl, T.no _ (by decide +kernel), lookup_zip (i := 0) (by decide +kernel) rfl, .ref p, rfl, p, C, dx, _, v2, rfl, ob, T.cl, T.no _ (by decide +kernel), lookup_zip (i := 1) (by decide +kernel) rfl,
        .ref p, rfl, p, C, dx, _, v3, rfl, ob, T.cl, T.no _ (by decide +kernel), lookup_zip (i := 2) (by decide +kernel) rfl, (by rw [sizeLine_eq]; show 3 ≤ 16777216; decide), fun a na => ?_⟩
      have sa := same_upd (p := a) (o := .tup [v1, v2, v3]) na
      have ob2 := sa _ _ ob'
      refine ⟨.ref q, rfl, q, C, dx', _, w1, rfl, ob2, T.cl, T.no _ (by decide +kernel), lookup_zip (i := 0) (by decide +kernel) rfl, .ref q, rfl, q, C, dx', _, w2, rfl, ob2, T.cl, T.no _ (by decide +kernel), lookup_zip (i := 1) (by decide +kernel) rfl,
        .ref q, rfl, q, C, dx', _, w3, rfl, ob2, T.cl, T.no _ (by decide +kernel), lookup_zip (i := 2) (by decide +kernel) rfl, (by rw [sizeLine_eq]; show 3 ≤ 16777216; decide), fun b nb => ?_⟩
      have sb := same_upd (p := b) (o := .tup [w1, w2, w3]) nb
      have z1 := fr_shaped o1.1 o1.2.1 o1.2.2.1 o1.2.2.2
      have z2 := fr_shaped o2.1 o2.2.1 o2.2.2.1 o2.2.2.2
      have f1 := (Fr.same (sa.trans sb)).shw (a := a) (sb _ _ upd_same)
      have f2 := (Fr'.same (sa.trans sb)).shw (a := b) upd_same
      exact ⟨_, _, Shw.dp (SeqAt.canLay_of_shaped z1) f1, Shw.dp (SeqAt.canLay_of_shaped z2) f2, z1, z2, k _ (sa.trans sb)⟩
end
end K01

set_option autoImplicit false
set_option maxRecDepth 100000
set_option maxHeartbeats 4000000
namespace K01
open PySem PySem.Spec PyProof.Rows L2 KX
abbrev sLens : Stmt := topS 26
abbrev nLens : List Str := ["_law_parts_here", "_law_found", "_law_name", "_law_length"]
theorem scLens : FnScope nLens ["_law_parts_here"] (defScope sLens) := ⟨rfl, rfl, rfl, by decide +kernel, rfl, by decide +kernel, by decide +kernel⟩
def spLens2 : Sp := fun vs H Q _ => ∃ (a : Addr) (v1 v2 v3 : V) (ps : List (Str × Str)), vs = [.ref a] ∧ H a = some (.lst [v1, v2, v3]) ∧ Arr H v1 ps ∧ ps.length ≤ 1000 ∧ ∀ (l : Addr) (H' : Hp), Same H H' → H' l = some (.lst ((lensOf ps).map V.str)) → Q (.ref l) H'
theorem inV_str (z : Str) (zs : List Str) : inV (.str z) (zs.map V.str) = decide (z ∈ zs) := by
  unfold inV
  rw [List.any_map]
  induction zs with
  | nil => rfl
  | cons y zs ih =>
    rw [List.any_cons, ih]
    by_cases e : y = z
    · subst e
      simp [eqV]
    · have e2 : z ≠ y := fun h => e h.symm
      simp [eqV, e, e2]
theorem flat_strs (zs : List Str) : (zs.map V.str).all flatV = true := by
  induction zs with
  | nil => rfl
  | cons z zs ih => rw [List.map_cons, List.all_cons, ih]; rfl
section
variable {P : Program} {w : World} {K : PySem.W.Frag} {mg : Str → Option Value} {base : Heap}
theorem ok_lens2 {f : Addr} {fd : FuncData} (F : Fun K "_law_lengths" "_law_lengths" sLens f fd) : FnOk P w K mg base CX0 1 f fd ["_law_parts_here"] spLens2 := by
  refine F.ok scLens (fun vs H Q E h => ?_) (fun cdv A outer s H vs Q E hr h => ?_)
  · obtain ⟨a, v1, v2, v3, ps, rfl, _⟩ := h
    rfl
  · obtain ⟨a, v1, v2, v3, ps, rfl, ha, sh, few, q⟩ := h
    refine ⟨_, pss_cons (ps_set (i := 1) scLens.nd rfl (.inl rfl) (pe_lst pa_nil))
      (pss_cons (ps_for PassesOwn.never rfl (pi_tup (pe_ix ix_list (pv 0) pe_int (fun _ _ => rfl))) (pg_tup rfl (pgs_cons (pg_name (i := 2) scLens.nd rfl (Or.inl rfl) (Or.inr rfl)) (pgs_cons (pg_name (i := 3) scLens.nd rfl (Or.inl rfl) (Or.inr rfl)) pgs_nil)))
        (pss_one (ps_set (i := 1) scLens.nd rfl (.inl rfl) (pe_op op_cat (pv 1) (pe_ifExp (pt_cmpR op_notIn_seq (pv 3) (pv 1) (by with_unfolding_all rfl)) (pe_lst (pa_cons (pv 3) pa_nil)) (pe_lst pa_nil))))))
      (pss_one (ps_ret (pv 1)))), ?_⟩
    refine ⟨(by rw [sizeLine_eq]; decide), fun l0 n0 => ?_⟩
    have sm0 := same_upd (p := l0) (o := .lst []) n0
    obtain ⟨b, xs, rfl, e, ln, at_⟩ := arr_get (Shw.same sh sm0)
    refine ⟨_, rfl, a, _, 0, .ref b, rfl, rfl, SqL.of (sm0 _ _ ha), rfl, b, rfl, ⟨_, SqT.of e⟩, ?_⟩
    refine for_tup (K := K) (a := b) (xs := xs) (fun m σ H' => ∃ (l : Addr) (x y : Option V), σ = [some (.ref a), some (.ref l), x, y] ∧ Same (upd H l0 (.lst [])) H' ∧ H' l = some (.lst ((lensOf (ps.take m)).map V.str))) ⟨l0, none, none, rfl, Same.refl _, upd_same⟩ (fun m σ H' _ hP => ?_) (fun m x σ H' hm hP => ?_) (fun σ H' hP => ?_)
    · obtain ⟨l, x, y, _, s1, _⟩ := hP
      exact SqT.of (s1 _ _ e)
    · obtain ⟨l, x1, y1, rfl, s1, d1⟩ := hP
      obtain ⟨p, c, hp, rfl, ec⟩ := at_ m x hm
      refine ⟨c, _, rfl, SqT.of (s1 _ _ ec), rfl, _, _, rfl, _, _, rfl, rfl, ?_⟩
      have le := lensOf_le (ps.take m)
      rw [List.length_take] at le
      have nx : lensOf (ps.take (m + 1)) = if p.2 ∈ lensOf (ps.take m) then lensOf (ps.take m) else lensOf (ps.take m) ++ [p.2] := by
        unfold lensOf
        rw [List.take_add_one, hp, List.map_append]
        show onceS ((ps.take m).map (·.2) ++ [p.2]) = _
        rw [onceS_snoc]
      refine ⟨_, rfl, _, rfl, _, rfl, l, _, rfl, .inl (SqL.of d1), rfl, flat_strs _, _, rfl, ?_⟩
      have ei : (if true = true then !inV (.str p.2) ((lensOf (ps.take m)).map V.str) else inV (.str p.2) ((lensOf (ps.take m)).map V.str)) = !decide (p.2 ∈ lensOf (ps.take m)) := by rw [if_pos rfl, inV_str]
      rw [ei]
      by_cases mm : p.2 ∈ lensOf (ps.take m)
      · rw [decide_eq_true mm]
        refine iteF ⟨by rw [sizeLine_eq]; decide, fun g ng => ⟨l, g, (lensOf (ps.take m)).map V.str, _, rfl, rfl, ?_, upd_same, ?_, fun r nr => ?_⟩⟩
        · rw [upd_ne (ne_of_none d1 ng)]; exact d1
        · rw [List.length_map, sizeLine_eq]; show _ + 0 ≤ _; omega
        · refine ⟨r, _, _, rfl, s1.trans ((same_upd ng).trans (same_upd nr)), ?_⟩
          rw [upd_same, List.append_nil, nx, if_pos mm]
      · rw [decide_eq_false mm]
        refine iteT ⟨_, rfl, by rw [sizeLine_eq]; show 1 ≤ 16777216; decide, fun g ng => ⟨l, g, (lensOf (ps.take m)).map V.str, _, rfl, rfl, ?_, upd_same, ?_, fun r nr => ?_⟩⟩
        · rw [upd_ne (ne_of_none d1 ng)]; exact d1
        · rw [List.length_map, sizeLine_eq]; show _ + 1 ≤ _; omega
        · refine ⟨r, _, _, rfl, s1.trans ((same_upd ng).trans (same_upd nr)), ?_⟩
          rw [upd_same, nx, if_neg mm, List.map_append]
          rfl
    · obtain ⟨l, x1, y1, rfl, s1, d1⟩ := hP
      rw [ln, List.take_length] at d1
      exact ⟨_, rfl, q l H' (sm0.trans s1) d1⟩
end
end K01

set_option autoImplicit false
set_option maxRecDepth 100000
set_option maxHeartbeats 4000000
namespace K01
open PySem PySem.Spec PyProof.Rows L2 KX
abbrev sAll : Stmt := topS 28
abbrev nAll : List Str := ["_law_parts_here", "_law_arrays", "_law_name", "_law_length"]
theorem scAll : FnScope nAll ["_law_parts_here"] (defScope sAll) := ⟨rfl, rfl, rfl, by decide +kernel, rfl, by decide +kernel, by decide +kernel⟩
def spAll : Sp := fun vs H Q _ => ∃ (a : Addr) (v1 v2 v3 : V) (ps : List (Str × Str)) (qs rs : List Str), vs = [.ref a] ∧ H a = some (.lst [v1, v2, v3]) ∧ Arr H v1 ps ∧ Txts H v2 qs ∧ Txts H v3 rs ∧ ps.length ≤ 1000 ∧ qs.length ≤ 1000 ∧ rs.length ≤ 1000 ∧
  ∀ (l : Addr) (H' : Hp), Same H H' → H' l = some (.lst ((wordsOf ps qs rs).map V.str)) → Q (.ref l) H'
section
variable {P : Program} {w : World} {K : PySem.W.Frag} {mg : Str → Option Value} {base : Heap}
theorem ok_all {f : Addr} {fd : FuncData} (F : Fun K "_law_all_of" "_law_all_of" sAll f fd) (L : Fnc P w K mg base CX0 1 "_law_lengths" ["_law_parts_here"] spLens2) (B : Free mg) : FnOk P w K mg base CX0 2 f fd ["_law_parts_here"] spAll := by
  refine F.ok scAll (fun vs H Q E h => ?_) (fun cdv A outer s H vs Q E hr h => ?_)
  · obtain ⟨a, v1, v2, v3, ps, qs, rs, rfl, _⟩ := h
    rfl
  · obtain ⟨a, v1, v2, v3, ps, qs, rs, rfl, ha, sh, t2, t3, few1, few2, few3, q⟩ := h
    refine ⟨_, pss_cons (ps_setLc (i := 1) (own := [("_law_name", 2), ("_law_length", 3)]) (g := gTup K 2 (gCons (gName 2) (gCons (gName 3) gNil))) (tt := tYes) rfl scAll.nd rfl rfl (sw_true rfl rfl rfl (by decide +kernel)) (pi_tup (pe_ix ix_list (pv 0) pe_int (fun _ _ => rfl))) (blkOk_by (N := nAll) (sc := defScope sAll) (by decide +kernel))
        (fun _ _ _ _ _ => pg_tup rfl (pgs_cons (pg_name (i := 2) scAll.nd rfl (Or.inl rfl) (Or.inr rfl)) (pgs_cons (pg_name (i := 3) scAll.nd rfl (Or.inl rfl) (Or.inr rfl)) pgs_nil))) (fun _ _ _ _ _ => pts_nil) (fun _ _ _ _ _ => pv 2))
      (pss_one (ps_ret (pe_op op_cat (pe_op op_cat (pv 1) (pe_fnc L hr (by omega) (by rfl) pass0 (pa_cons (pv 0) pa_nil)))
        (pe_callTy call_list_of (by rfl) B.list (by decide +kernel) (pa_cons (pe_op op_catA (pe_ix ix_list (pv 0) pe_int (fun _ _ => rfl)) (pe_ix ix_list (pv 0) pe_int (fun _ _ => rfl))) pa_nil))))), ?_⟩
    obtain ⟨b, xs, rfl, e, ln, at_⟩ := arr_get sh
    obtain ⟨a2, rfl, e2⟩ := t2
    obtain ⟨a3, rfl, e3⟩ := t3
    refine ⟨_, rfl, a, _, 0, .ref b, rfl, rfl, SqL.of ha, rfl, b, rfl, ⟨_, SqT.of e⟩, fun D nD => ?_⟩
    refine lc_tup (K := K) (a := b) (xs := xs) (fun m H' => Same H H' ∧ H' D = some (.lst ((ps.take m).map fun p => V.str p.1))) ⟨same_upd nD, upd_same⟩ (fun m H' _ hP => SqT.of (hP.1 _ _ e)) (fun m x H' hm hP => ?_) (fun H' hP => ?_)
    · obtain ⟨s1, d1⟩ := hP
      obtain ⟨p, c, hp, rfl, eb⟩ := at_ m x hm
      refine ⟨c, _, rfl, SqT.of (s1 _ _ eb), rfl, _, _, rfl, _, _, rfl, rfl, rfl, _, rfl, _, d1, ?_, fun c o z => ?_, ?_⟩
      · rw [List.length_map, List.length_take, sizeLine_eq]
        omega
      · rw [upd_ne (ne_of_none z nD)]
        exact s1 _ _ z
      · rw [upd_same, List.take_add_one, hp, List.map_append]
        rfl
    · obtain ⟨s1, d1⟩ := hP
      rw [ln, List.take_length] at d1
      have ll := lensOf_le ps
      refine ⟨.ref D, rfl, .ref a, rfl, a, .ref b, .ref a2, .ref a3, ps, rfl, s1 _ _ ha, Shw.same sh s1, few1, fun l H2 s2 e4 => ?_⟩
      have d2 := s2 _ _ d1
      have ha2 := s2 _ _ (s1 _ _ ha)
      refine ⟨D, l, _, _, rfl, rfl, d2, e4, ?_, fun r nr => ?_⟩
      · rw [List.length_map, List.length_map, sizeLine_eq]
        omega
      have s3 := same_upd (p := r) (o := .lst ((ps.map fun p => V.str p.1) ++ (lensOf ps).map V.str)) nr
      have s123 := s1.trans (s2.trans s3)
      refine ⟨.ref a, rfl, a, _, 1, .ref a2, rfl, rfl, SqL.of (s3 _ _ ha2), rfl, .ref a, rfl, a, _, 2, .ref a3, rfl, rfl, SqL.of (s3 _ _ ha2), rfl, ?_⟩
      have fin : ∀ (l2 : Addr) (H5 : Hp), Same H H5 → H5 r = some (.lst ((ps.map fun p => V.str p.1) ++ (lensOf ps).map V.str)) → H5 l2 = some (.lst ((qs ++ rs).map V.str)) → rCat (.ref r) (.ref l2) H5 Q := fun l2 H5 w5 er el => by
        refine ⟨r, l2, _, _, rfl, rfl, er, el, ?_, fun z nz => q z _ (w5.trans (same_upd nz)) ?_⟩
        · simp only [List.length_map, List.length_append, sizeLine_eq]
          omega
        · rw [upd_same]
          unfold wordsOf
          simp only [List.map_append, List.map_map, List.append_assoc]
          rfl
      have g2 := s123 _ _ e2
      have g3 := s123 _ _ e3
      have gr : (upd H2 r (.lst ((ps.map fun p => V.str p.1) ++ (lensOf ps).map V.str))) r = some (.lst ((ps.map fun p => V.str p.1) ++ (lensOf ps).map V.str)) := upd_same
      generalize upd H2 r _ = H3 at s123 g2 g3 gr ⊢
      refine ⟨a2, a3, _, _, rfl, rfl, SqT.of g2, SqT.of g3, ?_, fun h1 => ?_, fun h1 h2 => ?_, fun h1 h2 t nt => ?_⟩
      · rw [List.length_map, List.length_map, sizeLine_eq]
        omega
      · have z := List.map_eq_nil_iff.mp h1
        refine ⟨a3, _, rfl, .inr (SqT.of g3), fun l2 n2 => fin l2 _ (s123.trans (same_upd n2)) (same_upd n2 _ _ gr) ?_⟩
        rw [upd_same, z, List.nil_append]
      · have z := List.map_eq_nil_iff.mp h2
        refine ⟨a2, _, rfl, .inr (SqT.of g2), fun l2 n2 => fin l2 _ (s123.trans (same_upd n2)) (same_upd n2 _ _ gr) ?_⟩
        rw [upd_same, z, List.append_nil]
      · have st := same_upd (p := t) (o := .tup (qs.map V.str ++ rs.map V.str)) nt
        refine ⟨t, _, rfl, .inr (SqT.of upd_same), fun l2 n2 => fin l2 _ ((s123.trans st).trans (same_upd n2)) (same_upd n2 _ _ (st _ _ gr)) ?_⟩
        rw [upd_same, List.map_append]
end
end K01

set_option autoImplicit false
set_option maxRecDepth 100000
set_option maxHeartbeats 4000000
namespace K01
open PySem PySem.Spec PyProof.Rows L2 KX
theorem erase_map {f : Str → V} : ∀ (l : List Str) (i : Nat), (l.map f).eraseIdx i = (l.eraseIdx i).map f
  | [], _ => rfl
  | _ :: _, 0 => rfl
  | x :: l, i + 1 => by
    show f x :: (l.map f).eraseIdx i = f x :: (l.eraseIdx i).map f
    rw [erase_map l i]
theorem erase_perm : ∀ {l : List Str} {i : Nat} (h : i < l.length), (l[i] :: l.eraseIdx i).Perm l
  | x :: l, 0, _ => List.Perm.refl _
  | x :: l, i + 1, h => by
    show (l[i]'(Nat.lt_of_succ_lt_succ h) :: x :: l.eraseIdx i).Perm (x :: l)
    exact (List.Perm.swap _ _ _).trans ((erase_perm (Nat.lt_of_succ_lt_succ h)).cons x)
abbrev sFew : Stmt := topS 24
abbrev nFew : List Str := ["_law_creel_here", "_law_items", "_law_count", "_law_left", "_law_found", "_law_turn"]
theorem scFew : FnScope nFew ["_law_creel_here", "_law_items", "_law_count"] (defScope sFew) := ⟨rfl, rfl, rfl, by decide +kernel, rfl, by decide +kernel, by decide +kernel⟩
def Grw (a : Addr) (H H' : Hp) : Prop := ∀ b o, b ≠ a → H b = some o → H' b = some o
def spFew : Sp := fun vs H Q _ => ∃ (a p : Addr) (x y c : Int) (zs : List Str) (n : Nat), vs = [.ref a, .ref p, .int n] ∧ p ≠ a ∧ H a = some (.lst [.int x, .int y, .int c]) ∧ Cr x y c ∧ c ≤ 900000 ∧ H p = some (.lst (zs.map V.str)) ∧ zs.length ≤ 1000 ∧ n ≤ zs.length ∧
  ∀ (l : Addr) (fs ls : List Str) (x' c' : Int) (H' : Hp), fs.length = n → (fs ++ ls).Perm zs → Cr x' y c' → c' ≤ c + n → H' a = some (.lst [.int x', .int y, .int c']) → Grw a H H' → l ≠ a → H' l = some (.lst (fs.map V.str)) → Q (.ref l) H'
section
variable {P : Program} {w : World} {K : PySem.W.Frag} {mg : Str → Option Value} {base : Heap}
theorem ok_few {f : Addr} {fd : FuncData} (F : Fun K "_law_few_of" "_law_few_of" sFew f fd) (Fi : Fnc P w K mg base CX0 1 "_law_fish" ["_law_creel_here", "_law_total"] spFish) (B : Free mg) (mMin : mg "min" = none) : FnOk P w K mg base CX0 2 f fd ["_law_creel_here", "_law_items", "_law_count"] spFew := by
  refine F.ok scFew (fun vs H Q E h => ?_) (fun cdv A outer s H vs Q E hr h => ?_)
  · obtain ⟨a, p, x, y, c, zs, n, rfl, _⟩ := h
    rfl
  · obtain ⟨a, p, x, y, c, zs, n, rfl, hpa, ha, C, hc, hp, few, hn, q⟩ := h
    refine ⟨_, pss_cons (ps_par (i := 3) (j := 4) rfl scFew.nd rfl rfl (by decide) rfl rfl (pa_cons (pe_callTy call_list_of (by rfl) B.list (by decide +kernel) (pa_cons (pv 1) pa_nil)) (pa_cons (pe_lst pa_nil) pa_nil)) (by rfl))
      (pss_cons (ps_for PassesOwn.never rfl (pi_range1 (by rfl) B.range (pa_cons (pe_callB (call_min2 rfl) (by rfl) mMin (by decide +kernel) (pa_cons (pv 2) (pa_cons (pe_callB (r := rLen K) call_len_seq (by rfl) B.len PySem.boot_len (pa_cons (pv 1) pa_nil)) pa_nil))) pa_nil)) (pg_name (i := 5) scFew.nd rfl (Or.inl rfl))
        (pss_one (ps_expr (pe_bm PySem.F.plainAttrs_list PySem.F.slot_list_append PySem.F.type_list_append mt_append (pv 4) (pa_cons (pe_bm PySem.F.plainAttrs_list PySem.F.slot_list_pop PySem.F.type_list_pop mt_popAt (pv 3)
          (pa_cons (pe_fnc Fi hr (by omega) (by rfl) pass0 (pa_cons (pv 0) (pa_cons (pe_callB (r := rLen K) call_len_seq (by rfl) B.len PySem.boot_len (pa_cons (pv 3) pa_nil)) pa_nil))) pa_nil)) pa_nil)))))
      (pss_one (ps_ret (pv 4)))), ?_⟩
    refine ⟨_, rfl, p, _, rfl, .inl (SqL.of hp), fun L nL => ⟨by rw [sizeLine_eq]; decide, fun Fd nF => ⟨_, _, rfl, ?_⟩⟩⟩
    have La : L ≠ a := (ne_of_none ha nL).symm
    have Lp : L ≠ p := (ne_of_none hp nL).symm
    have FL : Fd ≠ L := fun z => by rw [z, upd_same] at nF; cases nF
    have sm := (same_upd (p := L) (o := .lst (zs.map V.str)) nL).trans (same_upd (p := Fd) (o := .lst []) nF)
    have Fa : Fd ≠ a := (ne_of_none ((same_upd (p := L) (o := .lst (zs.map V.str)) nL) _ _ ha) nF).symm
    have Fp : Fd ≠ p := (ne_of_none ((same_upd (p := L) (o := .lst (zs.map V.str)) nL) _ _ hp) nF).symm
    have hL : (upd (upd H L (.lst (zs.map V.str))) Fd (.lst [])) L = some (.lst (zs.map V.str)) := by rw [upd_ne FL.symm, upd_same]
    have hF : (upd (upd H L (.lst (zs.map V.str))) Fd (.lst [])) Fd = some (.lst []) := upd_same
    have nb : ∀ b o, H b = some o → b ≠ L ∧ b ≠ Fd := fun b o e => ⟨ne_of_none e nL, ne_of_none ((same_upd (p := L) (o := .lst (zs.map V.str)) nL) _ _ e) nF⟩
    generalize upd (upd H L _) Fd _ = H2 at sm hL hF ⊢
    have en : (if (((zs.map V.str).length : Nat) : Int) < (n : Int) then (((zs.map V.str).length : Nat) : Int) else (n : Int)) = (n : Int) := by
      rw [List.length_map]
      exact if_neg (by omega)
    refine ⟨_, rfl, _, rfl, p, _, rfl, .inl (SqL.of (sm _ _ hp)), n, _, rfl, (n : Int), by rw [en], by omega, by omega, ?_⟩
    refine for_range (fun m σ' H' => ∃ (x' c' : Int) (ls fs : List Str) (t : Option V), σ' = [some (.ref a), some (.ref p), some (.int n), some (.ref L), some (.ref Fd), t] ∧ H' a = some (.lst [.int x', .int y, .int c']) ∧ Cr x' y c' ∧ c' ≤ c + m ∧ H' L = some (.lst (ls.map V.str)) ∧ H' Fd = some (.lst (fs.map V.str)) ∧ fs.length = m ∧ (fs ++ ls).Perm zs ∧ Grw a H H')
      ⟨x, c, zs, [], none, rfl, sm _ _ ha, C, by omega, hL, hF, rfl, List.Perm.refl _, fun b o _ e => sm _ _ e⟩ (fun m σ' H' hm hP => ?_) (fun σ' H' hP => ?_)
    · obtain ⟨x', c', ls, fs, t, rfl, ha', C', hc', hl', hf', fl, pm, gw⟩ := hP
      have tot := pm.length_eq
      rw [List.length_append] at tot
      have lm : (ls.map V.str).length = ls.length := List.length_map _
      refine ⟨.ref Fd, rfl, .inl ⟨rfl, _, SqL.of hf'⟩, .ref L, rfl, .inl ⟨rfl, _, SqL.of hl'⟩, .ref a, rfl, .ref L, rfl, L, _, rfl, .inl (SqL.of hl'), a, x', y, c', _, rfl, ha', C', by omega, by omega, by omega, fun r x2 c2 h0 h1 C2 l2 => ?_⟩
      rw [lm] at h1
      have hk : r.toNat < ls.length := by omega
      have er : ((r.toNat : Nat) : Int) = r := Int.toNat_of_nonneg h0
      refine ⟨L, ls.map V.str, r, r.toNat, .str (ls[r.toNat]'hk), rfl, rfl, by rw [upd_ne La]; exact hl', by omega, by omega, by rw [lm]; exact seqIndex_of h0 h1, by rw [List.getElem?_map, List.getElem?_eq_getElem hk]; rfl, ?_⟩
      refine ⟨Fd, fs.map V.str, .str (ls[r.toNat]'hk), rfl, rfl, by rw [upd_ne FL, upd_ne Fa]; exact hf', by rw [List.length_map, sizeLine_eq]; omega, ?_⟩
      refine ⟨x2, c2, ls.eraseIdx r.toNat, fs ++ [ls[r.toNat]'hk], _, rfl, ?_, C2, by omega, ?_, ?_, by rw [List.length_append, List.length_singleton]; omega, ?_, fun b o nba e => ?_⟩
      · rw [upd_ne Fa.symm, upd_ne La.symm, upd_same]
      · rw [upd_ne FL.symm, upd_same, erase_map]
      · rw [upd_same, List.map_append]
        rfl
      · rw [List.append_assoc]
        exact (List.Perm.append_left fs (erase_perm hk)).trans pm
      · obtain ⟨n1, n2⟩ := nb b o e
        rw [upd_ne n2, upd_ne n1, upd_ne nba]
        exact gw b o nba e
    · obtain ⟨x', c', ls, fs, t, rfl, ha', C', hc', hl', hf', fl, pm, gw⟩ := hP
      exact ⟨_, rfl, q Fd fs ls x' c' H' (by rw [fl]; omega) pm C' (by omega) ha' gw Fa hf'⟩
end
end K01

set_option autoImplicit false
set_option maxRecDepth 100000
set_option maxHeartbeats 4000000
namespace K01
open PySem PySem.Spec PyProof.Rows L2 KX
abbrev sFrame : Stmt := topS 27
theorem scFrame : FnScope ["_law_parts_here"] ["_law_parts_here"] (defScope sFrame) := ⟨rfl, rfl, rfl, by decide +kernel, rfl, by decide +kernel, by decide +kernel⟩
/-- Frame(..), with its __init__ -/
structure MkF (P : Program) (w : World) (K : PySem.W.Frag) (mg : Str → Option Value) (base : Heap) (C CI : Addr) : Prop where
  gF : mg "Frame" = some (.ref C)
  ex : ∃ (fI : Addr) (fd : FuncData), Mk K C fI ∧ FnOk P w K mg base (L2.CX P w) 5 fI fd ["self", "arrays", "positions", "values"] (spInit C CI) ∧ Binds K fd ["self", "arrays", "positions", "values"] []
def spFrame (C : Addr) : Sp := fun vs H Q _ => ∃ (a : Addr) (v1 v2 v3 : V) (d1 d2 d3 : PyData), vs = [.ref a] ∧ H a = some (.lst [v1, v2, v3]) ∧ Shw H v1 d1 ∧ Shw H v2 d2 ∧ Shw H v3 d3 ∧ gd d1 = true ∧ gd d2 = true ∧ gd d3 = true ∧ isFrame d1 d2 d3 = true ∧
  ∀ (p : Addr) (H' : Hp), Same H H' → FrameAt C H' p v1 v2 v3 (prsD d1) (strsD d2) (strsD d3) → Q (.ref p) H'
section
variable {P : Program} {w : World} {K : PySem.W.Frag} {mg : Str → Option Value} {base : Heap}
theorem ok_frame {f C CI : Addr} {fd : FuncData} (F : Fun K "_law_frame" "_law_frame" sFrame f fd) (M : MkF P w K mg base C CI) : FnOk P w K mg base CX0 7 f fd ["_law_parts_here"] (spFrame C) := by
  obtain ⟨gF, fI, fdI, M, FI, hb⟩ := M
  refine F.ok scFrame (fun vs H Q E h => ?_) (fun cdv A outer s H vs Q E hr h => ?_)
  · obtain ⟨a, v1, v2, v3, d1, d2, d3, rfl, _⟩ := h
    rfl
  · obtain ⟨a, v1, v2, v3, d1, d2, d3, rfl, ha, s1, s2, s3, g1, g2, g3, ok, q⟩ := h
    refine ⟨_, pss_one (ps_ret (pe_make M FI hr (by rfl) gF hb .nil passL (pa_cons (pe_ix ix_list (pv 0) pe_int (fun _ _ => rfl)) (pa_cons (pe_ix ix_list (pv 0) pe_int (fun _ _ => rfl)) (pa_cons (pe_ix ix_list (pv 0) pe_int (fun _ _ => rfl)) pa_nil))))), ?_⟩
    refine ⟨.ref a, rfl, a, _, 0, v1, rfl, rfl, SqL.of ha, rfl, .ref a, rfl, a, _, 1, v2, rfl, rfl, SqL.of ha, rfl, .ref a, rfl, a, _, 2, v3, rfl, rfl, SqL.of ha, rfl, fun x dx nx ndx ne => ?_⟩
    have sm := (same_upd (p := dx) (o := .own x) ndx).trans (same_upd (p := x) (o := .ins C dx []) (by rw [upd_ne ne.symm]; exact nx))
    refine ⟨x, dx, v1, v2, v3, d1, d2, d3, rfl, upd_same, Shw.same s1 sm, Shw.same s2 sm, Shw.same s3 sm, g1, g2, g3, fun z => ?_, fun _ H' kp Fr => ⟨rfl, q x H' (fun b o e => kp b o (sm _ _ e) (ne_of_none e nx)) Fr⟩⟩
    rw [ok] at z
    cases z
end
end K01

set_option autoImplicit false
set_option maxRecDepth 100000
set_option maxHeartbeats 4000000
namespace KX
open PySem PySem.Spec PyProof.Rows L2
/-- C(..) where what __init__ raises is wished for at the caller's slots -/
def tMakeS (C : Addr) (sp : Sp) (E : L2.St → XK) (t : TA) : TE := fun σ H Q => t σ H fun vs H1 => ∀ x dx, H1 x = none → H1 dx = none → dx ≠ x →
  sp (.ref x :: vs) (upd (upd H1 dx (.own x)) x (.ins C dx [])) (fun v H2 => v = .non ∧ Q (.ref x) H2) (E σ)
section
variable {X : Cx} {CX : CXT} {k : Nat} {f C : Addr} {fd : FuncData} {ps : List Str} {sp : Sp} {E : L2.St → XK} {x : Str} {p pos : Pos} {e : Expr} {es : List Expr} {t : TA}
theorem pe_makeS (M : Mk X.K C f) (F : FnOk X.prog X.w X.K X.mg X.base CX k f fd ps sp) (hr : Room (k + 1) X.A) (hg : Gl X x) (hm : X.mg x = some (.ref C)) (hb : Binds X.K fd ps []) (hx : ∀ σ, PassesAt CX X σ (E σ)) (ha : PA X (e :: es) t)
    (hdb : (x == ("__debug__" : Str)) = false := by decide) (he : starEach (e :: es) X.env = (false, eval e X.env) :: starEach es X.env := by rfl) (hpl : (backTo pos (starEach es X.env)).any (·.1) = false := by rfl) :
    PE X (.Call (.Name x p) (e :: es) [] pos) (tMakeS C sp E t) := by
  refine ⟨fun pins s σ H Q I h => wpAny_Call_Name_kw (ld_glob I hg hm ?_ hdb)⟩
  refine PySem.W.callWith_K (h₀ := X.base) I.ok.mod.kin M.kp (thn (ha.run pos pins s σ H _ I h) fun us s1 ⟨vs, H1, I1, r, q⟩ => ⟨I1.kIn, ?_⟩) he hpl
  have n0 := I1.hok.fresh (Nat.le_refl s1.heap.objs.size)
  have n1 := I1.hok.fresh (Nat.le_succ s1.heap.objs.size)
  have asked := q (s1.heap.objs.size + 1) s1.heap.objs.size n1 n0 (Nat.ne_of_lt (Nat.lt_succ_self _))
  have I2 := Inv.made (C := C) I1
  have r2 : Vals (V.ref (s1.heap.objs.size + 1) :: vs) (Value.ref (s1.heap.objs.size + 1) :: us) := .cons rfl r
  have few : (Value.ref (s1.heap.objs.size + 1) :: us ++ []).length = ps.length := by
    rw [List.append_nil, ← r2.length]
    exact F.len _ _ _ _ asked
  have bound := hb _ (Value.ref (s1.heap.objs.size + 1) :: us) I2.kIn few
  rw [List.append_nil] at bound
  refine wpAny_call (make_map (f := f) I1.kIn M.makes M.init (beq_iff_eq.mp M.fn) (codeAny_mono (F.run _ X.stack _ _ ⟨Value.ref (s1.heap.objs.size + 1) :: us, []⟩ _ _ _ (E σ) (hr.make C us []) (I2.env0.make C us []) bound r2 asked) fun a s2 got => ?_))
  cases a with
  | error er => exact hx σ pins _ _ er s2 I2 got
  | ok fl =>
    cases fl with
    | ret u =>
      obtain ⟨v, H3, I3, rv, rfl, last⟩ := I2.after got
      exact ⟨rv, .ref (s1.heap.objs.size + 1), H3, I3, rfl, last⟩
    | next => exact False.elim got
    | brk => exact False.elim got
    | cont => exact False.elim got
end
end KX

set_option autoImplicit false
set_option maxRecDepth 100000
set_option maxHeartbeats 4000000
namespace K01
open PySem PySem.Spec PyProof.Rows L2 KX
abbrev sMet : Stmt := topS 31
theorem scMet : FnScope ["_law_parts_here"] ["_law_parts_here"] (defScope sMet) := ⟨rfl, rfl, rfl, by decide +kernel, rfl, by decide +kernel, by decide +kernel⟩
def spMet (C : Addr) : Sp := fun vs H Q _ => ∃ (a : Addr) (v1 v2 v3 : V) (d1 d2 d3 : PyData), vs = [.ref a] ∧ H a = some (.lst [v1, v2, v3]) ∧ Shw H v1 d1 ∧ Shw H v2 d2 ∧ Shw H v3 d3 ∧ gd d1 = true ∧ gd d2 = true ∧ gd d3 = true ∧
  (isFrame d1 d2 d3 = false → ∀ H', Same H H' → Q .non H') ∧ (isFrame d1 d2 d3 = true → ∀ (p : Addr) (H' : Hp), Same H H' → FrameAt C H' p v1 v2 v3 (prsD d1) (strsD d2) (strsD d3) → Q (.ref p) H')
section
variable {P : Program} {w : World} {K : PySem.W.Frag} {mg : Str → Option Value} {base : Heap}
theorem ok_met {f C CI : Addr} {fd : FuncData} (F : Fun K "_law_met" "_law_met" sMet f fd) (M : MkF P w K mg base C CI) (gI : mg "InvalidFrame" = some (.ref CI)) (kx : PySem.W.exmOne K (.ref CI) (.ref CI) = some true) : FnOk P w K mg base CX0 7 f fd ["_law_parts_here"] (spMet C) := by
  obtain ⟨gF, fI, fdI, M, FI, hb⟩ := M
  refine F.ok scMet (fun vs H Q E h => ?_) (fun cdv A outer s H vs Q E hr h => ?_)
  · obtain ⟨a, v1, v2, v3, d1, d2, d3, rfl, _⟩ := h
    rfl
  · obtain ⟨a, v1, v2, v3, d1, d2, d3, rfl, ha, s1, s2, s3, g1, g2, g3, bad, good⟩ := h
    refine ⟨_, pss_one (ps_try_only (tb := fun W => tRet (tMakeS C (spInit C CI) (WE W) (tCons (tOp (rIxL K) (tVar 0) (tC (.int 0))) (tCons (tOp (rIxL K) (tVar 0) (tC (.int 1))) (tCons (tOp (rIxL K) (tVar 0) (tC (.int 2))) tNil))))) (ts := fun _ _ _ => tRet (tC .non)) (Wout := fun _ _ _ _ => False) rfl rfl ⟨rfl, by decide, Or.inl gI⟩ takes0
      (fun W pn xe tk _ => pss_one (ps_ret (pe_makeS M FI hr (by rfl) gF hb (fun σ => passAt tk σ) (pa_cons (pe_ix ix_list (pv 0) pe_int (fun _ _ => rfl)) (pa_cons (pe_ix ix_list (pv 0) pe_int (fun _ _ => rfl)) (pa_cons (pe_ix ix_list (pv 0) pe_int (fun _ _ => rfl)) pa_nil))))))
      (fun _ _ _ _ _ _ _ => pss_one (ps_ret pe_non))), ?_⟩
    refine ⟨.ref a, rfl, a, _, 0, v1, rfl, rfl, SqL.of ha, rfl, .ref a, rfl, a, _, 1, v2, rfl, rfl, SqL.of ha, rfl, .ref a, rfl, a, _, 2, v3, rfl, rfl, SqL.of ha, rfl, fun x dx nx ndx ne => ?_⟩
    have sm := (same_upd (p := dx) (o := .own x) ndx).trans (same_upd (p := x) (o := .ins C dx []) (by rw [upd_ne ne.symm]; exact nx))
    exact ⟨x, dx, v1, v2, v3, d1, d2, d3, rfl, upd_same, Shw.same s1 sm, Shw.same s2 sm, Shw.same s3 sm, g1, g2, g3, fun z H' w' => ⟨true, kx, fun _ _ _ => bad z H' (sm.trans w'), fun e => nomatch e⟩,
      fun z H' kp Fr => ⟨rfl, good z x H' (fun b o e => kp b o (sm _ _ e) (ne_of_none e nx)) Fr⟩⟩
end
end K01

set_option autoImplicit false
set_option maxRecDepth 100000
set_option maxHeartbeats 4000000
namespace K01
open PySem PySem.Spec PyProof.Rows L2 KX
/-! data without dicts, not deep -/
def lowD (d : PyData) : Prop := PyData.canLay0 d = true ∧ PyData.depth d ≤ 20
theorem lay_all {ds : List PyData} (h : ∀ d ∈ ds, PyData.canLay0 d = true) : PyData.canLayAll0 ds = true := by
  induction ds with
  | nil => rfl
  | cons d ds ih => simp only [PyData.canLayAll0, h d List.mem_cons_self, ih fun y hy => h y (List.mem_cons_of_mem _ hy), Bool.and_self]
theorem depth_all {n : Nat} {ds : List PyData} (h : ∀ d ∈ ds, PyData.depth d ≤ n) : PyData.depthAll ds ≤ n := by
  induction ds with
  | nil => exact Nat.zero_le _
  | cons d ds ih =>
    have a := h d List.mem_cons_self
    have b := ih fun y hy => h y (List.mem_cons_of_mem _ hy)
    simp only [PyData.depthAll]
    omega
theorem low_list {ds : List PyData} (h : ∀ d ∈ ds, lowD d) : SeqAt.shaped (.list ds) = true := by
  have c : PyData.canLay0 (.list ds) = true := by
    simp only [PyData.canLay0]
    exact lay_all fun d hd => (h d hd).1
  have d : PyData.depth (.list ds) ≤ 64 := by
    have := depth_all fun d hd => (h d hd).2
    simp only [PyData.depth]
    omega
  unfold SeqAt.shaped
  rw [c, decide_eq_true d]
  rfl
theorem eqv_nil (ds : List PyData) : PyData.eqv (.list ds) (.list []) = ds.isEmpty := by
  cases ds <;> simp [PyData.eqv, PyData.eqvAll]
theorem ShwAll.snoc {H : Hp} : ∀ {vs : List V} {ds : List PyData} {v : V} {d : PyData}, ShwAll H vs ds → Shw H v d → ShwAll H (vs ++ [v]) (ds ++ [d])
  | _, _, _, _, .nil, s => .cons s .nil
  | _, _, _, _, .cons a r, s => .cons a (ShwAll.snoc r s)
/-- a comprehension over a tuple of data that keeps some of them -/
theorem lc_tupF {K : PySem.W.Frag} {a : Addr} {xs : List V} {ds : List PyData} {g : TG} {tt : TT} {te : TE} {vs : List Nat} {σ : L2.St} {H1 : Hp} {D : Addr} {Qd : Hp → Prop} (T : PyData → Bool) (hx : H1 a = some (.tup xs)) (n : H1 D = none) (few : xs.length ≤ 100000) (sh : ShwAll H1 xs ds)
    (step : ∀ (x : V) (d : PyData) (H' : Hp) (QY : VK) (QN : Hp → Prop), d ∈ ds → Shw H' x d → Same H1 H' → (T d = true → ∀ H4, Same H' H4 → QY x H4) → (T d = false → ∀ H4, Same H' H4 → QN H4) →
      g x (wipe σ vs) H' fun σ2 H2 => wipe σ2 vs = wipe σ vs ∧ tt σ2 H2 fun b H3 => if b = true then te σ2 H3 QY else QN H3)
    (fin : ∀ H' ys, Same H1 H' → H' D = some (.lst ys) → ShwAll H' ys (ds.filter T) → Qd H') :
    ∃ W : Nat → Nat → Hp → Prop, (∃ m, W 0 m (upd H1 D (.lst []))) ∧ ∀ i m H, W i m H →
      ((Itt K a).stop i H ∧ Qd H) ∨ ((Itt K a).go i H ∧ ∃ Nx : Hp → Prop, (∀ H', Nx H' → ∃ m', m' < m ∧ W (i + 1) m' H') ∧ ∀ x H', (Itt K a).yld i H x H' → g x (wipe σ vs) H' fun σ2 H2 => wipe σ2 vs = wipe σ vs ∧ tt σ2 H2 fun b H3 =>
        if b = true then te σ2 H3 fun y H4 => ∃ acc, H4 D = some (.lst acc) ∧ acc.length < sizeLine ∧ Nx (upd H4 D (.lst (acc ++ [y]))) else Nx H3) := by
  have ln := ShwAll.len sh
  refine lc_tup (K := K) (a := a) (xs := xs) (fun m H' => Same H1 H' ∧ ∃ ys, H' D = some (.lst ys) ∧ ShwAll H1 ys ((ds.take m).filter T)) ⟨same_upd n, [], upd_same, by rw [List.take_zero]; exact .nil⟩ (fun m H' _ hP => SqT.of (hP.1 _ _ hx)) (fun m x H' hm hP => ?_) (fun H' hP => ?_)
  · obtain ⟨s1, ys, d1, sy⟩ := hP
    obtain ⟨d, hd, sd⟩ := ShwAll.get sh hm
    have nx : (ds.take (m + 1)).filter T = (ds.take m).filter T ++ (if T d = true then [d] else []) := by
      rw [List.take_add_one, hd, List.filter_append]
      congr 1
      cases e : T d <;> simp [e]
    refine step x d H' _ _ (List.mem_of_getElem? hd) (Shw.same sd s1) s1 (fun e H4 s4 => ⟨ys, s4 _ _ d1, ?_, fun b o z => ?_, ys ++ [x], upd_same, ?_⟩) (fun e H4 s4 => ⟨s1.trans s4, ys, s4 _ _ d1, ?_⟩)
    · have l2 := ShwAll.len sy
      have l3 : ((ds.take m).filter T).length ≤ (ds.take m).length := List.length_filter_le _ _
      rw [List.length_take] at l3
      rw [sizeLine_eq]
      omega
    · rw [upd_ne (ne_of_none z n)]
      exact s4 _ _ (s1 _ _ z)
    · rw [nx, if_pos e]
      exact ShwAll.snoc sy sd
    · rw [nx, if_neg (by rw [e]; exact Bool.false_ne_true), List.append_nil]
      exact sy
  · obtain ⟨s1, ys, d1, sy⟩ := hP
    rw [ln, List.take_length] at sy
    exact fin H' ys s1 d1 (ShwAll.same sy s1)
/-! strip by letters -/
theorem takeW_len {p : Nat → Bool} : ∀ (l : List Nat), l.all p = false → (l.takeWhile p).length < l.length
  | [], h => nomatch h
  | c :: l, h => by
    rw [List.takeWhile_cons]
    rw [List.all_cons] at h
    cases e : p c with
    | false => rw [if_neg Bool.false_ne_true]; exact Nat.succ_pos _
    | true =>
      rw [e, Bool.true_and] at h
      rw [if_pos rfl, List.length_cons, List.length_cons]
      exact Nat.succ_lt_succ (takeW_len l h)
theorem takeW_all {p : Nat → Bool} : ∀ (l : List Nat), l.all p = true → l.takeWhile p = l
  | [], _ => rfl
  | c :: l, h => by
    rw [List.all_cons, Bool.and_eq_true] at h
    rw [List.takeWhile_cons, if_pos h.1, takeW_all l h.2]
theorem drop_takeW {p : Nat → Bool} : ∀ (l : List Nat) (c : Nat) , (l.drop (l.takeWhile p).length).head? = some c → p c = false
  | [], c, h => by simp at h
  | x :: l, c, h => by
    rw [List.takeWhile_cons] at h
    cases e : p x with
    | false =>
      rw [e, if_neg Bool.false_ne_true] at h
      have : x = c := Option.some.inj h
      rw [← this]
      exact e
    | true =>
      rw [e, if_pos rfl] at h
      exact drop_takeW l c h
theorem stripBy_empty (p : Nat → Bool) (z : Str) : decide (Txt.stripBy p true true z = Str.empty) = z.cps.toList.all p := by
  rw [stripBy_eq]
  have lz : z.length = z.cps.toList.length := by simp [Str.length]
  cases e : z.cps.toList.all p with
  | true =>
    refine decide_eq_true ?_
    have e1 : stripLo p true z = z.length := by
      unfold stripLo
      rw [if_pos rfl, takeW_all _ e, lz]
    have e2 : stripHi p true z z.length ≤ z.length := by
      unfold stripHi
      rw [if_pos rfl]
      exact Nat.sub_le _ _
    rw [e1]
    refine TL.ext_tl ?_
    show (Builtin.Str.strSub z z.length (stripHi p true z z.length)).cps.toList = _
    rw [PySem.StrLaws.strSub_toList, Nat.sub_eq_zero_of_le e2, List.take_zero]
    rfl
  | false =>
    refine decide_eq_false fun h => ?_
    have e1 := takeW_len _ e
    have lo : stripLo p true z = (z.cps.toList.takeWhile p).length := by
      unfold stripLo
      rw [if_pos rfl]
    have hi : stripLo p true z < stripHi p true z (stripLo p true z) := by
      have nf : ((z.cps.toList.drop (stripLo p true z)).reverse).all p = false := by
        rw [List.all_reverse]
        cases e3 : z.cps.toList.drop (stripLo p true z) with
        | nil =>
          have := congrArg List.length e3
          rw [List.length_drop, lo] at this
          simp only [List.length_nil] at this
          omega
        | cons c r =>
          have : p c = false := drop_takeW z.cps.toList c (by rw [← lo, e3]; rfl)
          rw [List.all_cons, this, Bool.false_and]
      have e4 := takeW_len _ nf
      rw [List.length_reverse, List.length_drop] at e4
      unfold stripHi
      rw [if_pos rfl]
      rw [lo] at e4 ⊢
      omega
    have h2 : stripHi p true z (stripLo p true z) ≤ z.length := by
      unfold stripHi
      rw [if_pos rfl]
      exact Nat.sub_le _ _
    have l3 := size_strSub z (stripLo p true z) (stripHi p true z (stripLo p true z)) h2
    rw [h] at l3
    have : Str.empty.length = 0 := by decide +kernel
    omega
theorem strip_letters (z : Str) : decide (Txt.stripChars z "abcdefghijklmnopqrstuvwxyz" = "") = z.cps.toList.all isLet := by
  have e : (fun c => ("abcdefghijklmnopqrstuvwxyz" : Str).cps.contains c) = isLet := by
    funext c
    rw [← letter_in]
    simp [Array.contains_iff_mem]
  have e2 : ("" : Str) = Str.empty := by decide +kernel
  rw [e2]
  unfold Txt.stripChars
  rw [stripBy_empty]
  exact congrArg (fun p => z.cps.toList.all p) e
end K01

set_option autoImplicit false
set_option maxRecDepth 100000
set_option maxHeartbeats 4000000
namespace K01
open PySem PySem.Spec PyProof.Rows L2 KX
abbrev sLNames : Stmt := topS 29
abbrev nLNames : List Str := ["_law_value", "_law_one"]
theorem scLNames : FnScope nLNames ["_law_value"] (defScope sLNames) := ⟨rfl, rfl, rfl, by decide +kernel, rfl, by decide +kernel, by decide +kernel⟩
/-- a tuple of names, of any length -/
def areN : PyData → Bool
  | .tuple ds => ds.all isNm
  | _ => false
def isStrP : PyData → Bool
  | .str _ => true
  | _ => false
/-- what is in a tuple has no dict and is not deep -/
def lowIn : PyData → Prop
  | .tuple ds => ∀ d ∈ ds, lowD d
  | _ => True
def badN : PyData → Bool
  | .str z => !nameS z
  | _ => true
def spLNames : Sp := fun vs H Q _ => ∃ (v : V) (d : PyData), vs = [v] ∧ Shw H v d ∧ gd d = true ∧ lowIn d ∧ ∀ H', Same H H' → Q (.bl (areN d)) H'
theorem filter_all (T : PyData → Bool) (ds : List PyData) : (ds.filter T).isEmpty = ds.all fun d => !T d := by
  induction ds with
  | nil => rfl
  | cons d ds ih =>
    rw [List.filter_cons, List.all_cons, ← ih]
    cases T d <;> rfl
theorem name_split (z : Str) : (!nameS z) = ((!decide (0 < (z.length : Int) ∧ (z.length : Int) < 9)) || !decide (Txt.stripChars z "abcdefghijklmnopqrstuvwxyz" = "")) := by
  rw [strip_letters]
  unfold nameS
  rw [Bool.not_and]
  congr 1
  exact congrArg _ (decide_eq_decide.mpr (by omega))
section
variable {P : Program} {w : World} {K : PySem.W.Frag} {mg : Str → Option Value} {base : Heap}
theorem kit_strP (d : PyData) : kitB (tyD d) "str" = some (isStrP d) := by
  have a : (["NoneType", "bool", "int", "tuple", "list", "dict"].all fun t => kitB t "str" == some false) = true := by decide +kernel
  have b := fun t h => beq_iff_eq.mp (List.all_eq_true.mp a t h)
  cases d with
  | str ds => show kitB "str" "str" = some true; decide +kernel
  | none => exact b "NoneType" (by simp)
  | bool _ => exact b "bool" (by simp)
  | int _ => exact b "int" (by simp)
  | tuple _ => exact b "tuple" (by simp)
  | list _ => exact b "list" (by simp)
  | dict _ => exact b "dict" (by simp)
theorem ok_lnames {f : Addr} {fd : FuncData} (F : Fun K "_law_are_names" "_law_are_names" sLNames f fd) (B : Free mg) : FnOk P w K mg base CX0 1 f fd ["_law_value"] spLNames := by
  refine F.ok scLNames (fun vs H Q E h => ?_) (fun cdv A outer s H vs Q E hr h => ?_)
  · obtain ⟨v, d, rfl, _⟩ := h
    rfl
  · obtain ⟨v, d, rfl, sh, g, low, q⟩ := h
    refine ⟨_, pss_cons (ps_if (PW.pt (pw_or (pt_not (pt_val (pe_callB call_isi (by rfl) B.isinstance (by decide +kernel) (pa_cons (pv 0) (pa_cons (pe_bltn (v := .ty "tuple") (by rfl) B.tuple (by decide +kernel) rfl) pa_nil)))))
          (pw_or1 (pt_cmpR (op_neD hr.units) (pe_lc (own := [("_law_one", 1)]) (g := gName 1) rfl scLNames.nd (pi_tup (pv 0)) (blkOk_by (N := nLNames) (sc := defScope sLNames) (by decide +kernel))
            (fun _ _ _ _ _ => pg_name (i := 1) scLNames.nd rfl (Or.inl rfl)) (fun _ _ _ _ _ => pts_one (pt_not (pt_val (pe_callB (id := "isinstance") (r := rIsi K) call_isi (by rfl) B.isinstance (by decide +kernel) (pa_cons (pv 1) (pa_cons (pe_bltn (v := .ty "str") (by rfl) B.str (by decide +kernel) rfl) pa_nil))))))
            (fun _ _ _ _ _ => pv 1)) (pe_lst pa_nil) (nomark _)))))
        (pss_one (ps_ret pe_bl)) pss_nil)
      (pss_one (ps_ret (pe_cmpR (op_eqD hr.units) (pe_lc (own := [("_law_one", 1)]) (g := gName 1) rfl scLNames.nd (pi_tup (pv 0)) (blkOk_by (N := nLNames) (sc := defScope sLNames) (by decide +kernel))
            (fun _ _ _ _ _ => pg_name (i := 1) scLNames.nd rfl (Or.inl rfl))
            (fun _ _ _ _ _ => pts_one (PW.pt (pw_or (pt_not (pt_chain op_lt op_lt pe_int (pe_callB call_len_str (by rfl) B.len PySem.boot_len (pa_cons (pv 1) pa_nil)) pe_int))
              (pw_or1 (pt_cmpR op_ne (pe_m1 PySem.F.slot_str_strip PySem.F.type_str_strip mt_stripChars (pv 1) pe_str) pe_str (nomark _))))))
            (fun _ _ _ _ _ => pv 1)) (pe_lst pa_nil) (nomark _)))), ?_⟩
    refine ⟨v, rfl, v, .ty "tuple", _, _, isTup d, rfl, .ty _, shw_ty sh, kit_ty (kit_tup d), isTup d, rfl, ?_⟩
    cases sh with
    | non => exact q H (Same.refl H)
    | bl b => exact q H (Same.refl H)
    | int i => exact q H (Same.refl H)
    | str x => exact q H (Same.refl H)
    | lst e _ => exact q H (Same.refl H)
    | dct e => exact q H (Same.refl H)
    | @tup a xs ds e ha =>
      have ln := ShwAll.len ha
      simp only [gd, Bool.and_eq_true, decide_eq_true_eq] at g
      refine ⟨.ref a, rfl, a, rfl, ⟨_, SqT.of e⟩, fun D nD => ?_⟩
      refine lc_tupF (K := K) (fun d => !isStrP d) e nD (by omega) ha (fun x d H' QY QN hd sd s1 y n => ?_) (fun H1 ys s1 d1 sy => ?_)
      · refine ⟨rfl, x, rfl, x, .ty "str", _, _, isStrP d, rfl, .ty _, shw_ty sd, kit_ty (kit_strP d), isStrP d, rfl, ?_⟩
        cases e2 : isStrP d with
        | true => exact iteF (n (by rw [e2]; rfl) H' (Same.refl _))
        | false => exact iteT ⟨_, rfl, y (by rw [e2]; rfl) H' (Same.refl _)⟩
      · refine ⟨(by rw [sizeLine_eq]; decide), fun N nN => ?_⟩
        have s2 := same_upd (p := N) (o := .lst []) nN
        have low1 : ∀ d ∈ ds.filter (fun d => !isStrP d), lowD d := fun d hd => low d (List.mem_filter.mp hd).1
        have z1 := low_list low1
        have z2 : SeqAt.shaped (.list []) = true := low_list fun d hd => nomatch hd
        refine ⟨.list (ds.filter fun d => !isStrP d), .list [], .lst (SqL.of (s2 _ _ d1)) (ShwAll.dp (SeqAt.canLay_of_shaped z1) (ShwAll.same sy s2)), .lst (SqL.of upd_same) .nil, z1, z2, _, rfl, ?_⟩
        rw [eqv_nil, filter_all]
        cases e3 : ds.all fun d => !!isStrP d with
        | false =>
          refine iteT ?_
          have en : areN (.tuple ds) = false := by
            show ds.all isNm = false
            rw [← Bool.not_eq_true] at e3 ⊢
            refine fun h => e3 (List.all_eq_true.mpr fun d hd => ?_)
            have := List.all_eq_true.mp h d hd
            rw [isNm_str this]
            rfl
          have z := q _ (s1.trans s2)
          rw [en] at z
          exact z
        | true =>
          refine iteF ?_
          have s12 := s1.trans s2
          refine ⟨.ref a, rfl, a, rfl, ⟨_, SqT.of (s12 _ _ e)⟩, fun D2 nD2 => ?_⟩
          refine lc_tupF (K := K) (fun d => !isNm d) (s12 _ _ e) nD2 (by omega) (ShwAll.same ha s12) (fun x d H' QY QN hd sd s3 y n => ?_) (fun H3 ys2 s3 d3 sy3 => ?_)
          · have st : isStrP d = true := by
              have := List.all_eq_true.mp e3 d hd
              rw [Bool.not_not] at this
              exact this
            have gdd := gdAll_mem g.2 hd
            cases sd with
            | str z =>
              have lz : z.length ≤ 1000 := by
                simp only [gd, Bool.and_eq_true, decide_eq_true_eq] at gdd
                exact gdd.1
              have spl := name_split z
              refine ⟨rfl, .str z, rfl, z, rfl, Nat.le_trans lz (by decide), 0, _, rfl, rfl, _, rfl, ?_⟩
              have hy : (!nameS z) = true → QY (.str z) H' := fun h => y h H' (Same.refl _)
              have hn : (!nameS z) = false → QN H' := fun h => n h H' (Same.refl _)
              rw [spl] at hy hn
              refine ite2 (fun e1 => ?_) (fun e1 => ?_)
              · have h1 : (0 : Int) < z.length := of_decide_eq_true e1
                refine ⟨_, _, rfl, rfl, _, rfl, ?_⟩
                by_cases h2 : (z.length : Int) < 9
                · rw [decide_eq_true (show (0 : Int) < (z.length : Int) ∧ (z.length : Int) < 9 from ⟨h1, h2⟩)] at hy hn
                  rw [decide_eq_true h2]
                  refine ⟨.str z, rfl, ⟨z, rfl⟩, z, _, rfl, rfl, Nat.le_trans lz (by decide), rfl, _, rfl, ?_⟩
                  have ev : decide (V.str (Txt.stripChars z (Str.ofString "abcdefghijklmnopqrstuvwxyz")) = V.str (Str.ofString "")) = decide (Txt.stripChars z "abcdefghijklmnopqrstuvwxyz" = "") := decide_eq_decide.mpr ⟨fun k => V.str.inj k, fun k => congrArg V.str k⟩
                  rw [ev]
                  rw [Bool.not_true, Bool.false_or] at hy hn
                  cases e2 : (!decide (Txt.stripChars z "abcdefghijklmnopqrstuvwxyz" = "")) with
                  | true => exact iteT ⟨_, rfl, hy e2⟩
                  | false => exact iteF (hn e2)
                · rw [decide_eq_false (show ¬ ((0 : Int) < (z.length : Int) ∧ (z.length : Int) < 9) from fun k => h2 k.2)] at hy hn
                  rw [decide_eq_false h2]
                  exact iteT ⟨_, rfl, hy rfl⟩
              · have h1 : ¬ (0 : Int) < z.length := fun k => e1 (decide_eq_true k)
                rw [decide_eq_false (show ¬ ((0 : Int) < (z.length : Int) ∧ (z.length : Int) < 9) from fun k => h1 k.1)] at hy hn
                exact ⟨_, rfl, ⟨_, rfl, hy rfl⟩⟩
            | non => cases st
            | bl b => cases st
            | int i => cases st
            | lst e _ => cases st
            | tup e _ => cases st
            | dct e => cases st
          · refine ⟨(by rw [sizeLine_eq]; decide), fun N3 nN3 => ?_⟩
            have s4 := same_upd (p := N3) (o := .lst []) nN3
            have low3 : ∀ d ∈ ds.filter (fun d => !isNm d), lowD d := fun d hd => low d (List.mem_filter.mp hd).1
            have z3 := low_list low3
            refine ⟨.list (ds.filter fun d => !isNm d), .list [], .lst (SqL.of (s4 _ _ d3)) (ShwAll.dp (SeqAt.canLay_of_shaped z3) (ShwAll.same sy3 s4)), .lst (SqL.of upd_same) .nil, z3, z2, ?_⟩
            have en : PyData.eqv (.list (ds.filter fun d => !isNm d)) (.list []) = areN (.tuple ds) := by
              rw [eqv_nil, filter_all]
              show (ds.all fun d => !!isNm d) = ds.all isNm
              simp only [Bool.not_not]
            rw [en]
            exact q _ ((s12.trans s3).trans s4)
end
end K01

set_option autoImplicit false
set_option maxRecDepth 100000
set_option maxHeartbeats 4000000
namespace K01
open PySem PySem.Spec PyProof.Rows L2 KX
abbrev sLParts : Stmt := topS 30
abbrev nLParts : List Str := ["_law_parts_here", "_law_arrays", "_law_positions", "_law_values", "_law_one", "_law_names"]
theorem scLParts : FnScope nLParts ["_law_parts_here"] (defScope sLParts) := ⟨rfl, rfl, rfl, by decide +kernel, rfl, by decide +kernel, by decide +kernel⟩
theorem low_in {d : PyData} (h : lowD d) : lowIn d := by
  cases d with
  | tuple ds =>
    obtain ⟨h1, h2⟩ := h
    have a : PyData.canLayAll0 ds = true := by simpa only [PyData.canLay0] using h1
    have b : PyData.depthAll ds ≤ 20 := by
      simp only [PyData.depth] at h2
      omega
    clear h1 h2
    show ∀ d ∈ ds, lowD d
    induction ds with
    | nil => exact fun d hd => nomatch hd
    | cons y ys ih =>
      simp only [PyData.canLayAll0, Bool.and_eq_true] at a
      simp only [PyData.depthAll] at b
      intro d hd
      rcases List.mem_cons.mp hd with rfl | hd
      · exact ⟨a.1, by omega⟩
      · exact ih a.2 (by omega) d hd
  | _ => exact True.intro
theorem areNm_is (n : Nat) (d : PyData) : areNm n d = (decide (lenD d ≤ n) && areN d) := by
  cases d with
  | tuple ds => rfl
  | _ => show false = (_ && false); rw [Bool.and_false]
theorem isPr_is (d : PyData) : isPr d = (areN d && decide (lenD d = 2)) := by
  unfold isPr
  rw [areNm_is]
  by_cases h : lenD d = 2
  · rw [decide_eq_true h, decide_eq_true (show lenD d ≤ 2 by omega), Bool.true_and]
  · rw [decide_eq_false h, Bool.and_false, Bool.and_false]
theorem areN_is {d : PyData} (h : areN d = true) : d = .tuple ((strsD d).map PyData.str) ∧ (strsD d).length = lenD d := by
  obtain ⟨e, _⟩ := names_are (n := lenD d) (d := d) (by rw [areNm_is, h, decide_eq_true (Nat.le_refl _)]; rfl)
  refine ⟨e, ?_⟩
  cases d with
  | tuple ds => show (ds.map txtD).length = ds.length; rw [List.length_map]
  | _ => cases h
theorem prs_is {ds : List PyData} (h : ds.all isPr = true) : PyData.tuple ds = .tuple ((prsD (.tuple ds)).map prD) := by
  show PyData.tuple ds = .tuple ((ds.map pairD).map prD)
  rw [List.map_map]
  congr 1
  refine (List.map_id ds).symm.trans (List.map_congr_left fun y hy => ?_)
  exact pair_is (List.all_eq_true.mp h y hy)
def spLParts : Sp := fun vs H Q _ => ∃ (a : Addr) (v1 v2 v3 : V) (d1 d2 d3 : PyData), vs = [.ref a] ∧ H a = some (.lst [v1, v2, v3]) ∧ Shw H v1 d1 ∧ Shw H v2 d2 ∧ Shw H v3 d3 ∧ gd d1 = true ∧ gd d2 = true ∧ gd d3 = true ∧ lowIn d1 ∧ lowIn d2 ∧ lowIn d3 ∧ lenD d1 ≤ 200 ∧ lenD d2 ≤ 200 ∧ lenD d3 ≤ 200 ∧
  ∀ H', Same H H' → Q (.bl (isFrame d1 d2 d3)) H'
section
variable {P : Program} {w : World} {K : PySem.W.Frag} {mg : Str → Option Value} {base : Heap}
theorem ok_lparts {f : Addr} {fd : FuncData} (F : Fun K "_law_are_parts" "_law_are_parts" sLParts f fd) (N : Fnc P w K mg base CX0 1 "_law_are_names" ["_law_value"] spLNames) (L : Fnc P w K mg base CX0 2 "_law_all_of" ["_law_parts_here"] spAll) (B : Free mg) : FnOk P w K mg base CX0 3 f fd ["_law_parts_here"] spLParts := by
  refine F.ok scLParts (fun vs H Q E h => ?_) (fun cdv A outer s H vs Q E hr h => ?_)
  · obtain ⟨a, v1, v2, v3, d1, d2, d3, rfl, _⟩ := h
    rfl
  · obtain ⟨a, v1, v2, v3, d1, d2, d3, rfl, ha, s1, s2, s3, g1, g2, g3, w1, w2, w3, l1, l2, l3, q⟩ := h
    refine ⟨_, pss_cons (ps_asg (pv 0) (pg_lst rfl (pgs_cons (pg_name (i := 1) scLParts.nd rfl (Or.inl rfl)) (pgs_cons (pg_name (i := 2) scLParts.nd rfl (Or.inl rfl)) (pgs_cons (pg_name (i := 3) scLParts.nd rfl (Or.inl rfl)) pgs_nil)))))
      (pss_cons (ps_if (PW.pt (pw_or (pt_not (pt_val (pe_callB call_isi (by rfl) B.isinstance (by decide +kernel) (pa_cons (pv 1) (pa_cons (pe_bltn (v := .ty "tuple") (by rfl) B.tuple (by decide +kernel) rfl) pa_nil)))))
          (pw_or1 (pt_cmpR (op_neD hr.units) (pe_lc (own := [("_law_one", 4)]) (g := gName 4) rfl scLParts.nd (pi_tup (pv 1)) (blkOk_by (N := nLParts) (sc := defScope sLParts) (by decide +kernel))
            (fun _ _ _ _ _ => pg_name (i := 4) scLParts.nd rfl (Or.inl rfl)) (fun _ _ _ _ _ => pts_one (PW.pt (pw_or (pt_not (pt_val (pe_fnc N hr (by omega) (by rfl) pass0 (pa_cons (pv 4) pa_nil))))
              (pw_or1 (pt_cmpR op_ne (pe_callB (r := rLen K) call_len_seq (by rfl) B.len PySem.boot_len (pa_cons (pv 4) pa_nil)) pe_int (nomark _))))))
            (fun _ _ _ _ _ => pv 4)) (pe_lst pa_nil) (nomark _)))))
        (pss_one (ps_ret pe_bl)) pss_nil)
      (pss_cons (ps_if (PW.pt (pw_or (pt_not (pt_val (pe_fnc N hr (by omega) (by rfl) pass0 (pa_cons (pv 2) pa_nil)))) (pw_or1 (pt_not (pt_val (pe_fnc N hr (by omega) (by rfl) pass0 (pa_cons (pv 3) pa_nil)))))))
        (pss_one (ps_ret pe_bl)) pss_nil)
      (pss_cons (ps_set (i := 5) scLParts.nd rfl (.inl rfl) (pe_fnc L hr (by omega) (by rfl) pass0 (pa_cons (pv 0) pa_nil)))
      (pss_one (ps_ret (pe_and (pe_cmpR op_eq (pe_lenWords (by rfl) B.len (by rfl) B.set (pv 5)) (pe_callB call_len_seq (by rfl) B.len PySem.boot_len (pa_cons (pv 5) pa_nil)) (nomark _))
        (pe_and (pe_cmpR op_lt (pe_callB call_len_seq (by rfl) B.len PySem.boot_len (pa_cons (pv 1) pa_nil)) pe_int (nomark _))
        (pe_and (pe_cmpR op_lt (pe_callB call_len_seq (by rfl) B.len PySem.boot_len (pa_cons (pv 2) pa_nil)) pe_int (nomark _))
        (pe_one (pe_cmpR op_lt (pe_callB call_len_seq (by rfl) B.len PySem.boot_len (pa_cons (pv 3) pa_nil)) pe_int (nomark _))))))))))), ?_⟩
    have nope : areArr d1 = false → Q (.bl false) H → Q (.bl false) H := fun _ z => z
    have fr1 : areArr d1 = false → isFrame d1 d2 d3 = false := fun e => by
      unfold isFrame
      rw [e, Bool.false_and]
    refine ⟨.ref a, rfl, a, _, rfl, SqL.of ha, rfl, _, _, rfl, _, _, rfl, _, _, rfl, rfl, ?_⟩
    refine ⟨v1, rfl, v1, .ty "tuple", _, _, isTup d1, rfl, .ty _, shw_ty s1, kit_ty (kit_tup d1), isTup d1, rfl, ?_⟩
    have odd : isFrame d1 d2 d3 = false → Q (.bl false) H := fun e => by
      have z := q H (Same.refl H)
      rw [e] at z
      exact z
    cases s1 with
    | non => exact odd rfl
    | bl b => exact odd rfl
    | int i => exact odd rfl
    | str x => exact odd rfl
    | lst e _ => exact odd rfl
    | dct e => exact odd rfl
    | @tup b xs ds e hb =>
      have ln := ShwAll.len hb
      have gs := g1
      simp only [gd, Bool.and_eq_true, decide_eq_true_eq] at gs
      refine ⟨.ref b, rfl, b, rfl, ⟨_, SqT.of e⟩, fun D nD => ?_⟩
      refine lc_tupF (K := K) (fun d => !isPr d) e nD (by omega) hb (fun x d H' QY QN hd sd s4 y n => ?_) (fun H4 ys s4 d4 sy => ?_)
      · refine ⟨rfl, x, rfl, x, d, rfl, sd, gdAll_mem gs.2 hd, low_in (w1 d hd), fun H5 s5 => ⟨_, rfl, ?_⟩⟩
        cases e1 : areN d with
        | false =>
          refine iteT ⟨_, rfl, y ?_ H5 s5⟩
          rw [isPr_is, e1]
          rfl
        | true =>
          refine iteF ?_
          cases Shw.same sd s5 with
          | @tup c zs es e5 hc =>
            have lc := ShwAll.len hc
            refine ⟨.ref c, rfl, c, zs, rfl, .inr (SqT.of e5), rfl, _, rfl, ?_⟩
            have ev : (!decide (V.int (zs.length : Int) = V.int 2)) = !isPr (.tuple es) := by
              rw [isPr_is, e1, Bool.true_and]
              refine congrArg _ (decide_eq_decide.mpr ⟨fun z => ?_, fun z => ?_⟩)
              · have := V.int.inj z
                show es.length = 2
                omega
              · have z' : es.length = 2 := z
                rw [lc, z']
                rfl
            rw [ev]
            cases e2 : isPr (.tuple es) with
            | false => exact iteT ⟨_, rfl, y (by rw [e2]; rfl) H5 s5⟩
            | true => exact iteF (n (by rw [e2]; rfl) H5 s5)
          | _ => cases e1
      · refine ⟨(by rw [sizeLine_eq]; decide), fun N nN => ?_⟩
        have s5 := same_upd (p := N) (o := .lst []) nN
        have low1 : ∀ d ∈ ds.filter (fun d => !isPr d), lowD d := fun d hd => w1 d (List.mem_filter.mp hd).1
        have z1 := low_list low1
        have z2 : SeqAt.shaped (.list []) = true := low_list fun d hd => nomatch hd
        refine ⟨.list (ds.filter fun d => !isPr d), .list [], .lst (SqL.of (s5 _ _ d4)) (ShwAll.dp (SeqAt.canLay_of_shaped z1) (ShwAll.same sy s5)), .lst (SqL.of upd_same) .nil, z1, z2, _, rfl, ?_⟩
        rw [eqv_nil, filter_all]
        have s45 := s4.trans s5
        cases e3 : ds.all fun d => !!isPr d with
        | false =>
          refine iteT ?_
          have en : isFrame (.tuple ds) d2 d3 = false := fr1 (by
            show (decide (ds.length ≤ 12) && ds.all isPr) = false
            have : ds.all isPr = false := by
              rw [← e3]
              simp only [Bool.not_not]
            rw [this, Bool.and_false])
          have z := q _ s45
          rw [en] at z
          exact z
        | true =>
          refine iteF ?_
          have ap : ds.all isPr = true := by
            rw [← e3]
            simp only [Bool.not_not]
          refine ⟨v2, rfl, v2, d2, rfl, Shw.same s2 s45, g2, w2, fun H6 s6 => ⟨_, rfl, ?_⟩⟩
          have s456 := s45.trans s6
          cases n2 : areN d2 with
          | false =>
            refine iteT ?_
            have en : isFrame (.tuple ds) d2 d3 = false := by
              unfold isFrame
              rw [areNm_is, n2, Bool.and_false, Bool.false_and, Bool.and_false]
            have z := q _ s456
            rw [en] at z
            exact z
          | true =>
            refine iteF ⟨v3, rfl, v3, d3, rfl, Shw.same s3 s456, g3, w3, fun H7 s7 => ⟨_, rfl, ?_⟩⟩
            have s47 := s456.trans s7
            cases n3 : areN d3 with
            | false =>
              refine iteT ?_
              have en : isFrame (.tuple ds) d2 d3 = false := by
                unfold isFrame
                rw [areNm_is 6 d3, n3, Bool.and_false, Bool.false_and, Bool.and_false, Bool.and_false]
              have z := q _ s47
              rw [en] at z
              exact z
            | true =>
              refine iteF ?_
              obtain ⟨x2, k2⟩ := areN_is n2
              obtain ⟨x3, k3⟩ := areN_is n3
              have x1 := prs_is ap
              have k1 : (prsD (.tuple ds)).length = ds.length := by
                show (ds.map pairD).length = _
                rw [List.length_map]
              have y1 : Arr H7 (.ref b) (prsD (.tuple ds)) := by
                have y := Shw.same (Shw.tup e hb) s47
                rw [x1] at y
                exact y
              have y2 : Txts H7 v2 (strsD d2) := txts_of (by rw [← x2]; exact Shw.same s2 s47)
              have y3 : Txts H7 v3 (strsD d3) := txts_of (by rw [← x3]; exact Shw.same s3 s47)
              have l1' : ds.length ≤ 200 := l1
              refine ⟨.ref a, rfl, a, .ref b, v2, v3, _, _, _, rfl, s47 _ _ ha, y1, y2, y3, by omega, by omega, by omega, fun l H8 s8 d8 => ?_⟩
              have few : (wordsOf (prsD (.tuple ds)) (strsD d2) (strsD d3)).length ≤ 1000 := by
                have l4 := lensOf_le (prsD (.tuple ds))
                unfold wordsOf
                simp only [List.length_append, List.length_map]
                omega
              obtain ⟨a2, rfl, t2⟩ := y2.same s8
              obtain ⟨a3, rfl, t3⟩ := y3.same s8
              have eb : H8 b = some (.tup xs) := s8 _ _ (s47 _ _ e)
              refine ⟨_, rfl, l, _, rfl, .inl (SqL.of d8), few, _, rfl, l, _, rfl, .inl (SqL.of d8), rfl, _, rfl, ?_⟩
              have en : isFrame (.tuple ds) d2 d3 = ((decide (V.int ((once (wordsOf (prsD (.tuple ds)) (strsD d2) (strsD d3))).length : Nat) = V.int (((wordsOf (prsD (.tuple ds)) (strsD d2) (strsD d3)).map V.str).length : Nat))) &&
                  (decide ((xs.length : Int) < 13) && (decide ((((strsD d2).map V.str).length : Int) < 7) && decide ((((strsD d3).map V.str).length : Int) < 7)))) := by
                have h1 : decide (V.int ((once (wordsOf (prsD (.tuple ds)) (strsD d2) (strsD d3))).length : Nat) = V.int (((wordsOf (prsD (.tuple ds)) (strsD d2) (strsD d3)).map V.str).length : Nat)) = nodupW (wordsD (.tuple ds) d2 d3) := by
                  unfold nodupW wordsD
                  rw [List.length_map]
                  exact decide_eq_decide.mpr ⟨fun z => V.int.inj z, fun z => congrArg V.int z⟩
                have h2 : areArr (.tuple ds) = decide ((xs.length : Int) < 13) := by
                  show (decide (ds.length ≤ 12) && ds.all isPr) = _
                  rw [ap, Bool.and_true]
                  exact decide_eq_decide.mpr (by omega)
                have h3 : areNm 6 d2 = decide ((((strsD d2).map V.str).length : Int) < 7) := by
                  rw [areNm_is, n2, Bool.and_true, List.length_map]
                  exact decide_eq_decide.mpr (by omega)
                have h4 : areNm 6 d3 = decide ((((strsD d3).map V.str).length : Int) < 7) := by
                  rw [areNm_is, n3, Bool.and_true, List.length_map]
                  exact decide_eq_decide.mpr (by omega)
                rw [h1, ← h2, ← h3, ← h4]
                unfold isFrame
                cases areArr (.tuple ds) <;> cases areNm 6 d2 <;> cases areNm 6 d3 <;> cases nodupW (wordsD (.tuple ds) d2 d3) <;> rfl
              have qq := q H8 (s47.trans s8)
              rw [en] at qq
              refine ite2 (fun c1 => ?_) (fun c1 => ?_)
              · rw [c1, Bool.true_and] at qq
                refine ⟨.ref b, rfl, b, xs, rfl, .inr (SqT.of eb), _, _, rfl, rfl, _, rfl, ?_⟩
                refine ite2 (fun c2 => ?_) (fun c2 => ?_)
                · rw [c2, Bool.true_and] at qq
                  refine ⟨.ref a2, rfl, a2, _, rfl, .inr (SqT.of t2), _, _, rfl, rfl, _, rfl, ?_⟩
                  refine ite2 (fun c3 => ?_) (fun c3 => ?_)
                  · rw [c3, Bool.true_and] at qq
                    exact ⟨.ref a3, rfl, a3, _, rfl, .inr (SqT.of t3), _, _, rfl, rfl, qq⟩
                  · rw [Bool.eq_false_iff.mpr c3, Bool.false_and] at qq
                    exact qq
                · rw [Bool.eq_false_iff.mpr c2, Bool.false_and] at qq
                  exact qq
              · rw [Bool.eq_false_iff.mpr c1, Bool.false_and] at qq
                exact qq
end
end K01

set_option autoImplicit false
set_option maxRecDepth 100000
set_option maxHeartbeats 4000000
namespace K01
open PySem PySem.Spec PyProof.Rows L2 KX
/-! data that have no list whose first item is an int: none of them is the creel -/
def headInt : List PyData → Bool
  | .int _ :: _ => true
  | _ => false
mutual
def offD : PyData → Bool
  | .list xs => !headInt xs && offAll xs
  | .tuple xs => offAll xs
  | .none | .bool _ | .int _ | .dict _ | .str _ => true
def offAll : List PyData → Bool
  | [] => true
  | x :: xs => offD x && offAll xs
end
theorem offAll_mem : ∀ {xs : List PyData}, (∀ x ∈ xs, offD x = true) → offAll xs = true
  | [], _ => rfl
  | x :: xs, h => by simp only [offAll, h x List.mem_cons_self, offAll_mem fun y hy => h y (List.mem_cons_of_mem _ hy), Bool.and_self]
section
variable {a : Addr} {i : Int} {r : List V} {H H' : Hp}
theorem head_ne {xs : List V} {ds : List PyData} (ha : H a = some (.lst (.int i :: r))) {b : Addr} (hb : H b = some (.lst xs)) (s : ShwAll H xs ds) (o : headInt ds = false) : b ≠ a := fun e => by
  subst e
  rw [ha] at hb
  cases hb
  cases s with
  | cons s1 _ =>
    cases s1
    cases o
theorem tup_ne {xs : List V} (ha : H a = some (.lst (.int i :: r))) {b : Addr} (hb : H b = some (.tup xs)) : b ≠ a := fun e => by
  subst e
  rw [ha] at hb
  cases hb
theorem dk_ne (ha : H a = some (.lst (.int i :: r))) {b : Addr} (hb : H b = some (.dK [])) : b ≠ a := fun e => by
  subst e
  rw [ha] at hb
  cases hb
mutual
theorem Shw.off (ha : H a = some (.lst (.int i :: r))) (g : Grw a H H') : ∀ {v : V} {d : PyData}, offD d = true → Shw H v d → Shw H' v d
  | _, _, _, .non => .non
  | _, _, _, .bl b => .bl b
  | _, _, _, .int i => .int i
  | _, _, _, .str x => .str x
  | _, _, o, .lst h s => by
    simp only [offD, Bool.and_eq_true, Bool.not_eq_true'] at o
    exact .lst (g _ _ (head_ne ha h s o.1) h) (ShwAll.off ha g o.2 s)
  | _, _, o, .tup h s => by
    simp only [offD] at o
    exact .tup (g _ _ (tup_ne ha h) h) (ShwAll.off ha g o s)
  | _, _, _, .dct h => .dct (g _ _ (dk_ne ha h) h)
theorem ShwAll.off (ha : H a = some (.lst (.int i :: r))) (g : Grw a H H') : ∀ {vs : List V} {ds : List PyData}, offAll ds = true → ShwAll H vs ds → ShwAll H' vs ds
  | _, _, _, .nil => .nil
  | _, _, o, .cons s1 s2 => by
    simp only [offAll, Bool.and_eq_true] at o
    exact .cons (Shw.off ha g o.1 s1) (ShwAll.off ha g o.2 s2)
end
theorem Grw.trans {H1 H2 H3 : Hp} (g : Grw a H1 H2) (k : Grw a H2 H3) : Grw a H1 H3 := fun b o n e => k b o n (g b o n e)
theorem Grw.of {H1 H2 : Hp} (s : Same H1 H2) : Grw a H1 H2 := fun b o _ e => s b o e
theorem Grw.upd {H1 : Hp} {o : HO} : Grw a H1 (upd H1 a o) := fun b o n e => by rw [upd_ne n]; exact e
end
theorem off_strs : ∀ zs : List Str, offAll (zs.map PyData.str) = true
  | [] => rfl
  | z :: zs => by simp only [List.map_cons, offAll, offD, off_strs zs, Bool.and_self]
theorem off_prs : ∀ ps : List (Str × Str), offAll (ps.map prD) = true
  | [] => rfl
  | p :: ps => by simp only [List.map_cons, offAll, offD, prD, off_prs ps, Bool.and_self]
/-! the parts of a drawn frame -/
def W16 : List Str := ["a", "b", "i", "j", "n", "m", "x", "k", "kk", "all", "not", "pos", "or", "rowrowro", "wa", "zz"]
structure GoodP (ps : List (Str × Str)) (qs rs : List Str) : Prop where
  l1 : ps.length ≤ 3
  l2 : qs.length ≤ 3
  l3 : rs.length ≤ 3
  m1 : ∀ p ∈ ps, p.1 ∈ W16 ∧ p.2 ∈ W16
  m2 : ∀ z ∈ qs, z ∈ W16
  m3 : ∀ z ∈ rs, z ∈ W16
  nd : (wordsOf ps qs rs).Nodup
theorem onceS_mem (zs : List Str) : ∀ z ∈ onceS zs, z ∈ zs := by
  have go : ∀ (zs acc : List Str), ∀ z ∈ zs.foldl (fun acc z => if z ∈ acc then acc else acc ++ [z]) acc, z ∈ acc ∨ z ∈ zs := fun zs => by
    induction zs with
    | nil => exact fun acc z h => .inl h
    | cons y ys ih =>
      intro acc z h
      rw [List.foldl_cons] at h
      rcases ih _ z h with h | h
      · by_cases m : y ∈ acc
        · rw [if_pos m] at h
          exact .inl h
        · rw [if_neg m] at h
          rcases List.mem_append.mp h with h | h
          · exact .inl h
          · rw [List.mem_singleton] at h
            subst h
            exact .inr List.mem_cons_self
      · exact .inr (List.mem_cons_of_mem _ h)
  intro z h
  rcases go zs [] z h with h | h
  · cases h
  · exact h
theorem onceS_nd (zs : List Str) : (onceS zs).Nodup := by
  have go : ∀ (zs acc : List Str), acc.Nodup → (zs.foldl (fun acc z => if z ∈ acc then acc else acc ++ [z]) acc).Nodup := fun zs => by
    induction zs with
    | nil => exact fun acc h => h
    | cons y ys ih =>
      intro acc h
      rw [List.foldl_cons]
      refine ih _ ?_
      by_cases m : y ∈ acc
      · rw [if_pos m]; exact h
      · rw [if_neg m]
        refine List.nodup_append.mpr ⟨h, List.pairwise_singleton _ _, fun x hx z hz => ?_⟩
        rw [List.mem_singleton] at hz
        subst hz
        exact fun e => m (e ▸ hx)
  exact go zs [] List.nodup_nil
theorem good_of {ws : List Str} {ps : List (Str × Str)} {m k : Nat} (nd : ws.Nodup) (ln : ws.length = 12) (mem : ∀ z ∈ ws, z ∈ W16) (h1 : ps.map (·.1) = ws.take ps.length) (l1 : ps.length ≤ 3) (h2 : ∀ p ∈ ps, p.2 ∈ (ws.drop 3).take 3) (hm : m ≤ 3) (hk : k ≤ 3) :
    GoodP ps ((ws.drop 6).take m) ((ws.drop 9).take k) := by
  have e : ws = ws.take 3 ++ ((ws.drop 3).take 3 ++ ((ws.drop 6).take 3 ++ ws.drop 9)) := by
    have a1 : (ws.drop 6).take 3 ++ ws.drop 9 = ws.drop 6 := by
      have := List.take_append_drop 3 (ws.drop 6)
      rw [List.drop_drop] at this
      exact this
    have a2 : (ws.drop 3).take 3 ++ ws.drop 6 = ws.drop 3 := by
      have := List.take_append_drop 3 (ws.drop 3)
      rw [List.drop_drop] at this
      exact this
    rw [a1, a2, List.take_append_drop]
  have nd2 := nd
  rw [e] at nd2
  obtain ⟨n1, n234, x1⟩ := List.nodup_append.mp nd2
  obtain ⟨n2, n34, x2⟩ := List.nodup_append.mp n234
  obtain ⟨n3, n4, x3⟩ := List.nodup_append.mp n34
  have s1 : ∀ z ∈ ps.map (·.1), z ∈ ws.take 3 := fun z hz => by
    rw [h1] at hz
    exact (List.take_subset_take_left ws l1) hz
  have s2 : ∀ z ∈ lensOf ps, z ∈ (ws.drop 3).take 3 := fun z hz => by
    have := onceS_mem _ z hz
    obtain ⟨p, hp, rfl⟩ := List.mem_map.mp this
    exact h2 p hp
  have s3 : ∀ z ∈ (ws.drop 6).take m, z ∈ (ws.drop 6).take 3 := fun z hz => (List.take_subset_take_left _ hm) hz
  have s4 : ∀ z ∈ (ws.drop 9).take k, z ∈ ws.drop 9 := fun z hz => List.mem_of_mem_take hz
  refine ⟨l1, by rw [List.length_take]; omega, by rw [List.length_take]; omega, fun p hp => ⟨mem _ (List.mem_of_mem_take (s1 _ (List.mem_map.mpr ⟨p, hp, rfl⟩))), mem _ (List.mem_of_mem_drop (List.mem_of_mem_take (h2 p hp)))⟩, fun z hz => mem _ (List.mem_of_mem_drop (List.mem_of_mem_take hz)), fun z hz => mem _ (List.mem_of_mem_drop (List.mem_of_mem_take hz)), ?_⟩
  unfold wordsOf
  refine List.nodup_append.mpr ⟨?_, List.nodup_append.mpr ⟨onceS_nd _, List.nodup_append.mpr ⟨List.Sublist.nodup (List.take_sublist _ _) (List.Sublist.nodup (List.drop_sublist _ _) nd), List.Sublist.nodup (List.take_sublist _ _) n4, fun y hy z hz => x3 y (s3 y hy) z (s4 z hz)⟩, fun y hy z hz => ?_⟩, fun y hy z hz => ?_⟩
  · rw [h1]
    exact List.Sublist.nodup (List.take_sublist _ _) nd
  · refine x2 y (s2 y hy) z ?_
    rcases List.mem_append.mp hz with hz | hz
    · exact List.mem_append_left _ (s3 z hz)
    · exact List.mem_append_right _ (s4 z hz)
  · refine x1 y (s1 y hy) z ?_
    rcases List.mem_append.mp hz with hz | hz
    · exact List.mem_append_left _ (s2 z hz)
    · refine List.mem_append_right _ ?_
      rcases List.mem_append.mp hz with hz | hz
      · exact List.mem_append_left _ (s3 z hz)
      · exact List.mem_append_right _ (s4 z hz)
theorem W16_nd : W16.Nodup := by decide +kernel
theorem W16_nm : ∀ z ∈ W16, nameS z = true := by decide +kernel
end K01

set_option autoImplicit false
set_option maxRecDepth 100000
set_option maxHeartbeats 4000000
namespace K01
open PySem PySem.Spec PyProof.Rows L2 KX
abbrev sPts : Stmt := topS 25
abbrev nPts : List Str := ["_law_creel_here", "_law_words", "_law_arrays", "_law_at"]
theorem scPts : FnScope nPts ["_law_creel_here"] (defScope sPts) := ⟨rfl, rfl, rfl, by decide +kernel, rfl, by decide +kernel, by decide +kernel⟩
def spPts : Sp := fun vs H Q _ => ∃ (a : Addr) (x y c : Int), vs = [.ref a] ∧ H a = some (.lst [.int x, .int y, .int c]) ∧ Cr x y c ∧ c ≤ 800000 ∧
  ∀ (l : Addr) (v1 v2 v3 : V) (ps : List (Str × Str)) (qs rs : List Str) (x' c' : Int) (H' : Hp), GoodP ps qs rs → Arr H' v1 ps → Txts H' v2 qs → Txts H' v3 rs → Cr x' y c' → c' ≤ c + 20 → H' a = some (.lst [.int x', .int y, .int c']) → Grw a H H' → l ≠ a → H' l = some (.lst [v1, v2, v3]) → Q (.ref l) H'
theorem ShwAll.keepT {H H' : Hp} (g : ∀ b ys, H b = some (.tup ys) → H' b = some (.tup ys)) : ∀ (ps : List (Str × Str)) {xs : List V}, ShwAll H xs (ps.map prD) → ShwAll H' xs (ps.map prD)
  | [], _, h => by
    cases h
    exact .nil
  | p :: ps, _, h => by
    rw [List.map_cons] at h ⊢
    cases h with
    | cons h1 h2 =>
      refine .cons ?_ (ShwAll.keepT g ps h2)
      cases h1 with
      | tup e r =>
        refine .tup (g _ _ e) ?_
        cases r with
        | cons r1 r2 =>
          cases r1
          cases r2 with
          | cons r3 r4 =>
            cases r3
            cases r4
            exact .cons (.str _) (.cons (.str _) .nil)
section
variable {P : Program} {w : World} {K : PySem.W.Frag} {mg : Str → Option Value} {base : Heap}
theorem ok_pts {f : Addr} {fd : FuncData} (F : Fun K "_law_parts" "_law_parts" sPts f fd) (Fe : Fnc P w K mg base CX0 2 "_law_few_of" ["_law_creel_here", "_law_items", "_law_count"] spFew) (Fi : Fnc P w K mg base CX0 1 "_law_fish" ["_law_creel_here", "_law_total"] spFish) (B : Free mg) : FnOk P w K mg base CX0 3 f fd ["_law_creel_here"] spPts := by
  refine F.ok scPts (fun vs H Q E h => ?_) (fun cdv A outer s H vs Q E hr h => ?_)
  · obtain ⟨a, x, y, c, rfl, _⟩ := h
    rfl
  · obtain ⟨a, x, y, c, rfl, ha, C, hc, q⟩ := h
    refine ⟨_, pss_cons (ps_set (i := 1) scPts.nd rfl (.inl rfl) (pe_lst (pa_cons pe_str (pa_cons pe_str (pa_cons pe_str (pa_cons pe_str (pa_cons pe_str (pa_cons pe_str (pa_cons pe_str (pa_cons pe_str (pa_cons pe_str (pa_cons pe_str (pa_cons pe_str (pa_cons pe_str (pa_cons pe_str (pa_cons pe_str (pa_cons pe_str (pa_cons pe_str pa_nil))))))))))))))))))
      (pss_cons (ps_par (i := 1) (j := 2) rfl scPts.nd rfl rfl (by decide) rfl rfl (pa_cons (pe_fnc Fe hr (by omega) (by rfl) pass0 (pa_cons (pv 0) (pa_cons (pv 1) (pa_cons pe_int pa_nil)))) (pa_cons (pe_lst pa_nil) pa_nil)) (by rfl))
      (pss_cons (ps_for PassesOwn.never rfl (pi_range1 (by rfl) B.range (pa_cons (pe_fnc Fi hr (by omega) (by rfl) pass0 (pa_cons (pv 0) (pa_cons pe_int pa_nil))) pa_nil)) (pg_name (i := 3) scPts.nd rfl (Or.inl rfl))
        (pss_one (ps_expr (pe_bm PySem.F.plainAttrs_list PySem.F.slot_list_append PySem.F.type_list_append mt_append (pv 2) (pa_cons (pe_tup (pa_cons (pe_ix ix_list (pv 1) (pv 3) (fun _ _ => rfl))
          (pa_cons (pe_ix ix_list (pv 1) (pe_op op_add pe_int (pe_fnc Fi hr (by omega) (by rfl) pass0 (pa_cons (pv 0) (pa_cons pe_int pa_nil)))) (fun _ _ => rfl)) pa_nil))) pa_nil)))))
      (pss_one (ps_ret (pe_lst (pa_cons (pe_callTy call_tuple_of (by rfl) B.tuple (by decide +kernel) (pa_cons (pv 2) pa_nil))
        (pa_cons (pe_callTy call_tuple_of (by rfl) B.tuple (by decide +kernel) (pa_cons (pe_slice sl_list (pv 1) (po_some pe_int) (po_some (pe_op op_add pe_int (pe_fnc Fi hr (by omega) (by rfl) pass0 (pa_cons (pv 0) (pa_cons pe_int pa_nil)))))) pa_nil))
        (pa_cons (pe_callTy call_tuple_of (by rfl) B.tuple (by decide +kernel) (pa_cons (pe_slice sl_list (pv 1) (po_some pe_int) (po_some (pe_op op_add pe_int (pe_fnc Fi hr (by omega) (by rfl) pass0 (pa_cons (pv 0) (pa_cons pe_int pa_nil)))))) pa_nil)) pa_nil)))))))), ?_⟩
    refine ⟨(by rw [sizeLine_eq]; show 16 ≤ _; decide), fun W nW => ?_⟩
    show tSeq _ _ _ [some (.ref a), some (.ref W), none, none] (upd H W (.lst (W16.map V.str)))
    have Wa : W ≠ a := (ne_of_none ha nW).symm
    have sW := same_upd (p := W) (o := .lst (W16.map V.str)) nW
    refine ⟨.ref a, rfl, .ref W, rfl, a, W, x, y, c, W16, 12, rfl, Wa, sW _ _ ha, C, by omega, upd_same, by decide, by decide, fun l ws ls x1 c1 H1 lw pm C1 e1 ha1 g1 nl d1 => ?_⟩
    refine ⟨(by rw [sizeLine_eq]; decide), fun Ar nA => ⟨_, _, rfl, ?_⟩⟩
    have Aa : Ar ≠ a := (ne_of_none ha1 nA).symm
    have Al : Ar ≠ l := (ne_of_none d1 nA).symm
    have sA := same_upd (p := Ar) (o := .lst []) nA
    have g2 : Grw a H (upd H1 Ar (.lst [])) := (((Grw.of sW).trans g1).trans (Grw.of sA))
    have ha2 := sA _ _ ha1
    have d2 := sA _ _ d1
    have dA : (upd H1 Ar (.lst [])) Ar = some (.lst []) := upd_same
    have nAH : H Ar = none := by
      cases e : H Ar with
      | none => rfl
      | some o =>
        have := (((Grw.of sW).trans g1) Ar o Aa e)
        rw [nA] at this
        cases this
    generalize upd H1 Ar (.lst []) = H2 at g2 ha2 d2 dA ⊢
    refine ⟨.ref a, rfl, a, x1, y, c1, 4, rfl, ha2, C1, by omega, by omega, by omega, fun k x2 c2 k0 k4 C2 e2 => ?_⟩
    have memW : ∀ z ∈ ws, z ∈ W16 := fun z hz => pm.subset (List.mem_append_left _ hz)
    have ndW : ws.Nodup := (List.nodup_append.mp (pm.nodup_iff.mpr W16_nd)).1
    have ha3 : (upd H2 a (.lst [.int x2, .int y, .int c2])) a = some (.lst [.int x2, .int y, .int c2]) := upd_same
    have d3 : (upd H2 a (.lst [.int x2, .int y, .int c2])) l = some (.lst (ws.map V.str)) := by rw [upd_ne nl]; exact d2
    have dA3 : (upd H2 a (.lst [.int x2, .int y, .int c2])) Ar = some (.lst []) := by rw [upd_ne Aa]; exact dA
    have g3 : Grw a H (upd H2 a (.lst [.int x2, .int y, .int c2])) := g2.trans Grw.upd
    generalize upd H2 a (.lst [.int x2, .int y, .int c2]) = H3 at ha3 d3 dA3 g3 ⊢
    have lnW : ∀ {i : Nat}, i < 12 → ∃ z, ws[i]? = some z := fun {i} hi => ⟨_, List.getElem?_eq_getElem (by rw [lw]; exact hi)⟩
    refine ⟨k, rfl, by omega, by omega, ?_⟩
    refine for_range (fun m σ' H' => ∃ (x' c' : Int) (ps : List (Str × Str)) (xs : List V) (t : Option V), σ' = [some (.ref a), some (.ref l), some (.ref Ar), t] ∧ H' a = some (.lst [.int x', .int y, .int c']) ∧ Cr x' y c' ∧ c' ≤ c2 + m ∧ H' l = some (.lst (ws.map V.str)) ∧ H' Ar = some (.lst xs) ∧ ShwAll H' xs (ps.map prD) ∧ ps.length = m ∧ ps.map (·.1) = ws.take m ∧ (∀ p ∈ ps, p.2 ∈ (ws.drop 3).take 3) ∧ Grw a H H')
      ⟨x2, c2, [], [], none, rfl, ha3, C2, by omega, d3, dA3, .nil, rfl, rfl, (fun p hp => nomatch hp), g3⟩ (fun m σ' H' hm hP => ?_) (fun σ' H' hP => ?_)
    · obtain ⟨x', c', ps, xs, t, rfl, ha', C', hc', dl, dAr, sx, lp, e1p, e2p, gw⟩ := hP
      have hm3 : m < 4 := by omega
      obtain ⟨z1, hz1⟩ := lnW (i := m) (by omega)
      have em : (0 : Int) + (m : Nat) = ((m : Nat) : Int) := by omega
      rw [em]
      refine ⟨.ref Ar, rfl, .inl ⟨rfl, _, SqL.of dAr⟩, .ref l, rfl, .int m, rfl, l, _, _, .str z1, rfl, rfl, SqL.of dl, atI_nat (by rw [List.getElem?_map, hz1]; rfl), ?_⟩
      refine ⟨.ref l, rfl, .ref a, rfl, a, x', y, c', 2, rfl, ha', C', by omega, by omega, by omega, fun r x3 c3 r0 r2 C3 e3 => ?_⟩
      have hr5 : (3 + r.toNat) < 12 := by omega
      obtain ⟨z2, hz2⟩ := lnW hr5
      have er : (3 : Int) + r = ((3 + r.toNat : Nat) : Int) := by omega
      have ha5 : (upd H' a (.lst [.int x3, .int y, .int c3])) a = some (.lst [.int x3, .int y, .int c3]) := upd_same
      have d5 : (upd H' a (.lst [.int x3, .int y, .int c3])) l = some (.lst (ws.map V.str)) := by rw [upd_ne nl]; exact dl
      have dA5 : (upd H' a (.lst [.int x3, .int y, .int c3])) Ar = some (.lst xs) := by rw [upd_ne Aa]; exact dAr
      have g5 : Grw a H (upd H' a (.lst [.int x3, .int y, .int c3])) := gw.trans Grw.upd
      have sx5 := ShwAll.off ha' (Grw.upd (o := .lst [.int x3, .int y, .int c3])) (off_prs ps) sx
      generalize upd H' a (.lst [.int x3, .int y, .int c3]) = H5 at ha5 d5 dA5 g5 sx5 ⊢
      refine ⟨3, r, rfl, rfl, l, _, 3 + r, .str z2, rfl, rfl, SqL.of d5, by rw [er]; exact atI_nat (by rw [List.getElem?_map, hz2]; rfl), (by rw [sizeLine_eq]; show 2 ≤ _; decide), fun T nT => ?_⟩
      have sT := same_upd (p := T) (o := .tup [.str z1, .str z2]) nT
      have lx := ShwAll.len sx5
      rw [List.length_map] at lx
      have Ta := ne_of_none dA5 nT
      refine ⟨Ar, xs, .ref T, rfl, rfl, sT _ _ dA5, by rw [sizeLine_eq]; omega, ?_⟩
      have gA : ∀ b o, b ≠ Ar → (upd H5 T (.tup [.str z1, .str z2])) b = some o → (upd (upd H5 T (.tup [.str z1, .str z2])) Ar (.lst (xs ++ [.ref T]))) b = some o := fun b o n e => by rw [upd_ne n]; exact e
      have shT : ShwAll (upd (upd H5 T (.tup [.str z1, .str z2])) Ar (.lst (xs ++ [.ref T]))) (xs ++ [.ref T]) ((ps ++ [(z1, z2)]).map prD) := by
        rw [List.map_append]
        refine ShwAll.snoc ?_ ?_
        · have q1 := ShwAll.same sx5 sT
          exact (ShwAll.keepT (fun b ys e => gA b _ (fun z => by rw [z, sT _ _ dA5] at e; cases e) e) ps q1)
        · exact .tup (by rw [upd_ne Ta.symm, upd_same]) (.cons (.str _) (.cons (.str _) .nil))
      refine ⟨x3, c3, ps ++ [(z1, z2)], xs ++ [.ref T], _, rfl, ?_, C3, by omega, ?_, upd_same, shT, by rw [List.length_append, lp]; rfl, ?_, ?_, fun b o nb e => ?_⟩
      · rw [upd_ne (Ne.symm Aa), sT _ _ ha5]
      · rw [upd_ne (Ne.symm Al), sT _ _ d5]
      · rw [List.map_append, e1p, List.take_add_one, hz1]
        rfl
      · intro p hp
        rcases List.mem_append.mp hp with hp | hp
        · exact e2p p hp
        · rw [List.mem_singleton] at hp
          subst hp
          refine List.mem_of_getElem? (i := r.toNat) ?_
          rw [List.getElem?_take, if_pos (by omega), List.getElem?_drop]
          exact hz2
      · have := sT _ _ (g5 b o nb e)
        rw [upd_ne (fun z => by rw [z, nAH] at e; cases e)]
        exact this
    · obtain ⟨x', c', ps, xs, t, rfl, ha', C', hc', dl, dAr, sx, lp, e1p, e2p, gw⟩ := hP
      refine ⟨.ref Ar, rfl, Ar, xs, rfl, .inl ⟨SqL.of dAr, fun t1 n1 => ?_⟩⟩
      have s1 := same_upd (p := t1) (o := .tup xs) n1
      have y1 : Arr (upd H' t1 (.tup xs)) (.ref t1) ps := .tup upd_same (ShwAll.same sx s1)
      have ha6 := s1 _ _ ha'
      have d6 := s1 _ _ dl
      have g6 := gw.trans (Grw.of s1)
      generalize upd H' t1 (.tup xs) = H6 at y1 ha6 d6 g6 ⊢
      refine ⟨.ref l, rfl, 6, rfl, .ref a, rfl, a, x', y, c', 4, rfl, ha6, C', by omega, by omega, by omega, fun r4 x4 c4 r40 r44 C4 e4 => ⟨6, r4, rfl, rfl, 6 + r4, rfl, ?_⟩⟩
      have ha7 : (upd H6 a (.lst [.int x4, .int y, .int c4])) a = some (.lst [.int x4, .int y, .int c4]) := upd_same
      have d7 : (upd H6 a (.lst [.int x4, .int y, .int c4])) l = some (.lst (ws.map V.str)) := by rw [upd_ne nl]; exact d6
      have g67 : Grw a H6 (upd H6 a (.lst [.int x4, .int y, .int c4])) := Grw.upd
      have g7 := g6.trans g67
      have y7 : Arr (upd H6 a (.lst [.int x4, .int y, .int c4])) (.ref t1) ps := Shw.off ha6 g67 (by simp only [offD, off_prs]) y1
      generalize upd H6 a (.lst [.int x4, .int y, .int c4]) = H7 at ha7 d7 g7 y7 ⊢
      refine ⟨l, _, rfl, SqL.of d7, fun p2 n2 => ⟨p2, _, rfl, .inl ⟨SqL.of upd_same, fun t2 n3 => ?_⟩⟩⟩
      have cut : ∀ (o : Nat) (r : Int), 0 ≤ r → r < 4 → o + 3 ≤ 12 → cutV (ws.map V.str) (some (o : Int)) (some ((o : Int) + r)) = ((ws.drop o).take r.toNat).map V.str := fun o r h0 h4 ho => by
        unfold cutV
        rw [List.length_map, lw]
        have e1 : HT.sIx 12 0 (some (o : Int)) = o := by rw [HT.sIx_nat]; omega
        have e2 : HT.sIx 12 12 (some ((o : Int) + r)) = o + r.toNat := by
          have : (o : Int) + r = ((o + r.toNat : Nat) : Int) := by omega
          rw [this, HT.sIx_nat]
          omega
        rw [e1, e2, ← List.map_drop, ← List.map_take, Nat.add_sub_cancel_left]
      have s2 := (same_upd (p := p2) (o := .lst (cutV (ws.map V.str) (some 6) (some (6 + r4)))) n2).trans (same_upd (p := t2) (o := .tup (cutV (ws.map V.str) (some 6) (some (6 + r4)))) n3)
      have y2 : Txts (upd (upd H7 p2 (.lst (cutV (ws.map V.str) (some 6) (some (6 + r4))))) t2 (.tup (cutV (ws.map V.str) (some 6) (some (6 + r4))))) (.ref t2) ((ws.drop 6).take r4.toNat) := ⟨t2, rfl, by rw [upd_same]; exact congrArg (fun z => some (HO.tup z)) (cut 6 r4 r40 r44 (by decide))⟩
      have ha8 := s2 _ _ ha7
      have d8 := s2 _ _ d7
      have y8 : Arr _ (.ref t1) ps := Shw.same y7 s2
      have g8 := g7.trans (Grw.of s2)
      generalize upd (upd H7 p2 (.lst (cutV (ws.map V.str) (some 6) (some (6 + r4))))) t2 (.tup (cutV (ws.map V.str) (some 6) (some (6 + r4)))) = H8 at y2 ha8 d8 y8 g8 ⊢
      refine ⟨.ref l, rfl, 9, rfl, .ref a, rfl, a, x4, y, c4, 4, rfl, ha8, C4, by omega, by omega, by omega, fun r5 x5 c5 r50 r54 C5 e5 => ⟨9, r5, rfl, rfl, 9 + r5, rfl, ?_⟩⟩
      have ha9 : (upd H8 a (.lst [.int x5, .int y, .int c5])) a = some (.lst [.int x5, .int y, .int c5]) := upd_same
      have d9 : (upd H8 a (.lst [.int x5, .int y, .int c5])) l = some (.lst (ws.map V.str)) := by rw [upd_ne nl]; exact d8
      have g89 : Grw a H8 (upd H8 a (.lst [.int x5, .int y, .int c5])) := Grw.upd
      have g9 := g8.trans g89
      have y9 : Arr (upd H8 a (.lst [.int x5, .int y, .int c5])) (.ref t1) ps := Shw.off ha8 g89 (by simp only [offD, off_prs]) y8
      have z9 : Txts (upd H8 a (.lst [.int x5, .int y, .int c5])) (.ref t2) ((ws.drop 6).take r4.toNat) := by
        obtain ⟨b, e, h⟩ := y2
        exact ⟨b, e, g89 _ _ (tup_ne ha8 h) h⟩
      generalize upd H8 a (.lst [.int x5, .int y, .int c5]) = H9 at ha9 d9 g9 y9 z9 ⊢
      refine ⟨l, _, rfl, SqL.of d9, fun p3 n4 => ⟨p3, _, rfl, .inl ⟨SqL.of upd_same, fun t3 n5 => ?_⟩⟩⟩
      have s3 := (same_upd (p := p3) (o := .lst (cutV (ws.map V.str) (some 9) (some (9 + r5)))) n4).trans (same_upd (p := t3) (o := .tup (cutV (ws.map V.str) (some 9) (some (9 + r5)))) n5)
      have y3 : Txts (upd (upd H9 p3 (.lst (cutV (ws.map V.str) (some 9) (some (9 + r5))))) t3 (.tup (cutV (ws.map V.str) (some 9) (some (9 + r5))))) (.ref t3) ((ws.drop 9).take r5.toNat) := ⟨t3, rfl, by rw [upd_same]; exact congrArg (fun z => some (HO.tup z)) (cut 9 r5 r50 r54 (by decide))⟩
      have ha10 := s3 _ _ ha9
      have y10 : Arr _ (.ref t1) ps := Shw.same y9 s3
      have z10 : Txts _ (.ref t2) _ := Txts.same z9 s3
      have g10 := g9.trans (Grw.of s3)
      generalize upd (upd H9 p3 (.lst (cutV (ws.map V.str) (some 9) (some (9 + r5))))) t3 (.tup (cutV (ws.map V.str) (some 9) (some (9 + r5)))) = H10 at y3 ha10 y10 z10 g10 ⊢
      refine ⟨(by rw [sizeLine_eq]; show 3 ≤ _; decide), fun L nL => ?_⟩
      have s4 := same_upd (p := L) (o := .lst [.ref t1, .ref t2, .ref t3]) nL
      exact q L _ _ _ ps _ _ x5 c5 _ (good_of ndW lw memW (by rw [e1p, lp]) (by omega) e2p (by omega) (by omega)) (Shw.same y10 s4) (Txts.same z10 s4) (Txts.same y3 s4) C5 (by omega) (s4 _ _ ha10) (g10.trans (Grw.of s4)) (ne_of_none ha10 nL).symm upd_same
end
end K01

set_option autoImplicit false
set_option maxRecDepth 100000
set_option maxHeartbeats 4000000
namespace K01
open PySem PySem.Spec PyProof.Rows L2 KX
/-! small data: few items, texts out of a list -/
def LX0 : List Str := ["", "A", "ninelette", "*1", "a b", "new", "other", "ab", "one", "two"]
def LX1 : List Str := ["three", "wb", "wc", "wd", "we", "wf", "wg", "wh", "wi", "wj", "wk", "wl"]
def LX2 : List Str := ["wm", "wn", "wo", "wp", "c", "d", "e", "f", "g", "h", "l"]
def LW : List Str := W16 ++ (LX0 ++ (LX1 ++ (LX2)))
def sm : Nat → PyData → Bool
  | _, .none => true
  | _, .bool _ => true
  | _, .int i => decide (i = 0)
  | _, .str z => decide (z ∈ LW)
  | 0, .tuple _ => false
  | 0, .list _ => false
  | k + 1, .tuple ds => decide (ds.length ≤ 13) && ds.all (sm k)
  | k + 1, .list ds => decide (ds.length ≤ 13) && (!headInt ds && ds.all (sm k))
  | _, .dict _ => false
theorem sm_up : ∀ (k : Nat) (d : PyData), sm k d = true → sm (k + 1) d = true
  | k, .none, _ => by cases k <;> rfl
  | k, .bool b, _ => by cases k <;> rfl
  | k, .int i, h => by cases k <;> exact h
  | k, .str z, h => by cases k <;> exact h
  | 0, .tuple _, h => by cases h
  | 0, .list _, h => by cases h
  | k + 1, .tuple ds, h => by
    simp only [sm, Bool.and_eq_true] at h
    obtain ⟨h1, h2⟩ := h
    show (decide (ds.length ≤ 13) && ds.all (sm (k + 1))) = true
    rw [h1, Bool.true_and]
    exact List.all_eq_true.mpr fun d hd => sm_up k d (List.all_eq_true.mp h2 d hd)
  | k + 1, .list ds, h => by
    simp only [sm, Bool.and_eq_true] at h
    obtain ⟨h1, h2, h3⟩ := h
    show (decide (ds.length ≤ 13) && (!headInt ds && ds.all (sm (k + 1)))) = true
    rw [h1, h2, Bool.true_and, Bool.true_and]
    exact List.all_eq_true.mpr fun d hd => sm_up k d (List.all_eq_true.mp h3 d hd)
  | k, .dict _, h => by cases k <;> cases h
theorem sm_le {k n : Nat} {d : PyData} (h : sm k d = true) (l : k ≤ n) : sm n d = true := by
  induction l with
  | refl => exact h
  | step _ ih => exact sm_up _ _ ih
theorem LW_ok : ∀ z ∈ LW, z.length ≤ 9 ∧ (z.cps.toList.all fun c => decide (c < 0x110000)) = true ∧ PyData.strOk z = true ∧ (PyData.str z).shown.length ≤ 13 := by
  have h : (LW.all fun z => decide (z.length ≤ 9) && ((z.cps.toList.all fun c => decide (c < 0x110000)) && (PyData.strOk z && decide ((PyData.str z).shown.length ≤ 13)))) = true := by decide +kernel
  intro z hz
  have := List.all_eq_true.mp h z hz
  simp only [Bool.and_eq_true, decide_eq_true_eq] at this
  exact this
theorem gdAll_of {xs : List PyData} (h : ∀ x ∈ xs, gd x = true) : gdAll xs = true := by
  induction xs with
  | nil => rfl
  | cons x xs ih => simp only [gdAll, h x List.mem_cons_self, ih fun y hy => h y (List.mem_cons_of_mem _ hy), Bool.and_self]
theorem showableAll_of {xs : List PyData} (h : ∀ x ∈ xs, PyData.showable x = true) : PyData.showableAll xs = true := by
  induction xs with
  | nil => rfl
  | cons x xs ih => simp only [PyData.showableAll, h x List.mem_cons_self, ih fun y hy => h y (List.mem_cons_of_mem _ hy), Bool.and_self]
theorem sum_le {l : List Nat} {B : Nat} (h : ∀ x ∈ l, x ≤ B) : l.sum ≤ l.length * B := by
  induction l with
  | nil => simp
  | cons x l ih =>
    have h1 := h x List.mem_cons_self
    have h2 := ih fun y hy => h y (List.mem_cons_of_mem _ hy)
    rw [List.sum_cons, List.length_cons, Nat.succ_mul]
    omega
theorem shown_sum {B : Nat} {ds : List PyData} (n : ds.length ≤ 13) (h : ∀ d ∈ ds, d.shown.length ≤ B) : ((PyData.shownAll ds).map (·.length)).sum + 2 * (PyData.shownAll ds).length + 3 ≤ 13 * B + 29 := by
  have e := PyData.shownAll_length ds
  have mem : ∀ (ds : List PyData), (∀ d ∈ ds, d.shown.length ≤ B) → ∀ t ∈ PyData.shownAll ds, t.length ≤ B := fun ds => by
    induction ds with
    | nil => intro _ t ht; simp [PyData.shownAll] at ht
    | cons d ds ih =>
      intro h t ht
      simp only [PyData.shownAll, List.mem_cons] at ht
      rcases ht with rfl | ht
      · exact h d List.mem_cons_self
      · exact ih (fun y hy => h y (List.mem_cons_of_mem _ hy)) t ht
  have z := sum_le (l := (PyData.shownAll ds).map (·.length)) (B := B) fun x hx => by
    obtain ⟨t, ht, rfl⟩ := List.mem_map.mp hx
    exact mem ds h t ht
  rw [List.length_map, e] at z
  have : ds.length * B ≤ 13 * B := Nat.mul_le_mul_right _ n
  omega
def shB : Nat → Nat
  | 0 => 13
  | k + 1 => 13 * shB k + 29
structure SmOk (k : Nat) (d : PyData) : Prop where
  g : gd d = true
  lay : PyData.canLay0 d = true
  dep : PyData.depth d ≤ k
  off : offD d = true
  show_ : PyData.showable d = true
  len : d.shown.length ≤ shB k
  few : lenD d ≤ 13
theorem shB_ge (k : Nat) : 13 ≤ shB k := by
  cases k with
  | zero => exact Nat.le_refl _
  | succ k => show 13 ≤ 13 * shB k + 29; omega
theorem sm_ok : ∀ (k : Nat) (d : PyData), sm k d = true → SmOk k d
  | k, .none, _ => ⟨rfl, rfl, Nat.zero_le _, rfl, rfl, Nat.le_trans (by decide +kernel) (shB_ge k), Nat.zero_le _⟩
  | k, .bool b, _ => ⟨rfl, rfl, Nat.zero_le _, rfl, rfl, Nat.le_trans (by cases b <;> decide +kernel) (shB_ge k), Nat.zero_le _⟩
  | k, .int i, h => by
    have e : i = 0 := by cases k <;> exact of_decide_eq_true h
    subst e
    exact ⟨rfl, rfl, Nat.zero_le _, rfl, by decide +kernel, Nat.le_trans (by decide +kernel) (shB_ge k), Nat.zero_le _⟩
  | k, .str z, h => by
    have e : z ∈ LW := by cases k <;> exact of_decide_eq_true h
    obtain ⟨h1, h2, h3, h4⟩ := LW_ok z e
    refine ⟨?_, h3, Nat.zero_le _, rfl, rfl, Nat.le_trans h4 (shB_ge k), Nat.zero_le _⟩
    simp only [gd, h2, Bool.and_true]
    exact decide_eq_true (by omega)
  | 0, .tuple _, h => by cases h
  | 0, .list _, h => by cases h
  | k + 1, .tuple ds, h => by
    simp only [sm, Bool.and_eq_true, decide_eq_true_eq] at h
    obtain ⟨h1, h2⟩ := h
    have ih := fun d hd => sm_ok k d (List.all_eq_true.mp h2 d hd)
    refine ⟨?_, ?_, ?_, ?_, ?_, ?_, h1⟩
    · simp only [gd, gdAll_of fun d hd => (ih d hd).g, Bool.and_true]
      exact decide_eq_true (by omega)
    · simp only [PyData.canLay0]
      exact lay_all fun d hd => (ih d hd).lay
    · have := depth_all fun d hd => (ih d hd).dep
      simp only [PyData.depth]
      omega
    · simp only [offD]
      exact offAll_mem fun d hd => (ih d hd).off
    · simp only [PyData.showable]
      exact showableAll_of fun d hd => (ih d hd).show_
    · simp only [PyData.shown]
      exact Nat.le_trans (tupleText_len_le _) (shown_sum h1 fun d hd => (ih d hd).len)
  | k + 1, .list ds, h => by
    simp only [sm, Bool.and_eq_true, decide_eq_true_eq] at h
    obtain ⟨h1, h3, h2⟩ := h
    have ih := fun d hd => sm_ok k d (List.all_eq_true.mp h2 d hd)
    refine ⟨?_, ?_, ?_, ?_, ?_, ?_, Nat.zero_le _⟩
    · simp only [gd, gdAll_of fun d hd => (ih d hd).g, Bool.and_true]
      exact decide_eq_true (by omega)
    · simp only [PyData.canLay0]
      exact lay_all fun d hd => (ih d hd).lay
    · have := depth_all fun d hd => (ih d hd).dep
      simp only [PyData.depth]
      omega
    · simp only [offD, h3, Bool.true_and]
      exact offAll_mem fun d hd => (ih d hd).off
    · simp only [PyData.showable]
      exact showableAll_of fun d hd => (ih d hd).show_
    · simp only [PyData.shown]
      exact Nat.le_trans (listText_len_le _) (shown_sum h1 fun d hd => (ih d hd).len)
  | k, .dict _, h => by cases k <;> cases h
/-- a component of what the law judges -/
def comp : PyData → Bool
  | .dict [] => true
  | .dict _ => false
  | d => sm 3 d
structure CompOk (d : PyData) : Prop where
  g : gd d = true
  low : lowIn d
  off : offD d = true
  show_ : PyData.showable d = true
  dep : PyData.depth d ≤ 3
  len : d.shown.length ≤ 40000
  few : lenD d ≤ 13
theorem sm_low {k : Nat} {d : PyData} (hk : k ≤ 20) (h : sm k d = true) : lowD d := by
  have := sm_ok k d h
  exact ⟨this.lay, by have := this.dep; omega⟩
theorem comp_ok {d : PyData} (h : comp d = true) : CompOk d := by
  have go : sm 3 d = true → CompOk d := fun h => by
    have o := sm_ok 3 d h
    exact ⟨o.g, low_in (sm_low (by decide) h), o.off, o.show_, o.dep, Nat.le_trans o.len (by decide), o.few⟩
  cases d with
  | dict kvs =>
    cases kvs with
    | nil => exact ⟨rfl, trivial, rfl, by decide +kernel, by decide +kernel, by decide +kernel, Nat.zero_le _⟩
    | cons a b => cases h
  | _ => exact go h
theorem show_list {ds : List PyData} (n : ds.length ≤ 13) (h : ∀ d ∈ ds, comp d = true) : (PyData.list ds).showable = true ∧ (PyData.list ds).depth ≤ 60 ∧ (PyData.list ds).shown.length ≤ 1000000 := by
  have ih := fun d hd => comp_ok (h d hd)
  refine ⟨?_, ?_, ?_⟩
  · simp only [PyData.showable]
    exact showableAll_of fun d hd => (ih d hd).show_
  · have := depth_all fun d hd => (ih d hd).dep
    simp only [PyData.depth]
    omega
  · simp only [PyData.shown]
    refine Nat.le_trans (listText_len_le _) (Nat.le_trans (shown_sum n fun d hd => (ih d hd).len) (by decide))
end K01

set_option autoImplicit false
set_option maxRecDepth 100000
set_option maxHeartbeats 4000000
namespace K01
open PySem PySem.Spec PyProof.Rows L2 KX
/-- a promise of a def that runs with no repr underway -/
def RunG (P : Program) (w : World) (K : PySem.W.Frag) (mg : Str → Option Value) (base : Heap) (k : Nat) (f : Addr) (fd : FuncData) (ps : List Str) (sp : Sp) : Prop :=
  ∀ (A : Around) (outer : List Env) (s : Shared) (H : Hp) (args : Args) (us : List Value) (vs : List V) (Q : VK) (E : XK), A.guards = some [] → Room k A → Env0 P w K mg base A outer s H → BindsTo s fd args (ps.zip us) → Vals vs us → vs.length = ps.length → sp vs H Q E →
    codeAny (model P w) A (.call (.ref f) args) (CR CX0 outer P w H s Q E) s
theorem Fun.okG {P : Program} {w : World} {K : PySem.W.Frag} {mg : Str → Option Value} {base : Heap} {x qual : Str} {st : Stmt} {f : Addr} {fd : FuncData} {N ps : List Str} {k : Nat} {sp : Sp} (F : Fun K x qual st f fd) (S : FnScope N ps (defScope st))
    (hbody : ∀ (cdv : Value) (A : Around) (outer : List Env) (s : Shared) (H : Hp) (vs : List V) (Q : VK) (E : XK), (A.deeper (envOfC qual (defScope st) s.heap.objs.size f cdv)).guards = some [] → Room k (A.deeper (envOfC qual (defScope st) s.heap.objs.size f cdv)) → sp vs H Q E →
      ∃ t, PSs (cxOf CX0 P w K mg base N qual (defScope st) f cdv A outer s H E).nox (defBody st) t ∧ t { nx := fun _ H' => Q .non H', rt := Q } (L2.start N vs) H) : RunG P w K mg base (k + 1) f fd ps sp := by
  obtain ⟨oc, od, kV, doc, pm, an, cdv, ct, osl, rfl, lk, hcd⟩ := F.ex
  intro A outer s H args us vs Q E hG hr e0 hb r hl hsp
  refine LamX.run_ofS (N := N) lk hcd S hr e0 hb r hl fun hr' => ?_
  obtain ⟨t, h, q⟩ := hbody cdv A outer s H vs Q E hG hr' hsp
  exact ⟨t, h.nox, q⟩
/-- a def of the module with such a promise -/
structure FncG (P : Program) (w : World) (K : PySem.W.Frag) (mg : Str → Option Value) (base : Heap) (k : Nat) (x : Str) (ps : List Str) (sp : Sp) : Prop where
  ex : ∃ (f : Addr) (fd : FuncData), RunG P w K mg base k f fd ps sp ∧ Binds K fd ps [] ∧ mg x = some (.ref f) ∧ PySem.W.keepIn K (.ref f) = true
section
variable {X : Cx} {k j : Nat} {ps : List Str} {sp : Sp} {x : Str} {p pos : Pos} {e : Expr} {es : List Expr} {t : TA}
def tCallG (n : Nat) (sp : Sp) (t : TA) : TE := fun σ H Q => t σ H fun vs H1 => vs.length = n ∧ sp vs H1 Q E0
theorem pe_fncG (F : FncG X.prog X.w X.K X.mg X.base k x ps sp) (hG : X.A.guards = some []) (hr : Room j X.A) (hk : k ≤ j) (hg : Gl X x) (ha : PA X (e :: es) t)
    (hdb : (x == ("__debug__" : Str)) = false := by decide) (he : starEach (e :: es) X.env = (false, eval e X.env) :: starEach es X.env := by rfl) (hpl : (backTo pos (starEach es X.env)).any (·.1) = false := by rfl) :
    PE X (.Call (.Name x p) (e :: es) [] pos) (tCallG ps.length sp t) := by
  obtain ⟨f, fd, F, hb, hm, hk2⟩ := F.ex
  refine ⟨fun pins s σ H Q I h => ?_⟩
  refine wpAny_Call_Name_kw (ld_glob I hg hm ?_ hdb)
  refine PySem.W.callWith_K (h₀ := X.base) I.ok.mod.kin hk2 (thn (ha.run pos pins s σ H _ I h) fun us s1 ⟨vs, H1, I1, r, hl, q⟩ => ⟨I1.kIn, ?_⟩) he hpl
  have bt : BindsTo s1 fd ⟨us, []⟩ (ps.zip us) := by
    have z := hb s1 us I1.kIn (by rw [List.append_nil, ← r.length]; exact hl)
    rw [List.append_nil] at z
    exact z
  refine wpAny_call (codeAny_mono (F X.A X.stack s1 H1 ⟨us, []⟩ us vs Q E0 hG (hr.mono hk) I1.env0 bt r hl q) fun o s' hq => ?_)
  match o, hq with
  | .ok (.ret u), hq => exact I1.after hq
  | .ok .next, hq => exact False.elim hq
  | .ok .brk, hq => exact False.elim hq
  | .ok .cont, hq => exact False.elim hq
  | .error u, hq => exact False.elim hq
theorem ps_imp {st : Stmt} {t u : TS} (h : PS X st t) (i : ∀ D σ H, u D σ H → t D σ H) : PS X st u := ⟨fun pins s σ H D I q => h.run pins s σ H D I (i _ _ _ q)⟩
end
/-- repr(True), repr(False) -/
theorem call_repr_bl {X : Cx} : CallR X (.builtin "repr") (fun xs H Q => ∃ b : Bool, xs = [.bl b] ∧ Q (.str (if b then "True" else "False")) H) := by
  intro pins s σ H vs us Q I r h
  obtain ⟨b, rfl, q⟩ := h
  obtain ⟨u, rfl, rr⟩ := vals1 r
  obtain rfl : u = Value.bool b := rr
  exact PySem.P.repr_of_bool ⟨.str _, H, I.tok _, ⟨_, rfl⟩, q⟩
/-- a property with its promise -/
structure Prp (P : Program) (w : World) (K : PySem.W.Frag) (mg : Str → Option Value) (base : Heap) (C : Addr) (n : Str) (sp : Sp) : Prop where
  ex : ∃ (p g : Addr) (fd : FuncData), PropOf K C n p g ∧ FnOk P w K mg base CX0 1 g fd ["self"] sp ∧ Binds K fd ["self"] []
theorem pe_prp {X : Cx} {C : Addr} {n : Str} {sp : Sp} {j : Nat} {e : Expr} {ta : TE} {pos : Pos} (R : Prp X.prog X.w X.K X.mg X.base C n sp) (he : PE X e ta) (c : Cls X.K C) (hr : Room j X.A) (hk : 2 ≤ j) (hab : attributeBase e n X.env (eval e X.env) = eval e X.env := by rfl) :
    PE X (.Attribute e n pos) (tProp C sp [] E0 ta) := by
  obtain ⟨p, g, fd, hp, F, hb⟩ := R.ex
  exact pe_prop he c hp F (hr.mono hk) hb .nil pass0 hab
abbrev sTold : Stmt := topS 32
abbrev nTold : List Str := ["_law_frame_here", "_law_parts_here", "_law_told", "_law_groups", "_law_name", "_law_length", "_law_kind", "_law_names", "_law_odd", "_law_rows", "_law_text", "_law_row"]
theorem scTold : FnScope nTold ["_law_frame_here", "_law_parts_here"] (defScope sTold) := ⟨rfl, rfl, rfl, by decide +kernel, rfl, by decide +kernel, by decide +kernel⟩
end K01

set_option autoImplicit false
set_option maxRecDepth 100000
set_option maxHeartbeats 4000000
namespace K01
open PySem PySem.Spec PyProof.Rows L2 KX
def stT (i : Nat) : Stmt := (defBody sTold).getD i (.Pass ⟨0, 0, 0, 0⟩)
/-- what the law asks of a frame -/
structure TF (P : Program) (w : World) (K : PySem.W.Frag) (mg : Str → Option Value) (base : Heap) (C : Addr) : Prop where
  T : FrTxt K mg C
  B : Free mg
  mRepr : mg "repr" = none
  lens : Fnc P w K mg base CX0 1 "_law_lengths" ["_law_parts_here"] spLens2
  allOf : Fnc P w K mg base CX0 2 "_law_all_of" ["_law_parts_here"] spAll
  g0 : Prp P w K mg base C "arrays" (getSp C "_arrays")
  g1 : Prp P w K mg base C "positions" (getSp C "_positions")
  g2 : Prp P w K mg base C "amounts" (getSp C "_amounts")
  g3 : Prp P w K mg base C "lengths" (getSp C "_lengths")
  kind : OM P w K mg base CX0 2 C "kind_of" ["self", "word"] (spKind C)
  fresh : OM P w K mg base CX0 2 C "is_fresh" ["self", "value"] (spFresh C)
  lenOf : OM P w K mg base CX0 2 C "length_of" ["self", "array"] (spLenOf C)
  isIn : OM P w K mg base CX0 1 C "__contains__" ["self", "value"] (spIn C)
  len : OM P w K mg base CX0 1 C "__len__" ["self"] (spLen C)
  str : OM P w K mg base CX0 3 C "__str__" ["self"] (spStr C)
abbrev TX (P : Program) (w : World) (K : PySem.W.Frag) (mg : Str → Option Value) (base : Heap) (f : Addr) (cdv : Value) (A : Around) (outer : List Env) (s0 : Shared) (H0 : Hp) (E : XK) : Cx := cxOf CX0 P w K mg base nTold "_law_is_told" (defScope sTold) f cdv A outer s0 H0 E
abbrev StT (p a : Addr) (told groups kind names odd rows text : Option V) : L2.St := [some (.ref p), some (.ref a), told, groups, none, none, kind, names, odd, rows, text, none]
/-- a frame and the parts that it was made of -/
structure Tl (C : Addr) (H : Hp) (p a : Addr) (v1 v2 v3 : V) (ps : List (Str × Str)) (qs rs : List Str) : Prop where
  fr : FrameAt C H p v1 v2 v3 ps qs rs
  pa : H a = some (.lst [v1, v2, v3])
  l1 : ps.length ≤ 12
  l2 : qs.length ≤ 6
  l3 : rs.length ≤ 6
  nd : (wordsOf ps qs rs).Nodup
  nm1 : ∀ p ∈ ps, p.1 ∈ LW ∧ p.2 ∈ LW ∧ nameS p.1 = true ∧ nameS p.2 = true
  nm2 : ∀ z ∈ qs, z ∈ LW ∧ nameS z = true
  nm3 : ∀ z ∈ rs, z ∈ LW ∧ nameS z = true
theorem Tl.same {C : Addr} {H H' : Hp} {p a : Addr} {v1 v2 v3 : V} {ps : List (Str × Str)} {qs rs : List Str} (t : Tl C H p a v1 v2 v3 ps qs rs) (s : Same H H') : Tl C H' p a v1 v2 v3 ps qs rs :=
  ⟨t.fr.same s, s _ _ t.pa, t.l1, t.l2, t.l3, t.nd, t.nm1, t.nm2, t.nm3⟩
section
variable {P : Program} {w : World} {K : PySem.W.Frag} {mg : Str → Option Value} {base : Heap} {C f : Addr} {cdv : Value} {A : Around} {outer : List Env} {s0 : Shared} {H0 : Hp} {E : XK} {k : Nat}
def w0 (C : Addr) : TS := fun D σ H => ∃ (p a : Addr) (v1 v2 v3 : V) (ps : List (Str × Str)) (qs rs : List Str), σ = StT p a none none none none none none none ∧ Tl C H p a v1 v2 v3 ps qs rs ∧
  ∀ (L t : Addr) (H' : Hp), Same H H' → H' t = some (.tup ((lensOf ps).map V.str)) → H' L = some (.lst [v1, v2, v3, .ref t]) → D.nx (StT p a (some (.ref L)) none none none none none none) H'
theorem told0 (R : TF P w K mg base C) (hr : Room k (A.deeper (envOfC "_law_is_told" (defScope sTold) s0.heap.objs.size f cdv))) (hk : 5 ≤ k) : PS (TX P w K mg base f cdv A outer s0 H0 E).nox (stT 0) (w0 C) := by
  refine ps_imp (ps_set (i := 2) scTold.nd rfl (.inl rfl) (pe_lst (pa_cons (pe_prp R.g0 (pv 0) R.T.cl hr (by omega)) (pa_cons (pe_prp R.g1 (pv 0) R.T.cl hr (by omega)) (pa_cons (pe_prp R.g2 (pv 0) R.T.cl hr (by omega)) (pa_cons (pe_prp R.g3 (pv 0) R.T.cl hr (by omega)) pa_nil)))))) ?_
  rintro D σ H ⟨p, a, v1, v2, v3, ps, qs, rs, rfl, T, q⟩
  obtain ⟨dx, t, d, e, ob, ht, _, _⟩ := T.fr.ob
  refine ⟨.ref p, rfl, p, dx, _, rfl, ob, ⟨p, dx, _, v1, rfl, ob, lookup_zip (i := 0) (by decide +kernel) rfl, .ref p, rfl, p, dx, _, rfl, ob, ⟨p, dx, _, v2, rfl, ob, lookup_zip (i := 1) (by decide +kernel) rfl, .ref p, rfl, p, dx, _, rfl, ob, ⟨p, dx, _, v3, rfl, ob, lookup_zip (i := 2) (by decide +kernel) rfl,
    .ref p, rfl, p, dx, _, rfl, ob, ⟨p, dx, _, .ref t, rfl, ob, lookup_zip (i := 3) (by decide +kernel) rfl, (by rw [sizeLine_eq]; show 4 ≤ 16777216; decide), fun L nL => ?_⟩⟩⟩⟩⟩
  have sL := same_upd (p := L) (o := .lst [v1, v2, v3, .ref t]) nL
  exact q L t _ sL (sL _ _ ht) upd_same
end
end K01

set_option autoImplicit false
set_option maxRecDepth 100000
set_option maxHeartbeats 4000000
namespace K01
open PySem PySem.Spec PyProof.Rows L2 KX
section
variable {P : Program} {w : World} {K : PySem.W.Frag} {mg : Str → Option Value} {base : Heap} {C f : Addr} {cdv : Value} {A : Around} {outer : List Env} {s0 : Shared} {H0 : Hp} {E : XK} {k : Nat}
theorem iteF' {c : Bool} {A B : Prop} (h : c = false) (b : B) : if c = true then A else B := by
  rw [h]
  exact iteF b
theorem iteT' {c : Bool} {A B : Prop} (h : c = true) (b : A) : if c = true then A else B := by
  rw [h]
  exact iteT b
theorem str_comp {z : Str} (h : z ∈ LW) : comp (.str z) = true := decide_eq_true h
theorem strs_comp {zs : List Str} (n : zs.length ≤ 13) (h : ∀ z ∈ zs, z ∈ LW) : comp (.tuple (zs.map PyData.str)) = true := by
  show (decide ((zs.map PyData.str).length ≤ 13) && (zs.map PyData.str).all (sm 2)) = true
  rw [List.length_map, decide_eq_true n, Bool.true_and]
  refine List.all_eq_true.mpr fun d hd => ?_
  obtain ⟨z, hz, rfl⟩ := List.mem_map.mp hd
  exact decide_eq_true (h z hz)
theorem prs_comp {ps : List (Str × Str)} (n : ps.length ≤ 13) (h : ∀ p ∈ ps, p.1 ∈ LW ∧ p.2 ∈ LW) : comp (.tuple (ps.map prD)) = true := by
  show (decide ((ps.map prD).length ≤ 13) && (ps.map prD).all (sm 2)) = true
  rw [List.length_map, decide_eq_true n, Bool.true_and]
  refine List.all_eq_true.mpr fun d hd => ?_
  obtain ⟨p, hp, rfl⟩ := List.mem_map.mp hd
  have h1 : sm 1 (.str p.1) = true := decide_eq_true (h p hp).1
  have h2 : sm 1 (.str p.2) = true := decide_eq_true (h p hp).2
  show (true && (sm 1 (.str p.1) && (sm 1 (.str p.2) && true))) = true
  rw [h1, h2]
  rfl
theorem Tl.shown {C : Addr} {H : Hp} {p a : Addr} {v1 v2 v3 : V} {ps : List (Str × Str)} {qs rs : List Str} (T : Tl C H p a v1 v2 v3 ps qs rs) :
    ∀ d ∈ [PyData.tuple (ps.map prD), .tuple (qs.map PyData.str), .tuple (rs.map PyData.str), .tuple ((lensOf ps).map PyData.str)], comp d = true := by
  intro d hd
  have l1 := T.l1
  have l2 := T.l2
  have l3 := T.l3
  have ll := lensOf_le ps
  simp only [List.mem_cons, List.not_mem_nil, or_false] at hd
  rcases hd with rfl | rfl | rfl | rfl
  · exact prs_comp (by omega) fun p hp => ⟨(T.nm1 p hp).1, (T.nm1 p hp).2.1⟩
  · exact strs_comp (by omega) fun z hz => (T.nm2 z hz).1
  · exact strs_comp (by omega) fun z hz => (T.nm3 z hz).1
  · refine strs_comp (by omega) fun z hz => ?_
    have := onceS_mem _ z hz
    obtain ⟨p, hp, rfl⟩ := List.mem_map.mp this
    exact (T.nm1 p hp).2.1
def w1 (C : Addr) : TS := fun D σ H => ∃ (p a L t : Addr) (v1 v2 v3 : V) (ps : List (Str × Str)) (qs rs : List Str), σ = StT p a (some (.ref L)) none none none none none none ∧ Tl C H p a v1 v2 v3 ps qs rs ∧ H t = some (.tup ((lensOf ps).map V.str)) ∧ H L = some (.lst [v1, v2, v3, .ref t]) ∧
  ∀ (H' : Hp), Same H H' → D.nx (StT p a (some (.ref L)) none none none none none none) H'
theorem told1 (R : TF P w K mg base C) (hG : (A.deeper (envOfC "_law_is_told" (defScope sTold) s0.heap.objs.size f cdv)).guards = some []) (hr : Room k (A.deeper (envOfC "_law_is_told" (defScope sTold) s0.heap.objs.size f cdv))) (hk : 5 ≤ k) : PS (TX P w K mg base f cdv A outer s0 H0 E).nox (stT 1) (w1 C) := by
  refine ps_imp (ps_if (pt_cmpR op_ne (pe_callB (call_reprL hG hr.units) (by rfl) R.mRepr (by decide +kernel) (pa_cons (pv 2) pa_nil)) (pe_callB (call_reprL hG hr.units) (by rfl) R.mRepr (by decide +kernel) (pa_cons (pe_op op_cat (pv 1) (pe_lst (pa_cons (pe_callTy call_tuple_of (by rfl) R.B.tuple (by decide +kernel) (pa_cons (pe_fnc R.lens hr (by omega) (by rfl) pass0 (pa_cons (pv 1) pa_nil)) pa_nil)) pa_nil))) pa_nil)) (nomark _)) (pss_one (ps_ret pe_bl)) pss_nil) ?_
  rintro D σ H ⟨p, a, L, t, v1, v2, v3, ps, qs, rs, rfl, T, ht, hL, q⟩
  have l1 := T.l1
  have tx : ∀ H', Txts H' (.ref t) (lensOf ps) → Shw H' (.ref t) (.tuple ((lensOf ps).map PyData.str)) := fun H' h => txts_shw h
  have sall : ∀ (H' : Hp) (t' : Addr), Same H H' → H' t' = some (.tup ((lensOf ps).map V.str)) → ShwAll H' [v1, v2, v3, .ref t'] [PyData.tuple (ps.map prD), .tuple (qs.map PyData.str), .tuple (rs.map PyData.str), .tuple ((lensOf ps).map PyData.str)] := fun H' t' s h =>
    .cons (Shw.same T.fr.ar s) (.cons (txts_shw (T.fr.po.same s)) (.cons (txts_shw (T.fr.va.same s)) (.cons (txts_shw ⟨t', rfl, h⟩) .nil)))
  obtain ⟨z1, z2, z3⟩ := show_list (by show 4 ≤ 13; decide) T.shown
  refine ⟨.ref L, rfl, L, v1, _, _, rfl, hL, sall H t (Same.refl _) ht, z1, z2, z3, ?_⟩
  refine ⟨.ref a, rfl, .ref a, rfl, a, v1, v2, v3, ps, rfl, T.pa, T.fr.ar, by omega, fun l H1 s1 hl => ?_⟩
  refine ⟨l, _, rfl, .inl ⟨SqL.of hl, fun t2 n2 => ?_⟩⟩
  have s2 := same_upd (p := t2) (o := .tup ((lensOf ps).map V.str)) n2
  refine ⟨(by rw [sizeLine_eq]; show 1 ≤ 16777216; decide), fun B nB => ?_⟩
  have s3 := same_upd (p := B) (o := .lst [.ref t2]) nB
  have s123 := s1.trans (s2.trans s3)
  refine ⟨a, B, _, _, rfl, rfl, s123 _ _ T.pa, upd_same, (by rw [sizeLine_eq]; show 4 ≤ 16777216; decide), fun G nG => ?_⟩
  have s4 := same_upd (p := G) (o := .lst ([v1, v2, v3] ++ [.ref t2])) nG
  refine ⟨G, v1, [v2, v3, .ref t2], _, rfl, upd_same, sall _ t2 (s123.trans s4) (s4 _ _ (s3 _ _ upd_same)), z1, z2, z3, rfl, _, rfl, ?_⟩
  refine iteF' (by simp) ?_
  exact q _ (s123.trans s4)
end
end K01

set_option autoImplicit false
set_option maxRecDepth 100000
set_option maxHeartbeats 4000000
namespace K01
open PySem PySem.Spec PyProof.Rows L2 KX
section
variable {K : PySem.W.Frag} {a : Addr} {xs : List V} {g : TG} {tt : TT} {te : TE} {vs : List Nat} {σ : L2.St} {H1 : Hp} {D : Addr} {Qd : Hp → Prop}
/-- a comprehension over a list that keeps none -/
theorem lc_noneL (hx : H1 a = some (.lst xs)) (n : H1 D = none)
    (step : ∀ (i : Nat) (x : V) (H' : Hp) (QY : VK) (QN : Hp → Prop), xs[i]? = some x → Same H1 H' → (∀ H4, Same H' H4 → QN H4) →
      g x (wipe σ vs) H' fun σ2 H2 => wipe σ2 vs = wipe σ vs ∧ tt σ2 H2 fun b H3 => if b = true then te σ2 H3 QY else QN H3)
    (fin : ∀ H', Same H1 H' → H' D = some (.lst []) → Qd H') :
    ∃ W : Nat → Nat → Hp → Prop, (∃ m, W 0 m (upd H1 D (.lst []))) ∧ ∀ i m H, W i m H →
      ((Itl K a).stop i H ∧ Qd H) ∨ ((Itl K a).go i H ∧ ∃ Nx : Hp → Prop, (∀ H', Nx H' → ∃ m', m' < m ∧ W (i + 1) m' H') ∧ ∀ x H', (Itl K a).yld i H x H' → g x (wipe σ vs) H' fun σ2 H2 => wipe σ2 vs = wipe σ vs ∧ tt σ2 H2 fun b H3 =>
        if b = true then te σ2 H3 fun y H4 => ∃ acc, H4 D = some (.lst acc) ∧ acc.length < sizeLine ∧ Nx (upd H4 D (.lst (acc ++ [y]))) else Nx H3) :=
  lc_list (K := K) (a := a) (xs := xs) (fun _ H' => Same H1 H' ∧ H' D = some (.lst [])) ⟨same_upd n, upd_same⟩ (fun i H' _ hP => SqL.of (hP.1 _ _ hx)) (fun i x H' hi hP => step i x H' _ _ hi hP.1 fun H4 s4 => ⟨hP.1.trans s4, s4 _ _ hP.2⟩) (fun H' hP => fin H' hP.1 hP.2)
/-- .. over a tuple -/
theorem lc_noneT (hx : H1 a = some (.tup xs)) (n : H1 D = none)
    (step : ∀ (i : Nat) (x : V) (H' : Hp) (QY : VK) (QN : Hp → Prop), xs[i]? = some x → Same H1 H' → (∀ H4, Same H' H4 → QN H4) →
      g x (wipe σ vs) H' fun σ2 H2 => wipe σ2 vs = wipe σ vs ∧ tt σ2 H2 fun b H3 => if b = true then te σ2 H3 QY else QN H3)
    (fin : ∀ H', Same H1 H' → H' D = some (.lst []) → Qd H') :
    ∃ W : Nat → Nat → Hp → Prop, (∃ m, W 0 m (upd H1 D (.lst []))) ∧ ∀ i m H, W i m H →
      ((Itt K a).stop i H ∧ Qd H) ∨ ((Itt K a).go i H ∧ ∃ Nx : Hp → Prop, (∀ H', Nx H' → ∃ m', m' < m ∧ W (i + 1) m' H') ∧ ∀ x H', (Itt K a).yld i H x H' → g x (wipe σ vs) H' fun σ2 H2 => wipe σ2 vs = wipe σ vs ∧ tt σ2 H2 fun b H3 =>
        if b = true then te σ2 H3 fun y H4 => ∃ acc, H4 D = some (.lst acc) ∧ acc.length < sizeLine ∧ Nx (upd H4 D (.lst (acc ++ [y]))) else Nx H3) :=
  lc_tup (K := K) (a := a) (xs := xs) (fun _ H' => Same H1 H' ∧ H' D = some (.lst [])) ⟨same_upd n, upd_same⟩ (fun i H' _ hP => SqT.of (hP.1 _ _ hx)) (fun i x H' hi hP => step i x H' _ _ hi hP.1 fun H4 s4 => ⟨hP.1.trans s4, s4 _ _ hP.2⟩) (fun H' hP => fin H' hP.1 hP.2)
end
theorem keysK_mem {v : V} {zs : List Str} {z : Str} (h : z ∈ zs) : ((.inr z : Key), v) ∈ keysK v zs := List.mem_map.mpr ⟨z, h, rfl⟩
theorem kinds_at {ps : List (Str × Str)} {qs rs : List Str} (nd : (wordsOf ps qs rs).Nodup) {z : Str} {v : V} (h : ((.inr z : Key), v) ∈ kindsOf ps qs rs) : valV (kindsOf ps qs rs) (.inr z) = some v := by
  refine val_nodup ?_ _ h
  rw [kinds_keys]
  exact List.pairwise_map.mpr (List.Pairwise.imp (fun h e => h (Sum.inr.inj e)) nd)
section
variable {P : Program} {w : World} {K : PySem.W.Frag} {mg : Str → Option Value} {base : Heap} {C f : Addr} {cdv : Value} {A : Around} {outer : List Env} {s0 : Shared} {H0 : Hp} {E : XK} {k : Nat}
def w2 (C : Addr) : TS := fun D σ H => ∃ (p a : Addr) (told : Option V) (v1 v2 v3 : V) (ps : List (Str × Str)) (qs rs : List Str), σ = StT p a told none none none none none none ∧ Tl C H p a v1 v2 v3 ps qs rs ∧
  ∀ (H' : Hp) (G t1 t2 n1 n2 : Addr), Same H H' → H' G = some (.lst [.ref t1, .ref t2]) → H' t1 = some (.tup [.str "array", .ref n1]) → H' t2 = some (.tup [.str "length", .ref n2]) → H' n1 = some (.lst ((ps.map (·.1)).map V.str)) → H' n2 = some (.lst ((lensOf ps).map V.str)) → D.nx (StT p a told (some (.ref G)) none none none none none) H'
theorem told2 (R : TF P w K mg base C) (hr : Room k (A.deeper (envOfC "_law_is_told" (defScope sTold) s0.heap.objs.size f cdv))) (hk : 5 ≤ k) : PS (TX P w K mg base f cdv A outer s0 H0 E).nox (stT 2) (w2 C) := by
  refine ps_imp (ps_set (i := 3) scTold.nd rfl (.inl rfl) (pe_lst (pa_cons (pe_tup (pa_cons pe_str (pa_cons (pe_lc (own := [("_law_name", 4), ("_law_length", 5)]) (g := gTup K 2 (gCons (gName 4) (gCons (gName 5) gNil))) (tt := tYes) rfl scTold.nd (pi_tup (pe_ix ix_list (pv 1) pe_int (fun _ _ => rfl))) (blkOk_by (N := nTold) (sc := defScope sTold) (by decide +kernel))
        (fun _ _ _ _ _ => pg_tup rfl (pgs_cons (pg_name (i := 4) scTold.nd rfl (Or.inl rfl) (Or.inr rfl)) (pgs_cons (pg_name (i := 5) scTold.nd rfl (Or.inl rfl) (Or.inr rfl)) pgs_nil))) (fun _ _ _ _ _ => pts_nil) (fun _ _ _ _ _ => pv 4)) pa_nil)))
      (pa_cons (pe_tup (pa_cons pe_str (pa_cons (pe_fnc R.lens hr (by omega) (by rfl) pass0 (pa_cons (pv 1) pa_nil)) pa_nil))) pa_nil)))) ?_
  rintro D σ H ⟨p, a, told, v1, v2, v3, ps, qs, rs, rfl, T, q⟩
  have l1 := T.l1
  obtain ⟨b, xs, rfl, e, ln, at_⟩ := arr_get T.fr.ar
  refine ⟨.ref a, rfl, a, _, 0, .ref b, rfl, rfl, SqL.of T.pa, rfl, b, rfl, ⟨_, SqT.of e⟩, fun n1 nn1 => ?_⟩
  refine lc_tup (K := K) (a := b) (xs := xs) (fun m H' => Same H H' ∧ H' n1 = some (.lst ((ps.take m).map fun p => V.str p.1))) ⟨same_upd nn1, upd_same⟩ (fun m H' _ hP => SqT.of (hP.1 _ _ e)) (fun m x H' hm hP => ?_) (fun H' hP => ?_)
  · obtain ⟨s1, d1⟩ := hP
    obtain ⟨p, c, hp, rfl, eb⟩ := at_ m x hm
    refine ⟨c, _, rfl, SqT.of (s1 _ _ eb), rfl, _, _, rfl, _, _, rfl, rfl, rfl, _, rfl, _, d1, ?_, fun c o z => ?_, ?_⟩
    · rw [List.length_map, List.length_take, sizeLine_eq]
      omega
    · rw [upd_ne (ne_of_none z nn1)]
      exact s1 _ _ z
    · rw [upd_same, List.take_add_one, hp, List.map_append]
      rfl
  · obtain ⟨s1, d1⟩ := hP
    rw [ln, List.take_length] at d1
    refine ⟨(by rw [sizeLine_eq]; show 2 ≤ 16777216; decide), fun t1 nt1 => ?_⟩
    have s2 := same_upd (p := t1) (o := .tup [.str "array", .ref n1]) nt1
    have s12 := s1.trans s2
    refine ⟨.ref a, rfl, a, .ref b, v2, v3, ps, rfl, s12 _ _ T.pa, Shw.same T.fr.ar s12, by omega, fun n2 H3 s3 hn2 => ⟨(by rw [sizeLine_eq]; show 2 ≤ 16777216; decide), fun t2 nt2 => ?_⟩⟩
    have s4 := same_upd (p := t2) (o := .tup [.str "length", .ref n2]) nt2
    refine ⟨(by rw [sizeLine_eq]; show 2 ≤ 16777216; decide), fun G nG => ?_⟩
    have s5 := same_upd (p := G) (o := .lst [.ref t1, .ref t2]) nG
    have s345 := s3.trans (s4.trans s5)
    refine q _ G t1 t2 n1 n2 (s12.trans s345) upd_same (s345 _ _ upd_same) (s5 _ _ upd_same) ?_ (s5 _ _ (s4 _ _ hn2))
    rw [List.map_map]
    exact s345 _ _ (s2 _ _ d1)
end
end K01

set_option autoImplicit false
set_option maxRecDepth 100000
set_option maxHeartbeats 4000000
namespace K01
open PySem PySem.Spec PyProof.Rows L2 KX
section
variable {P : Program} {w : World} {K : PySem.W.Frag} {mg : Str → Option Value} {base : Heap} {C f : Addr} {cdv : Value} {A : Around} {outer : List Env} {s0 : Shared} {H0 : Hp} {E : XK} {k : Nat}
/-- a group of names of one kind -/
def Grp (H : Hp) (ps : List (Str × Str)) (qs rs : List Str) (v : V) : Prop := ∃ (t n : Addr) (kd : Str) (zs : List Str), v = .ref t ∧ H t = some (.tup [.str kd, .ref n]) ∧ H n = some (.lst (zs.map V.str)) ∧ ∀ z ∈ zs, valV (kindsOf ps qs rs) (.inr z) = some (.str kd) ∧ z ∈ wordsOf ps qs rs ∧ z ∈ LW
theorem Grp.same {H H' : Hp} {ps : List (Str × Str)} {qs rs : List Str} {v : V} (g : Grp H ps qs rs v) (s : Same H H') : Grp H' ps qs rs v := by
  obtain ⟨t, n, kd, zs, e, h1, h2, h3⟩ := g
  exact ⟨t, n, kd, zs, e, s _ _ h1, s _ _ h2, h3⟩
theorem kinds_mem {ps : List (Str × Str)} {qs rs : List Str} (nd : (wordsOf ps qs rs).Nodup) :
    (∀ z ∈ ps.map (·.1), valV (kindsOf ps qs rs) (.inr z) = some (.str "array") ∧ z ∈ wordsOf ps qs rs) ∧ (∀ z ∈ lensOf ps, valV (kindsOf ps qs rs) (.inr z) = some (.str "length") ∧ z ∈ wordsOf ps qs rs) ∧
    (∀ z ∈ qs, valV (kindsOf ps qs rs) (.inr z) = some (.str "position") ∧ z ∈ wordsOf ps qs rs) ∧ (∀ z ∈ rs, valV (kindsOf ps qs rs) (.inr z) = some (.str "value") ∧ z ∈ wordsOf ps qs rs) := by
  refine ⟨fun z hz => ⟨kinds_at nd ?_, ?_⟩, fun z hz => ⟨kinds_at nd ?_, ?_⟩, fun z hz => ⟨kinds_at nd ?_, ?_⟩, fun z hz => ⟨kinds_at nd ?_, ?_⟩⟩
  · exact List.mem_append_left _ (List.mem_append_left _ (List.mem_append_left _ (keysK_mem hz)))
  · exact List.mem_append_left _ hz
  · exact List.mem_append_left _ (List.mem_append_left _ (List.mem_append_right _ (keysK_mem hz)))
  · exact List.mem_append_right _ (List.mem_append_left _ hz)
  · exact List.mem_append_left _ (List.mem_append_right _ (keysK_mem hz))
  · exact List.mem_append_right _ (List.mem_append_right _ (List.mem_append_left _ hz))
  · exact List.mem_append_right _ (keysK_mem hz)
  · exact List.mem_append_right _ (List.mem_append_right _ (List.mem_append_right _ hz))
def w3 (C : Addr) : TS := fun D σ H => ∃ (p a : Addr) (told : Option V) (v1 v2 v3 : V) (ps : List (Str × Str)) (qs rs : List Str) (G t1 t2 n1 n2 : Addr), σ = StT p a told (some (.ref G)) none none none none none ∧ Tl C H p a v1 v2 v3 ps qs rs ∧
  H G = some (.lst [.ref t1, .ref t2]) ∧ H t1 = some (.tup [.str "array", .ref n1]) ∧ H t2 = some (.tup [.str "length", .ref n2]) ∧ H n1 = some (.lst ((ps.map (·.1)).map V.str)) ∧ H n2 = some (.lst ((lensOf ps).map V.str)) ∧
  ∀ (H' : Hp) (kd ns : Option V), Same H H' → D.nx (StT p a told (some (.ref G)) kd ns none none none) H'
theorem told3 (R : TF P w K mg base C) (hr : Room k (A.deeper (envOfC "_law_is_told" (defScope sTold) s0.heap.objs.size f cdv))) (hk : 5 ≤ k) : PS (TX P w K mg base f cdv A outer s0 H0 E).nox (stT 3) (w3 C) := by
  refine ps_imp (ps_for PassesOwn.never rfl (pi_list (pe_op op_cat (pv 3) (pe_lst (pa_cons (pe_tup (pa_cons pe_str (pa_cons (pe_callTy call_list_of (by rfl) R.B.list (by decide +kernel) (pa_cons (pe_ix ix_list (pv 1) pe_int (fun _ _ => rfl)) pa_nil)) pa_nil)))
        (pa_cons (pe_tup (pa_cons pe_str (pa_cons (pe_callTy call_list_of (by rfl) R.B.list (by decide +kernel) (pa_cons (pe_ix ix_list (pv 1) pe_int (fun _ _ => rfl)) pa_nil)) pa_nil))) pa_nil)))))
      (pg_tup rfl (pgs_cons (pg_name (i := 6) scTold.nd rfl (Or.inr rfl)) (pgs_cons (pg_name (i := 7) scTold.nd rfl (Or.inl rfl)) pgs_nil)))
    (pss_one (ps_if (pt_cmpR (op_neD hr.units) (pe_lc (own := [("_law_name", 4)]) (g := gName 4) rfl scTold.nd (pi_list (pv 7)) (blkOk_by (N := nTold) (sc := defScope sTold) (by decide +kernel))
          (fun _ _ _ _ _ => pg_name (i := 4) scTold.nd rfl (Or.inl rfl) (Or.inr rfl))
          (fun _ _ _ _ _ => pts_one (PW.pt (pw_or (pt_cmpR op_ne (pe_om R.kind R.T.cl hr (by omega) pass0 (pv 0) (pa_cons (pv 4) pa_nil)) (pv 6) (by with_unfolding_all rfl))
            (pw_or (pt_cmpR (R.isIn.notIn hr (by omega) pass0) (pv 4) (pv 0) (by with_unfolding_all rfl)) (pw_or1 (pt_val (pe_om R.fresh R.T.cl hr (by omega) pass0 (pv 0) (pa_cons (pv 4) pa_nil))))))))
          (fun _ _ _ _ _ => pv 4)) (pe_lst pa_nil) (nomark _)) (pss_one (ps_ret pe_bl)) pss_nil))) ?_
  rintro D σ H ⟨p, a, told, v1, v2, v3, ps, qs, rs, G, t1, t2, n1, n2, rfl, T, hG, ht1, ht2, hn1, hn2, q⟩
  obtain ⟨a2, rfl, e2⟩ := id T.fr.po
  obtain ⟨a3, rfl, e3⟩ := id T.fr.va
  refine ⟨.ref G, rfl, .ref a, rfl, a, _, 1, .ref a2, rfl, rfl, SqL.of T.pa, rfl, a2, _, rfl, .inr (SqT.of e2), fun n3 nn3 => ⟨(by rw [sizeLine_eq]; show 2 ≤ 16777216; decide), fun t3 nt3 => ?_⟩⟩
  have s1 := (same_upd (p := n3) (o := .lst (qs.map V.str)) nn3).trans (same_upd (p := t3) (o := .tup [.str "position", .ref n3]) nt3)
  have hn3 : (upd (upd H n3 (.lst (qs.map V.str))) t3 (.tup [.str "position", .ref n3])) n3 = some (.lst (qs.map V.str)) := same_upd nt3 _ _ upd_same
  have ht3 : (upd (upd H n3 (.lst (qs.map V.str))) t3 (.tup [.str "position", .ref n3])) t3 = some (.tup [.str "position", .ref n3]) := upd_same
  generalize upd (upd H n3 (.lst (qs.map V.str))) t3 (.tup [.str "position", .ref n3]) = H1 at s1 hn3 ht3 ⊢
  refine ⟨.ref a, rfl, a, _, 2, .ref a3, rfl, rfl, SqL.of (s1 _ _ T.pa), rfl, a3, _, rfl, .inr (SqT.of (s1 _ _ e3)), fun n4 nn4 => ⟨(by rw [sizeLine_eq]; show 2 ≤ 16777216; decide), fun t4 nt4 => ?_⟩⟩
  have s2 := (same_upd (p := n4) (o := .lst (rs.map V.str)) nn4).trans (same_upd (p := t4) (o := .tup [.str "value", .ref n4]) nt4)
  have hn4 : (upd (upd H1 n4 (.lst (rs.map V.str))) t4 (.tup [.str "value", .ref n4])) n4 = some (.lst (rs.map V.str)) := same_upd nt4 _ _ upd_same
  have ht4 : (upd (upd H1 n4 (.lst (rs.map V.str))) t4 (.tup [.str "value", .ref n4])) t4 = some (.tup [.str "value", .ref n4]) := upd_same
  generalize upd (upd H1 n4 (.lst (rs.map V.str))) t4 (.tup [.str "value", .ref n4]) = H2 at s2 hn4 ht4 ⊢
  refine ⟨(by rw [sizeLine_eq]; show 2 ≤ 16777216; decide), fun B nB => ?_⟩
  have s3 := same_upd (p := B) (o := .lst [.ref t3, .ref t4]) nB
  have s123 := s1.trans (s2.trans s3)
  refine ⟨G, B, _, _, rfl, rfl, s123 _ _ hG, upd_same, (by rw [sizeLine_eq]; show 4 ≤ 16777216; decide), fun Lp nLp => ?_⟩
  have s4 := same_upd (p := Lp) (o := .lst ([.ref t1, .ref t2] ++ [.ref t3, .ref t4])) nLp
  have sA := s123.trans s4
  have s34 := s3.trans s4
  have eLp : (upd (upd H2 B (.lst [.ref t3, .ref t4])) Lp (.lst ([.ref t1, .ref t2] ++ [.ref t3, .ref t4]))) Lp = some (.lst [.ref t1, .ref t2, .ref t3, .ref t4]) := upd_same
  obtain ⟨k1, k2, k3, k4⟩ := kinds_mem T.nd
  have all : ∀ v ∈ [V.ref t1, .ref t2, .ref t3, .ref t4], Grp (upd (upd H2 B (.lst [.ref t3, .ref t4])) Lp (.lst ([.ref t1, .ref t2] ++ [.ref t3, .ref t4]))) ps qs rs v := fun v hv => by
    simp only [List.mem_cons, List.not_mem_nil, or_false] at hv
    rcases hv with rfl | rfl | rfl | rfl
    · refine ⟨t1, n1, _, _, rfl, sA _ _ ht1, sA _ _ hn1, fun z hz => ⟨(k1 z hz).1, (k1 z hz).2, ?_⟩⟩
      obtain ⟨p, hp, rfl⟩ := List.mem_map.mp hz
      exact (T.nm1 p hp).1
    · refine ⟨t2, n2, _, _, rfl, sA _ _ ht2, sA _ _ hn2, fun z hz => ⟨(k2 z hz).1, (k2 z hz).2, ?_⟩⟩
      obtain ⟨p, hp, rfl⟩ := List.mem_map.mp (onceS_mem _ z hz)
      exact (T.nm1 p hp).2.1
    · exact ⟨t3, n3, _, _, rfl, s34 _ _ (s2 _ _ ht3), s34 _ _ (s2 _ _ hn3), fun z hz => ⟨(k3 z hz).1, (k3 z hz).2, (T.nm2 z hz).1⟩⟩
    · exact ⟨t4, n4, _, _, rfl, s34 _ _ ht4, s34 _ _ hn4, fun z hz => ⟨(k4 z hz).1, (k4 z hz).2, (T.nm3 z hz).1⟩⟩
  generalize upd (upd H2 B (.lst [.ref t3, .ref t4])) Lp (.lst ([.ref t1, .ref t2] ++ [.ref t3, .ref t4])) = H3 at sA eLp all ⊢
  refine ⟨Lp, rfl, ⟨_, SqL.of eLp⟩, ?_⟩
  refine for_list (K := K) (a := Lp) (xs := [.ref t1, .ref t2, .ref t3, .ref t4]) (fun _ σ' H' => (∃ kd ns, σ' = StT p a told (some (.ref G)) kd ns none none none) ∧ Same H3 H') ⟨⟨none, none, rfl⟩, Same.refl _⟩ (fun i σ' H' _ hP => SqL.of (hP.2 _ _ eLp)) (fun i x σ' H' hi hP => ?_) (fun σ' H' hP => ?_)
  · obtain ⟨⟨kd0, ns0, rfl⟩, s5⟩ := hP
    obtain ⟨t, n, kd, zs, rfl, et, en, hz⟩ := (all x (List.mem_of_getElem? hi)).same s5
    have T5 := T.same (sA.trans s5)
    refine ⟨t, _, rfl, SqT.of et, rfl, _, _, rfl, _, _, rfl, rfl, ?_⟩
    refine ⟨.ref n, rfl, n, rfl, ⟨_, SqL.of en⟩, fun N nN => ?_⟩
    refine lc_noneL (K := K) (a := n) (xs := zs.map V.str) en nN (fun j y H6 QY QN hj s6 kN => ?_) (fun H6 s6 d6 => ?_)
    · obtain ⟨z, hzj, rfl⟩ : ∃ z, zs[j]? = some z ∧ y = .str z := by
        rw [List.getElem?_map] at hj
        cases e : zs[j]? with
        | none => rw [e] at hj; cases hj
        | some z => rw [e] at hj; cases hj; exact ⟨z, rfl, rfl⟩
      obtain ⟨q1, q2, q3⟩ := hz z (List.mem_of_getElem? hzj)
      have Fr := T5.fr.same s6
      obtain ⟨dx, t', d', e', ob, _⟩ := id Fr.ob
      have hw : hasW (wordsOf ps qs rs) (.str z) = true := decide_eq_true q2
      refine ⟨rfl, .ref p, rfl, p, dx, _, rfl, ob, lookup_zip_none (by decide +kernel), .str z, rfl, p, v1, .ref a2, .ref a3, ps, qs, rs, z, .str kd, rfl, Fr, q1, .str kd, rfl, rfl, _, rfl, ?_⟩
      refine iteF' (by simp) ?_
      refine ⟨.str z, rfl, .ref p, rfl, p, dx, _, rfl, ob, p, v1, .ref a2, .ref a3, ps, qs, rs, .str z, .str z, rfl, Fr, .str z, ⟨_, rfl, ⟨_, rfl, ?_⟩⟩⟩
      refine iteF' (by rw [hw]; rfl) ?_
      refine ⟨.ref p, rfl, p, dx, _, rfl, ob, lookup_zip_none (by decide +kernel), .str z, rfl, p, v1, .ref a2, .ref a3, ps, qs, rs, .str z, .str z, rfl, Fr, .str z, (comp_ok (str_comp q3)).g, fun H7 s7 => ⟨_, rfl, ?_⟩⟩
      refine iteF' (by rw [hw]; simp) ?_
      exact kN H7 s7
    · refine ⟨(by rw [sizeLine_eq]; decide), fun M nM => ?_⟩
      have s7 := same_upd (p := M) (o := .lst []) nM
      have z2 : SeqAt.shaped (.list []) = true := low_list fun d hd => nomatch hd
      refine ⟨.list [], .list [], .lst (SqL.of (s7 _ _ d6)) .nil, .lst (SqL.of upd_same) .nil, z2, z2, _, rfl, ?_⟩
      refine iteF' (by simp [PyData.eqv, PyData.eqvAll]) ?_
      exact ⟨⟨_, _, rfl⟩, (s5.trans s6).trans s7⟩
  · obtain ⟨⟨kd0, ns0, rfl⟩, s5⟩ := hP
    exact q H' kd0 ns0 (sA.trans s5)
end
end K01

set_option autoImplicit false
set_option maxRecDepth 100000
set_option maxHeartbeats 4000000
namespace KX
open PySem PySem.Spec PyProof.Rows L2 PySem.SeqAt
open PySem.AutoSeq1 (wpAny_loadPart')
open PySem.MeetsSeq
theorem str_declines_dict (b : Str) (u : Tok) (l : Addr) (es : Array DictEntry) (n : Nat) (dd : Option Addr) (sl : Array (Option Value)) :
    Meets (Builtin.«str.__eq__» ⟨[.str b u, .ref l], []⟩) (fun _ R s => s.heap.get? l = some { cls := .type "dict", dict := dd, data := .dict es n, slots := sl } ∧ R (.ok (.ret .notImplemented)) s) :=
  .of_wp fun prog w A R s h => by obtain ⟨hp, g, d, tk, os⟩ := s; obtain ⟨hl, h⟩ := h; wp_walk using wpAny_loadPart' hl, wpAny_load hl; exact ⟨_, rfl, h⟩
section
variable {A : Around} {s : Shared}
theorem str_dict {l : Addr} {es : Array DictEntry} {n : Nat} {o : Obj} (b : Str) (u : Tok) (ho : s.heap.get? l = some o) (hc : o.cls = .type "dict") (hd : o.data = .dict es n) (hu : A.units < cLine) : EqAt A s (.str b u) (.ref l) false := fun prog w E Q h => by
  unfold eqBool
  refine wpAny_holding ?_
  refine wpAny_ite_split (fun hab => absurd (eq_of_beq hab) nofun) (fun _ => ?_)
  refine wpAny_bind ?_
  obtain ⟨cls, dd, data, sl⟩ := o
  simp only at hc hd
  subst hc hd
  have ty : s.TypeIs (.ref l) "dict" := ⟨_, ho, rfl⟩
  refine rc_eq_decline_or (k := false) (typeIs_str s b u) ty (by decide) F.sub_dict_str F.slot_str_eq F.slot_dict_eq_refl
    (fun _ hq => call_meets F.slot_str_eq (typeIs_str s b u) F.entry_str_eq (F.args_str_eq_2 _ _) (str_declines_dict b u l es n dd sl) ⟨ho, hq⟩)
    (fun Q' hq => wpAny_call_entry F.slot_dict_eq_refl ty F.entry_dict_eq ?_ (F.args_dict_eq_2 _ _))
    (fun _ hq => wpAny_of_eq (rfl : isSame (.str b u) (.ref l) = pure false) hq) (.inr hu) (wpAny_truthy_bool h)
  show wpAny _ _ (Builtin.Dict.dictSlotArgs "__eq__" ⟨[.ref l, .str b u], []⟩ >>= _) _ _ s
  refine wpAny_bind ?_
  unfold Builtin.Dict.dictSlotArgs
  refine wpAny_bind (wpAny_notOrdered_dict ty ?_)
  show wpAny _ _ (pure (Value.ref l, Value.str b u)) _ _ s
  refine wpAny_pure ?_
  refine wpAny_bind (wpAny_isInstance (T := "str") (typeIs_str s b u) PySem.F.sub_str_dict ?_)
  simp only [Bool.not_false, if_true]
  exact wpAny_bind (wpAny_rule (wpAny_pure ⟨_, rfl, hq⟩))
end
end KX

set_option autoImplicit false
set_option maxRecDepth 100000
set_option maxHeartbeats 4000000
namespace K01
open PySem PySem.Spec PyProof.Rows L2 KX
/-- which items of a tuple of texts are it -/
def eS (d : PyData) : Value → Bool
  | .str z _ => match d with
    | .str y => decide (y = z)
    | _ => false
  | _ => false
theorem any_eS (d : PyData) : ∀ {zs : List Str} {us : List Value}, Vals (zs.map V.str) us → us.any (eS d) = hasW zs d
  | [], _, .nil => by cases d <;> rfl
  | z :: zs, _, .cons r t => by
    obtain ⟨k, rfl⟩ := r
    rw [List.any_cons, any_eS d t]
    cases d with
    | str y =>
      show (decide (y = z) || decide (y ∈ zs)) = decide (y ∈ z :: zs)
      by_cases e : y = z <;> simp [e]
    | _ => rfl
section
variable {X : Cx}
def rInT (K : PySem.W.Frag) : R2 := fun x y H Q => ∃ p zs d, y = .ref p ∧ SqT K H p (zs.map V.str) ∧ Shw H x d ∧ Q (.bl (hasW zs d)) H
/-- x in a tuple of texts, x any data -/
theorem op_inT (hu : X.A.units + 64 < cLine) : OpR X (compareOp .In) (rInT X.K) := by
  intro pins s σ H x y v u Q I rx ry h
  obtain ⟨p, zs, d, rfl, hq, sh, q⟩ := h
  cases ry
  obtain ⟨its, r, pl, hz⟩ := I.tuple hq
  refine SeqAt.in_tupleAt (eS d) pl (fun w hw => ?_) ⟨.bl _, H, I, rfl, ?_⟩
  · have hu1 : X.A.in1.units < cLine := by show X.A.units + 1 < cLine; omega
    obtain ⟨i, hi⟩ := List.getElem?_of_mem (show w ∈ its by simpa using hw)
    obtain ⟨z, t, _, rfl⟩ := strs_vals r i w hi
    cases sh with
    | non =>
      cases rx
      exact SeqAt.EqAt.str_none z t
    | bl b =>
      cases rx
      exact SeqAt.EqAt.str_bool z t b
    | int i =>
      obtain ⟨t', rfl⟩ := rx
      exact SeqAt.EqAt.str_int z t i t'
    | str y =>
      obtain ⟨t', rfl⟩ := rx
      have e := SeqAt.EqAt.str_str (A := X.A.in1) (s := s) z t y t'
      have e2 : (z == y) = eS (.str y) (.str z t) := by
        show (z == y) = decide (y = z)
        by_cases e : y = z
        · subst e; simp
        · have : ¬ z = y := fun k => e k.symm
          simp [e, this]
      rw [e2] at e
      exact e
    | lst e _ =>
      cases rx
      obtain ⟨_, its2, n, rv, g⟩ := lst_get I.hok e
      exact SeqAt.EqAt.str_list z t ⟨_, g, rfl, _, rfl⟩ hu1
    | tup e _ =>
      cases rx
      obtain ⟨_, its2, rv, g⟩ := tup_get I.hok e
      exact SeqAt.EqAt.str_tuple z t g hu1
    | dct e =>
      cases rx
      obtain ⟨_, o, n, g, hc, hd⟩ := dct_get I.hok e
      exact str_dict z t g hc hd hu1
  · rw [show its.toArray.any (eS d) = its.any (eS d) by simp, any_eS d r]
    exact q
end
end K01

set_option autoImplicit false
set_option maxRecDepth 100000
set_option maxHeartbeats 4000000
namespace K01
open PySem PySem.Spec PyProof.Rows L2 KX
section
variable {P : Program} {w : World} {K : PySem.W.Frag} {mg : Str → Option Value} {base : Heap} {C f : Addr} {cdv : Value} {A : Around} {outer : List Env} {s0 : Shared} {H0 : Hp} {E : XK} {k : Nat}
theorem len_at {ps : List (Str × Str)} {qs rs : List Str} (nd : (wordsOf ps qs rs).Nodup) {p : Str × Str} (h : p ∈ ps) : valV (lenK ps) (.inr p.1) = some (.str p.2) := by
  have e : ((.inr p.1 : Key), V.str p.2) ∈ lenK ps := List.mem_map.mpr ⟨p, h, rfl⟩
  refine val_nodup ?_ _ e
  rw [lenK_keys]
  exact List.pairwise_map.mpr (List.Pairwise.imp (fun h e => h (Sum.inr.inj e)) (List.nodup_append.mp nd).1)
def w4 (C : Addr) : TS := fun D σ H => ∃ (p a : Addr) (told gr kd ns : Option V) (v1 v2 v3 : V) (ps : List (Str × Str)) (qs rs : List Str), σ = StT p a told gr kd ns none none none ∧ Tl C H p a v1 v2 v3 ps qs rs ∧
  ∀ (H' : Hp), Same H H' → D.nx (StT p a told gr kd ns none none none) H'
theorem told4 (R : TF P w K mg base C) (hr : Room k (A.deeper (envOfC "_law_is_told" (defScope sTold) s0.heap.objs.size f cdv))) (hk : 5 ≤ k) : PS (TX P w K mg base f cdv A outer s0 H0 E).nox (stT 4) (w4 C) := by
  refine ps_imp (ps_if (pt_cmpR (op_neD hr.units) (pe_lc (own := [("_law_name", 4), ("_law_length", 5)]) (g := gTup K 2 (gCons (gName 4) (gCons (gName 5) gNil))) rfl scTold.nd (pi_tup (pe_ix ix_list (pv 1) pe_int (fun _ _ => rfl))) (blkOk_by (N := nTold) (sc := defScope sTold) (by decide +kernel))
          (fun _ _ _ _ _ => pg_tup rfl (pgs_cons (pg_name (i := 4) scTold.nd rfl (Or.inl rfl) (Or.inr rfl)) (pgs_cons (pg_name (i := 5) scTold.nd rfl (Or.inl rfl) (Or.inr rfl)) pgs_nil)))
          (fun _ _ _ _ _ => pts_one (pt_cmpR op_ne (pe_om R.lenOf R.T.cl hr (by omega) pass0 (pv 0) (pa_cons (pv 4) pa_nil)) (pv 5) (by with_unfolding_all rfl)))
          (fun _ _ _ _ _ => pv 4)) (pe_lst pa_nil) (nomark _)) (pss_one (ps_ret pe_bl)) pss_nil) ?_
  rintro D σ H ⟨p, a, told, gr, kd, ns, v1, v2, v3, ps, qs, rs, rfl, T, q⟩
  obtain ⟨b, xs, rfl, e, ln, at_⟩ := arr_get T.fr.ar
  refine ⟨.ref a, rfl, a, _, 0, .ref b, rfl, rfl, SqL.of T.pa, rfl, b, rfl, ⟨_, SqT.of e⟩, fun N nN => ?_⟩
  refine lc_noneT (K := K) (a := b) (xs := xs) e nN (fun j y H6 QY QN hj s6 kN => ?_) (fun H6 s6 d6 => ?_)
  · obtain ⟨pr, c, hp, rfl, eb⟩ := at_ j y hj
    have Fr := T.fr.same s6
    obtain ⟨dx, t', d', e', ob, _⟩ := id Fr.ob
    have mp := List.mem_of_getElem? hp
    obtain ⟨k1, _⟩ := kinds_mem T.nd
    refine ⟨c, _, rfl, SqT.of (s6 _ _ eb), rfl, _, _, rfl, _, _, rfl, rfl, rfl, ?_⟩
    refine ⟨.ref p, rfl, p, dx, _, rfl, ob, lookup_zip_none (by decide +kernel), .str pr.1, rfl, p, .ref b, v2, v3, ps, qs, rs, pr.1, .str pr.2, rfl, Fr, (k1 _ (List.mem_map.mpr ⟨pr, mp, rfl⟩)).1, len_at T.nd mp, fun H7 s7 => ⟨.str pr.2, rfl, rfl, _, rfl, ?_⟩⟩
    refine iteF' (by simp) ?_
    exact kN H7 s7
  · refine ⟨(by rw [sizeLine_eq]; decide), fun M nM => ?_⟩
    have s7 := same_upd (p := M) (o := .lst []) nM
    have z2 : SeqAt.shaped (.list []) = true := low_list fun d hd => nomatch hd
    refine ⟨.list [], .list [], .lst (SqL.of (s7 _ _ d6)) .nil, .lst (SqL.of upd_same) .nil, z2, z2, _, rfl, ?_⟩
    refine iteF' (by simp [PyData.eqv, PyData.eqvAll]) ?_
    exact q _ (s6.trans s7)
end
end K01

set_option autoImplicit false
set_option maxRecDepth 100000
set_option maxHeartbeats 4000000
namespace K01
open PySem PySem.Spec PyProof.Rows L2 KX
section
variable {P : Program} {w : World} {K : PySem.W.Frag} {mg : Str → Option Value} {base : Heap} {C f : Addr} {cdv : Value} {A : Around} {outer : List Env} {s0 : Shared} {H0 : Hp} {E : XK} {k : Nat}
def oddD : List PyData := [.str "fresh", .str "qqqqqqqq", .str "", .str "A", .str "ninelette", .none, .int 0, .tuple [.str "a"], .list [.str "a"], .dict [], .str "*1"]
theorem Tl.words {C : Addr} {H : Hp} {p a : Addr} {v1 v2 v3 : V} {ps : List (Str × Str)} {qs rs : List Str} (T : Tl C H p a v1 v2 v3 ps qs rs) : ∀ z ∈ wordsOf ps qs rs, z ∈ LW ∧ nameS z = true := by
  intro z hz
  unfold wordsOf at hz
  rcases List.mem_append.mp hz with h | h
  · obtain ⟨p, hp, rfl⟩ := List.mem_map.mp h
    exact ⟨(T.nm1 p hp).1, (T.nm1 p hp).2.2.1⟩
  rcases List.mem_append.mp h with h | h
  · obtain ⟨p, hp, rfl⟩ := List.mem_map.mp (onceS_mem _ z h)
    exact ⟨(T.nm1 p hp).2.1, (T.nm1 p hp).2.2.2⟩
  rcases List.mem_append.mp h with h | h
  · exact T.nm2 z h
  · exact T.nm3 z h
theorem odd_is {ws : List Str} (h : ∀ z ∈ ws, z ∈ LW ∧ nameS z = true) : ∀ d ∈ oddD, hasW ws d = false ∧ (isNm d && !hasW ws d) = hasW ["fresh", "qqqqqqqq"] d ∧ gd d = true := by
  have noN : ∀ z : Str, nameS z = false → hasW ws (.str z) = false := fun z e => decide_eq_false fun m => by
    rw [(h z m).2] at e
    cases e
  have noL : ∀ z : Str, z ∉ LW → hasW ws (.str z) = false := fun z e => decide_eq_false fun m => e (h z m).1
  intro d hd
  simp only [oddD, List.mem_cons, List.not_mem_nil, or_false] at hd
  rcases hd with rfl | rfl | rfl | rfl | rfl | rfl | rfl | rfl | rfl | rfl | rfl
  · rw [noL _ (by decide +kernel)]
    exact ⟨rfl, by decide +kernel, by decide +kernel⟩
  · rw [noL _ (by decide +kernel)]
    exact ⟨rfl, by decide +kernel, by decide +kernel⟩
  · rw [noN _ (by decide +kernel)]
    exact ⟨rfl, by decide +kernel, by decide +kernel⟩
  · rw [noN _ (by decide +kernel)]
    exact ⟨rfl, by decide +kernel, by decide +kernel⟩
  · rw [noN _ (by decide +kernel)]
    exact ⟨rfl, by decide +kernel, by decide +kernel⟩
  · exact ⟨rfl, rfl, rfl⟩
  · exact ⟨rfl, rfl, rfl⟩
  · exact ⟨rfl, rfl, by decide +kernel⟩
  · exact ⟨rfl, rfl, by decide +kernel⟩
  · exact ⟨rfl, rfl, rfl⟩
  · rw [noN _ (by decide +kernel)]
    exact ⟨rfl, by decide +kernel, by decide +kernel⟩
def w5 (C : Addr) : TS := fun D σ H => ∃ (p a : Addr) (told gr kd ns : Option V) (v1 v2 v3 : V) (ps : List (Str × Str)) (qs rs : List Str), σ = StT p a told gr kd ns none none none ∧ Tl C H p a v1 v2 v3 ps qs rs ∧
  ∀ (H' : Hp) (od : Option V), Same H H' → D.nx (StT p a told gr kd ns od none none) H'
theorem told5 (R : TF P w K mg base C) (hr : Room k (A.deeper (envOfC "_law_is_told" (defScope sTold) s0.heap.objs.size f cdv))) (hk : 5 ≤ k) : PS (TX P w K mg base f cdv A outer s0 H0 E).nox (stT 5) (w5 C) := by
  refine ps_imp (ps_for PassesOwn.never rfl (pi_tup (pe_tup (pa_cons pe_str (pa_cons pe_str (pa_cons pe_str (pa_cons pe_str (pa_cons pe_str (pa_cons pe_non (pa_cons pe_int (pa_cons (pe_tup (pa_cons pe_str pa_nil)) (pa_cons (pe_lst (pa_cons pe_str pa_nil)) (pa_cons pe_dnewK (pa_cons pe_str pa_nil)))))))))))))
      (pg_name (i := 8) scTold.nd rfl (Or.inl rfl))
    (pss_one (ps_if (PW.pt (pw_or (pt_cmpR (R.isIn.isIn hr (by omega) pass0) (pv 8) (pv 0) (by with_unfolding_all rfl))
      (pw_or1 (pt_cmpR op_ne (pe_callB call_repr_bl (by rfl) R.mRepr (by decide +kernel) (pa_cons (pe_om R.fresh R.T.cl hr (by omega) pass0 (pv 0) (pa_cons (pv 8) pa_nil)) pa_nil))
        (pe_callB call_repr_bl (by rfl) R.mRepr (by decide +kernel) (pa_cons (pe_cmpR (op_inT hr.units) (pv 8) (pe_tup (pa_cons pe_str (pa_cons pe_str pa_nil))) (by with_unfolding_all rfl)) pa_nil)) (nomark _)))))
      (pss_one (ps_ret pe_bl)) pss_nil))) ?_
  rintro D σ H ⟨p, a, told, gr, kd, ns, v1, v2, v3, ps, qs, rs, rfl, T, q⟩
  refine ⟨(by rw [sizeLine_eq]; show 1 ≤ 16777216; decide), fun t1 n1 => ⟨(by rw [sizeLine_eq]; show 1 ≤ 16777216; decide), fun l1 n2 => fun d1 n3 => ?_⟩⟩
  have s1 := same_upd (p := t1) (o := .tup [.str "a"]) n1
  have s2 := same_upd (p := l1) (o := .lst [.str "a"]) n2
  have s3 := same_upd (p := d1) (o := .dK []) n3
  have s123 := s1.trans (s2.trans s3)
  have e1 := (s2.trans s3) t1 _ upd_same
  have e2 := s3 l1 _ upd_same
  have e3 : (upd (upd (upd H t1 (.tup [.str "a"])) l1 (.lst [.str "a"])) d1 (.dK [])) d1 = some (.dK []) := upd_same
  generalize upd (upd (upd H t1 (.tup [.str "a"])) l1 (.lst [.str "a"])) d1 (.dK []) = H1 at s123 e1 e2 e3 ⊢
  refine ⟨(by rw [sizeLine_eq]; show 11 ≤ 16777216; decide), fun U nU => ⟨U, rfl, ⟨_, SqT.of upd_same⟩, ?_⟩⟩
  have s4 := same_upd (p := U) (o := .tup [.str "fresh", .str "qqqqqqqq", .str "", .str "A", .str "ninelette", .non, .int 0, .ref t1, .ref l1, .ref d1, .str "*1"]) nU
  have eU : (upd H1 U (.tup [.str "fresh", .str "qqqqqqqq", .str "", .str "A", .str "ninelette", .non, .int 0, .ref t1, .ref l1, .ref d1, .str "*1"])) U = some (.tup [.str "fresh", .str "qqqqqqqq", .str "", .str "A", .str "ninelette", .non, .int 0, .ref t1, .ref l1, .ref d1, .str "*1"]) := upd_same
  have sh : ShwAll (upd H1 U (.tup [.str "fresh", .str "qqqqqqqq", .str "", .str "A", .str "ninelette", .non, .int 0, .ref t1, .ref l1, .ref d1, .str "*1"])) [.str "fresh", .str "qqqqqqqq", .str "", .str "A", .str "ninelette", .non, .int 0, .ref t1, .ref l1, .ref d1, .str "*1"] oddD :=
    .cons (.str _) (.cons (.str _) (.cons (.str _) (.cons (.str _) (.cons (.str _) (.cons .non (.cons (.int 0) (.cons (.tup (s4 _ _ e1) (.cons (.str _) .nil)) (.cons (.lst (s4 _ _ e2) (.cons (.str _) .nil)) (.cons (.dct (s4 _ _ e3)) (.cons (.str _) .nil))))))))))
  have sA := s123.trans s4
  have odd := odd_is T.words
  generalize upd H1 U (.tup [.str "fresh", .str "qqqqqqqq", .str "", .str "A", .str "ninelette", .non, .int 0, .ref t1, .ref l1, .ref d1, .str "*1"]) = H2 at sA eU sh ⊢
  generalize [V.str "fresh", .str "qqqqqqqq", .str "", .str "A", .str "ninelette", .non, .int 0, .ref t1, .ref l1, .ref d1, .str "*1"] = xs at eU sh
  refine for_tup (K := K) (a := U) (xs := xs) (fun _ σ' H' => (∃ od, σ' = StT p a told gr kd ns od none none) ∧ Same H2 H') ⟨⟨none, rfl⟩, Same.refl _⟩ (fun i σ' H' _ hP => SqT.of (hP.2 _ _ eU)) (fun i x σ' H' hi hP => ?_) (fun σ' H' hP => ?_)
  · obtain ⟨⟨od0, rfl⟩, s5⟩ := hP
    obtain ⟨d, hd, sd⟩ := ShwAll.get sh hi
    obtain ⟨o1, o2, o3⟩ := odd d (List.mem_of_getElem? hd)
    have T5 := T.same (sA.trans s5)
    have sd5 := Shw.same sd s5
    obtain ⟨dx, t', d', e', ob, _⟩ := id T5.fr.ob
    refine ⟨x, rfl, .ref p, rfl, p, dx, _, rfl, ob, p, v1, v2, v3, ps, qs, rs, x, d, rfl, T5.fr, sd5, ⟨_, rfl, ⟨_, rfl, ?_⟩⟩⟩
    refine iteF' (by rw [o1]; rfl) ?_
    refine ⟨.ref p, rfl, p, dx, _, rfl, ob, lookup_zip_none (by decide +kernel), x, rfl, p, v1, v2, v3, ps, qs, rs, x, d, rfl, T5.fr, sd5, o3, fun H6 s6 => ⟨_, rfl, ?_⟩⟩
    refine ⟨x, rfl, (by rw [sizeLine_eq]; show 2 ≤ 16777216; decide), fun W nW => ?_⟩
    have s7 := same_upd (p := W) (o := .tup [.str "fresh", .str "qqqqqqqq"]) nW
    refine ⟨W, ["fresh", "qqqqqqqq"], d, rfl, SqT.of upd_same, Shw.same sd5 (s6.trans s7), ⟨_, rfl, ?_⟩⟩
    rw [o2]
    refine ⟨rfl, _, rfl, ?_⟩
    refine iteF' (by simp) ?_
    exact ⟨⟨_, rfl⟩, (s5.trans s6).trans s7⟩
  · obtain ⟨⟨od0, rfl⟩, s5⟩ := hP
    exact q H' od0 (sA.trans s5)
end
end K01

set_option autoImplicit false
set_option maxRecDepth 100000
set_option maxHeartbeats 4000000
namespace K01
open PySem PySem.Spec PyProof.Rows L2 KX
section
variable {P : Program} {w : World} {K : PySem.W.Frag} {mg : Str → Option Value} {base : Heap} {C f : Addr} {cdv : Value} {A : Around} {outer : List Env} {s0 : Shared} {H0 : Hp} {E : XK} {k : Nat}
theorem name_short {z : Str} (h : nameS z = true) : z.length ≤ 8 := by
  unfold nameS at h
  rw [Bool.and_eq_true, decide_eq_true_eq] at h
  exact h.1.2
def w6 (C : Addr) : TS := fun D σ H => ∃ (p a : Addr) (told gr kd ns od : Option V) (v1 v2 v3 : V) (ps : List (Str × Str)) (qs rs : List Str), σ = StT p a told gr kd ns od none none ∧ Tl C H p a v1 v2 v3 ps qs rs ∧
  ∀ (H' : Hp) (R r1 r2 r3 : Addr), Same H H' → H' R = some (.lst [.ref r1, .ref r2, .ref r3]) → H' r1 = some (.lst ((ps.map pairT).map V.str)) → H' r2 = some (.lst (qs.map V.str)) → H' r3 = some (.lst (rs.map V.str)) → D.nx (StT p a told gr kd ns od (some (.ref R)) none) H'
theorem told6 (R : TF P w K mg base C) (hr : Room k (A.deeper (envOfC "_law_is_told" (defScope sTold) s0.heap.objs.size f cdv))) (hk : 5 ≤ k) : PS (TX P w K mg base f cdv A outer s0 H0 E).nox (stT 6) (w6 C) := by
  refine ps_imp (ps_set (i := 9) scTold.nd rfl (.inl rfl) (pe_lst (pa_cons (pe_lc (own := [("_law_name", 4), ("_law_length", 5)]) (g := gTup K 2 (gCons (gName 4) (gCons (gName 5) gNil))) (tt := tYes) rfl scTold.nd (pi_tup (pe_ix ix_list (pv 1) pe_int (fun _ _ => rfl))) (blkOk_by (N := nTold) (sc := defScope sTold) (by decide +kernel))
          (fun _ _ _ _ _ => pg_tup rfl (pgs_cons (pg_name (i := 4) scTold.nd rfl (Or.inl rfl) (Or.inr rfl)) (pgs_cons (pg_name (i := 5) scTold.nd rfl (Or.inl rfl) (Or.inr rfl)) pgs_nil)))
          (fun _ _ _ _ _ => pts_nil) (fun _ _ _ _ _ => pe_op op_add_str (pe_op op_add_str (pv 4) pe_str) (pv 5)))
      (pa_cons (pe_callTy call_list_of (by rfl) R.B.list (by decide +kernel) (pa_cons (pe_ix ix_list (pv 1) pe_int (fun _ _ => rfl)) pa_nil)) (pa_cons (pe_callTy call_list_of (by rfl) R.B.list (by decide +kernel) (pa_cons (pe_ix ix_list (pv 1) pe_int (fun _ _ => rfl)) pa_nil)) pa_nil))))) ?_
  rintro D σ H ⟨p, a, told, gr, kd, ns, od, v1, v2, v3, ps, qs, rs, rfl, T, q⟩
  obtain ⟨b, xs, rfl, e, ln, at_⟩ := arr_get T.fr.ar
  obtain ⟨a2, rfl, e2⟩ := id T.fr.po
  obtain ⟨a3, rfl, e3⟩ := id T.fr.va
  have l1 := T.l1
  refine ⟨.ref a, rfl, a, _, 0, .ref b, rfl, rfl, SqL.of T.pa, rfl, b, rfl, ⟨_, SqT.of e⟩, fun N nN => ?_⟩
  refine lc_tup (K := K) (a := b) (xs := xs) (fun m H' => Same H H' ∧ H' N = some (.lst ((ps.take m).map fun p => V.str (pairT p)))) ⟨same_upd nN, upd_same⟩ (fun m H' _ hP => SqT.of (hP.1 _ _ e)) (fun m x H' hm hP => ?_) (fun H' hP => ?_)
  · obtain ⟨s1, d1⟩ := hP
    obtain ⟨pr, c, hp, rfl, eb⟩ := at_ m x hm
    have mp := T.nm1 pr (List.mem_of_getElem? hp)
    have z1 := name_short mp.2.2.1
    have z2 := name_short mp.2.2.2
    have zc : (":" : Str).length = 1 := by decide +kernel
    refine ⟨c, _, rfl, SqT.of (s1 _ _ eb), rfl, _, _, rfl, _, _, rfl, rfl, rfl, ?_⟩
    refine ⟨_, rfl, _, _, rfl, rfl, (by rw [sizeLine_eq]; omega), _, rfl, _, _, rfl, rfl, (by rw [sizeLine_eq, Str.length_append]; omega), _, d1, ?_, fun c o z => ?_, ?_⟩
    · rw [List.length_map, List.length_take, sizeLine_eq]
      omega
    · rw [upd_ne (ne_of_none z nN)]
      exact s1 _ _ z
    · rw [upd_same, List.take_add_one, hp, List.map_append]
      rfl
  · obtain ⟨s1, d1⟩ := hP
    rw [ln, List.take_length] at d1
    refine ⟨.ref a, rfl, a, _, 1, .ref a2, rfl, rfl, SqL.of (s1 _ _ T.pa), rfl, a2, _, rfl, .inr (SqT.of (s1 _ _ e2)), fun n2 nn2 => ?_⟩
    have s2 := same_upd (p := n2) (o := .lst (qs.map V.str)) nn2
    have s12 := s1.trans s2
    refine ⟨.ref a, rfl, a, _, 2, .ref a3, rfl, rfl, SqL.of (s12 _ _ T.pa), rfl, a3, _, rfl, .inr (SqT.of (s12 _ _ e3)), fun n3 nn3 => ?_⟩
    have s3 := same_upd (p := n3) (o := .lst (rs.map V.str)) nn3
    refine ⟨(by rw [sizeLine_eq]; show 3 ≤ 16777216; decide), fun M nM => ?_⟩
    have s4 := same_upd (p := M) (o := .lst [.ref N, .ref n2, .ref n3]) nM
    refine q _ M N n2 n3 (s12.trans (s3.trans s4)) upd_same ?_ ((s3.trans s4) _ _ upd_same) (s4 _ _ upd_same)
    rw [List.map_map]
    exact (s2.trans (s3.trans s4)) _ _ d1
end
end K01

set_option autoImplicit false
set_option maxRecDepth 100000
set_option maxHeartbeats 4000000
namespace K01
open PySem PySem.Spec PyProof.Rows L2 KX
section
variable {P : Program} {w : World} {K : PySem.W.Frag} {mg : Str → Option Value} {base : Heap} {C f : Addr} {cdv : Value} {A : Around} {outer : List Env} {s0 : Shared} {H0 : Hp} {E : XK} {k : Nat}
def rJoin (K : PySem.W.Frag) : V → List V → Hp → VK → Prop := fun x xs H Q => ∃ a p, ∃ ys : List Str, x = .str a ∧ xs = [.ref p] ∧ (SqL K H p (ys.map V.str) ∨ SqT K H p (ys.map V.str)) ∧ (ys.map (·.length)).sum + ys.length * a.length ≤ 16777216 ∧ Q (.str (Txt.join a ys)) H
theorem mt_joinK {X : Cx} : MtR X "str.join" (rJoin X.K) := mt_join
theorem wt_if (zs : List Str) : (if zs.isEmpty = false then Txt.join " " zs else "-") = wt zs := by
  cases zs <;> rfl
theorem join_three (a b c : Str) : Txt.join " | " [a, b, c] = a ++ " | " ++ b ++ " | " ++ c := by
  unfold Txt.join
  rw [StrLaws.glued_eq_join]
  show a ++ " | " ++ (b ++ " | " ++ c) = _
  simp only [Str.append_assoc]
theorem strs_shw {H : Hp} : ∀ zs : List Str, ShwAll H (zs.map V.str) (zs.map PyData.str)
  | [] => .nil
  | z :: zs => .cons (.str z) (strs_shw zs)
def w7 : TS := fun D σ H => ∃ (p a : Addr) (told gr kd ns od : Option V) (R r1 r2 r3 : Addr) (xs ys zs : List Str), σ = StT p a told gr kd ns od (some (.ref R)) none ∧
  H R = some (.lst [.ref r1, .ref r2, .ref r3]) ∧ H r1 = some (.lst (xs.map V.str)) ∧ H r2 = some (.lst (ys.map V.str)) ∧ H r3 = some (.lst (zs.map V.str)) ∧ okS xs ∧ okS ys ∧ okS zs ∧ xs.length ≤ 12 ∧ ys.length ≤ 12 ∧ zs.length ≤ 12 ∧ short 20 xs ∧ short 20 ys ∧ short 20 zs ∧
  ∀ (H' : Hp), Same H H' → D.nx (StT p a told gr kd ns od (some (.ref R)) (some (.str (wt xs ++ " | " ++ wt ys ++ " | " ++ wt zs)))) H'
theorem told7 (R : TF P w K mg base C) (hr : Room k (A.deeper (envOfC "_law_is_told" (defScope sTold) s0.heap.objs.size f cdv))) (hk : 5 ≤ k) : PS (TX P w K mg base f cdv A outer s0 H0 E).nox (stT 7) w7 := by
  refine ps_imp (ps_set (i := 10) scTold.nd rfl (.inl rfl) (pe_m1 PySem.F.slot_str_join PySem.F.type_str_join mt_joinK pe_str (pe_lc (own := [("_law_row", 11)]) (g := gName 11) (tt := tYes) rfl scTold.nd (pi_list (pv 9)) (blkOk_by (N := nTold) (sc := defScope sTold) (by decide +kernel))
          (fun _ _ _ _ _ => pg_name (i := 11) scTold.nd rfl (Or.inl rfl) (Or.inr rfl)) (fun _ _ _ _ _ => pts_nil)
          (fun _ _ _ _ _ => pe_ifExp (pt_cmpR (r := rNeD K) (op_neD hr.units) (pv 11) (pe_lst pa_nil) (nomark _)) (pe_m1 (r := rJoin K) PySem.F.slot_str_join PySem.F.type_str_join mt_joinK pe_str (pv 11)) pe_str)))) ?_
  rintro D σ H ⟨p, a, told, gr, kd, ns, od, R, r1, r2, r3, xs, ys, zs, rfl, hR, h1, h2, h3, o1, o2, o3, l1, l2, l3, k1, k2, k3, q⟩
  have items : ∀ (i : Nat) (x : V), ([V.ref r1, .ref r2, .ref r3])[i]? = some x → ∃ (r : Addr) (l : List Str), x = .ref r ∧ ([xs, ys, zs])[i]? = some l ∧ H r = some (.lst (l.map V.str)) ∧ okS l ∧ l.length ≤ 12 ∧ short 20 l := fun i x h => by
    match i with
    | 0 => cases h; exact ⟨r1, xs, rfl, rfl, h1, o1, l1, k1⟩
    | 1 => cases h; exact ⟨r2, ys, rfl, rfl, h2, o2, l2, k2⟩
    | 2 => cases h; exact ⟨r3, zs, rfl, rfl, h3, o3, l3, k3⟩
    | i + 3 => cases h
  refine ⟨⟨_, rfl⟩, .ref R, rfl, R, rfl, ⟨_, SqL.of hR⟩, fun N nN => ?_⟩
  refine lc_list (K := K) (a := R) (xs := [.ref r1, .ref r2, .ref r3]) (fun m H' => Same H H' ∧ H' N = some (.lst (((([xs, ys, zs]).take m).map wt).map V.str))) ⟨same_upd nN, upd_same⟩ (fun m H' _ hP => SqL.of (hP.1 _ _ hR)) (fun m x H' hm hP => ?_) (fun H' hP => ?_)
  · obtain ⟨s1, d1⟩ := hP
    obtain ⟨r, l, rfl, hl, hr2, ok, ll, sh⟩ := items m x hm
    have next : ∀ H4, Same H' H4 → ∃ acc, H4 N = some (.lst acc) ∧ acc.length < sizeLine ∧ (Same H (upd H4 N (.lst (acc ++ [.str (wt l)]))) ∧ (upd H4 N (.lst (acc ++ [.str (wt l)]))) N = some (.lst (((([xs, ys, zs]).take (m + 1)).map wt).map V.str))) := fun H4 s4 => by
      refine ⟨_, s4 _ _ d1, ?_, fun c o z => ?_, ?_⟩
      · rw [List.length_map, List.length_map, List.length_take, sizeLine_eq]
        show min m 3 < 16777216
        omega
      · rw [upd_ne (ne_of_none z nN)]
        exact s4 _ _ (s1 _ _ z)
      · rw [upd_same, List.take_add_one, hl, List.map_append, List.map_append]
        rfl
    refine ⟨rfl, .ref r, rfl, (by rw [sizeLine_eq]; decide), fun M nM => ?_⟩
    have sM := same_upd (p := M) (o := .lst []) nM
    have z1 : SeqAt.shaped (.list (l.map PyData.str)) = true := low_list fun d hd => by
      obtain ⟨z, hz, rfl⟩ := List.mem_map.mp hd
      exact ⟨ok z hz, Nat.zero_le _⟩
    have z2 : SeqAt.shaped (.list []) = true := low_list fun d hd => nomatch hd
    refine ⟨.list (l.map PyData.str), .list [], .lst (SqL.of (sM _ _ (s1 _ _ hr2))) (ShwAll.dp (SeqAt.canLay_of_shaped z1) (strs_shw l)), .lst (SqL.of upd_same) .nil, z1, z2, _, rfl, ?_⟩
    cases l with
    | nil =>
      refine iteF' (by simp [PyData.eqv, PyData.eqvAll]) ?_
      exact next _ sM
    | cons z l =>
      refine iteT' (by simp [PyData.eqv, PyData.eqvAll]) ?_
      have e1 := short_sum sh
      have e2 : (" " : Str).length = 1 := by decide +kernel
      refine ⟨⟨_, rfl⟩, .ref r, rfl, " ", r, z :: l, rfl, rfl, .inl (SqL.of (sM _ _ (s1 _ _ hr2))), (by rw [e2]; omega), ?_⟩
      exact next _ sM
  · obtain ⟨s1, d1⟩ := hP
    have b1 := wt_len l1 k1
    have b2 := wt_len l2 k2
    have b3 := wt_len l3 k3
    have e3 : (" | " : Str).length = 3 := by decide +kernel
    refine ⟨" | ", N, [wt xs, wt ys, wt zs], rfl, rfl, .inl (SqL.of d1), ?_, ?_⟩
    · rw [e3]
      show (wt xs).length + ((wt ys).length + ((wt zs).length + 0)) + 3 * 3 ≤ _
      omega
    · show D.nx _ _
      rw [join_three]
      exact q H' s1
end
end K01

set_option autoImplicit false
set_option maxRecDepth 100000
set_option maxHeartbeats 4000000
namespace K01
open PySem PySem.Spec PyProof.Rows L2 KX
section
variable {P : Program} {w : World} {K : PySem.W.Frag} {mg : Str → Option Value} {base : Heap} {C f : Addr} {cdv : Value} {A : Around} {outer : List Env} {s0 : Shared} {H0 : Hp} {E : XK} {k : Nat}
def w8 (C : Addr) : TS := fun D σ H => ∃ (p a : Addr) (told gr kd ns od rw_ : Option V) (v1 v2 v3 : V) (ps : List (Str × Str)) (qs rs : List Str), σ = StT p a told gr kd ns od rw_ (some (.str (frT ps qs rs))) ∧ Tl C H p a v1 v2 v3 ps qs rs ∧
  ∀ (H' : Hp), Same H H' → D.rt (.bl true) H'
theorem Tl.shorts {C : Addr} {H : Hp} {p a : Addr} {v1 v2 v3 : V} {ps : List (Str × Str)} {qs rs : List Str} (T : Tl C H p a v1 v2 v3 ps qs rs) : short 8 (ps.map (·.1)) ∧ short 8 (ps.map (·.2)) ∧ short 8 qs ∧ short 8 rs := by
  refine ⟨fun z hz => ?_, fun z hz => ?_, fun z hz => name_short (T.nm2 z hz).2, fun z hz => name_short (T.nm3 z hz).2⟩
  · obtain ⟨p, hp, rfl⟩ := List.mem_map.mp hz
    exact name_short (T.nm1 p hp).2.2.1
  · obtain ⟨p, hp, rfl⟩ := List.mem_map.mp hz
    exact name_short (T.nm1 p hp).2.2.2
theorem told8 (R : TF P w K mg base C) (hr : Room k (A.deeper (envOfC "_law_is_told" (defScope sTold) s0.heap.objs.size f cdv))) (hk : 5 ≤ k) : PS (TX P w K mg base f cdv A outer s0 H0 E).nox (stT 8) (w8 C) := by
  refine ps_imp (ps_ret (pe_and (pe_cmpR op_eq (pe_callTy (R.str.str hr (by omega) pass0) (by rfl) R.B.str (by decide +kernel) (pa_cons (pv 0) pa_nil)) (pv 10) (nomark _))
    (pe_one (pe_cmpR op_eq (pe_callB (R.len.len hr (by omega) pass0) (by rfl) R.B.len PySem.boot_len (pa_cons (pv 0) pa_nil)) (pe_callB call_len_seq (by rfl) R.B.len PySem.boot_len (pa_cons (pe_fnc R.allOf hr (by omega) (by rfl) pass0 (pa_cons (pv 1) pa_nil)) pa_nil)) (nomark _))))) ?_
  rintro D σ H ⟨p, a, told, gr, kd, ns, od, rw_, v1, v2, v3, ps, qs, rs, rfl, T, q⟩
  obtain ⟨dx, t', d', e', ob, _⟩ := id T.fr.ob
  obtain ⟨h1, h2, h3, h4⟩ := T.shorts
  have l1 := T.l1
  have l2 := T.l2
  have l3 := T.l3
  refine ⟨.ref p, rfl, p, dx, _, rfl, ob, p, v1, v2, v3, ps, qs, rs, rfl, T.fr, l1, by omega, by omega, h1, h2, h3, h4, fun H1 s1 => ⟨_, rfl, _, rfl, rfl, _, rfl, ?_⟩⟩
  refine iteT' (by simp) ?_
  have T1 := T.same s1
  have ll := lensOf_le ps
  have few : (wordsOf ps qs rs).length < 2 ^ 62 := by
    unfold wordsOf
    simp only [List.length_append, List.length_map]
    omega
  refine ⟨.ref p, rfl, p, dx, _, rfl, s1 _ _ ob, p, v1, v2, v3, ps, qs, rs, rfl, T1.fr, (wordsOf ps qs rs).length, rfl, few, ?_⟩
  refine ⟨.ref a, rfl, a, v1, v2, v3, ps, qs, rs, rfl, T1.pa, T1.fr.ar, T1.fr.po, T1.fr.va, by omega, by omega, by omega, fun l H2 s2 hl => ⟨l, _, rfl, .inl (SqL.of hl), rfl, ?_⟩⟩
  rw [List.length_map]
  have z := q H2 (s1.trans s2)
  rw [show decide (V.int ((wordsOf ps qs rs).length : Nat) = V.int ((wordsOf ps qs rs).length : Nat)) = true by simp]
  exact z
def spTold (C : Addr) : Sp := fun vs H Q _ => ∃ (p a : Addr) (v1 v2 v3 : V) (ps : List (Str × Str)) (qs rs : List Str), vs = [.ref p, .ref a] ∧ Tl C H p a v1 v2 v3 ps qs rs ∧ ∀ H', Same H H' → Q (.bl true) H'
theorem LW_str : ∀ z ∈ LW, PyData.strOk z = true := fun z h => (LW_ok z h).2.2.1
theorem ok_told {fd : FuncData} (F : Fun K "_law_is_told" "_law_is_told" sTold f fd) (R : TF P w K mg base C) : RunG P w K mg base 6 f fd ["_law_frame_here", "_law_parts_here"] (spTold C) := by
  refine K01.Fun.okG F scTold (fun cdv A outer s H vs Q E hG hr h => ?_)
  refine ⟨_, (pss_cons (told0 R hr (by omega)) (pss_cons (told1 R hG hr (by omega)) (pss_cons (told2 R hr (by omega)) (pss_cons (told3 R hr (by omega)) (pss_cons (told4 R hr (by omega)) (pss_cons (told5 R hr (by omega)) (pss_cons (told6 R hr (by omega)) (pss_cons (told7 R hr (by omega)) (pss_one (told8 R hr (by omega))))))))))
    : PSs (TX P w K mg base f cdv A outer s H E).nox (defBody sTold) _), ?_⟩
  obtain ⟨p, a, v1, v2, v3, ps, qs, rs, rfl, T, q⟩ := h
  refine ⟨p, a, v1, v2, v3, ps, qs, rs, rfl, T, fun L t H1 s1 ht hL => ?_⟩
  have T1 := T.same s1
  refine ⟨p, a, L, t, v1, v2, v3, ps, qs, rs, rfl, T1, ht, hL, fun H2 s2 => ?_⟩
  have T2 := T1.same s2
  refine ⟨p, a, _, v1, v2, v3, ps, qs, rs, rfl, T2, fun H3 G t1 t2 n1 n2 s3 hG ht1 ht2 hn1 hn2 => ?_⟩
  have T3 := T2.same s3
  refine ⟨p, a, _, v1, v2, v3, ps, qs, rs, G, t1, t2, n1, n2, rfl, T3, hG, ht1, ht2, hn1, hn2, fun H4 kd ns s4 => ?_⟩
  have T4 := T3.same s4
  refine ⟨p, a, _, _, kd, ns, v1, v2, v3, ps, qs, rs, rfl, T4, fun H5 s5 => ?_⟩
  have T5 := T4.same s5
  refine ⟨p, a, _, _, kd, ns, v1, v2, v3, ps, qs, rs, rfl, T5, fun H6 od s6 => ?_⟩
  have T6 := T5.same s6
  refine ⟨p, a, _, _, kd, ns, od, v1, v2, v3, ps, qs, rs, rfl, T6, fun H7 R0 r1 r2 r3 s7 hR h1 h2 h3 => ?_⟩
  have T7 := T6.same s7
  obtain ⟨e1, e2, e3, e4⟩ := T7.shorts
  refine ⟨p, a, _, _, kd, ns, od, R0, r1, r2, r3, ps.map pairT, qs, rs, rfl, hR, h1, h2, h3, ?_, fun z hz => LW_str z (T.nm2 z hz).1, fun z hz => LW_str z (T.nm3 z hz).1, by rw [List.length_map]; exact T.l1, by have := T.l2; omega, by have := T.l3; omega, ?_, fun z hz => by have := e3 z hz; omega, fun z hz => by have := e4 z hz; omega, fun H8 s8 => ?_⟩
  · intro z hz
    obtain ⟨p, hp, rfl⟩ := List.mem_map.mp hz
    have a1 := LW_str _ (T.nm1 p hp).1
    have a2 := LW_str _ (T.nm1 p hp).2.1
    show ((p.1.cps ++ (":" : Str).cps) ++ p.2.cps).all (· < 0x110000) = true
    have a3 : (":" : Str).cps.all (· < 0x110000) = true := by decide +kernel
    unfold PyData.strOk at a1 a2
    rw [Array.all_append, Array.all_append, a1, a2, a3]
    rfl
  · intro z hz
    obtain ⟨y, hy, rfl⟩ := List.mem_map.mp hz
    have := pairT_len (e1 _ (List.mem_map.mpr ⟨y, hy, rfl⟩)) (e2 _ (List.mem_map.mpr ⟨y, hy, rfl⟩))
    omega
  · exact ⟨p, a, _, _, kd, ns, od, _, v1, v2, v3, ps, qs, rs, rfl, T7.same s8, fun H9 s9 => q H9 (((((((((s1.trans s2).trans s3).trans s4).trans s5).trans s6).trans s7).trans s8)).trans s9)⟩
end
end K01

set_option autoImplicit false
set_option maxRecDepth 100000
set_option maxHeartbeats 4000000
namespace KX
open PySem PySem.Spec PyProof.Rows L2 HT
section
variable {prog : Program} {w : World} {A : Around} {E : Value → Shared → Prop} {s : Shared}
theorem fm_map {α β : Type} {f : α → Option β} {g : α → β} : ∀ l : List α, (∀ k ∈ l, f k = some (g k)) → l.filterMap f = l.map g
  | [], _ => rfl
  | x :: l, h => by
    rw [List.filterMap_cons, h x List.mem_cons_self, List.map_cons, fm_map l fun k hk => h k (List.mem_cons_of_mem _ hk)]
theorem pick_back (its : List Value) : (List.range its.length).filterMap (fun (k : Nat) => its.toArray[(((its.length : Int) - 1) + (k : Int) * -1).toNat]?) = its.reverse := by
  have e : ∀ k ∈ List.range its.length, its.toArray[(((its.length : Int) - 1) + (k : Int) * -1).toNat]? = some (its.reverse.getD k default) := fun k hk => by
    have hk' := List.mem_range.mp hk
    have e1 : (((its.length : Int) - 1) + (k : Int) * -1).toNat = its.length - 1 - k := by omega
    rw [e1, List.getElem?_toArray, List.getElem?_eq_getElem (by omega)]
    rw [List.getD_eq_getElem?_getD, List.getElem?_reverse (by omega), List.getElem?_eq_getElem (by omega)]
    rfl
  rw [fm_map _ e]
  refine List.ext_getElem? fun i => ?_
  rw [List.getElem?_map]
  by_cases h : i < its.length
  · rw [List.getElem?_range h]
    show some (its.reverse.getD i default) = _
    rw [List.getD_eq_getElem?_getD, List.getElem?_eq_getElem (by rw [List.length_reverse]; exact h)]
    rfl
  · rw [List.getElem?_eq_none (by rw [List.length_range]; omega), List.getElem?_eq_none (by rw [List.length_reverse]; omega)]
    rfl
theorem sliceApplied_back {sl : Addr} {u : Tok} {n : Nat} {Q : Int × Int × Nat → Shared → Prop} (hs : s.heap.IsSliceOf sl .none .none (.int (-1) u)) (h : Q ((n : Int) - 1, -1, n) s) : wpAny (model prog w) A (Builtin.Slice.sliceApplied (.ref sl) (pure (n : Int))) Q E s := by
  obtain ⟨os, hos, hcs, hds⟩ := id hs
  unfold Builtin.Slice.sliceApplied Builtin.Slice.sliceFields
  refine wpAny_bind (wpAny_bind (wpAny_field hos hds (x := .none) rfl (wpAny_bind (wpAny_field hos hds (x := .none) rfl (wpAny_bind (wpAny_field hos hds (x := .int (-1) u) rfl (wpAny_pure ?_)))))))
  refine wpAny_bind (slicePart_int ?_)
  show wpAny _ _ (if ((-1 : Int) == 0) = true then _ else _) _ _ s
  rw [if_neg (by decide)]
  refine wpAny_bind (slicePart_none (wpAny_bind (slicePart_none (wpAny_bind (wpAny_pure ?_)))))
  show wpAny _ _ (pure (((n : Int) - 1), (-1 : Int), Builtin.Slice.slicePlaces ((n : Int) - 1) (-1) (-1))) _ _ s
  have e : Builtin.Slice.slicePlaces ((n : Int) - 1) (-1) (-1) = n := by
    unfold Builtin.Slice.slicePlaces
    rw [if_neg (by decide)]
    by_cases h : (n : Int) - 1 > -1
    · rw [if_pos h]
      simp only [Int.neg_neg, Int.ediv_one]
      omega
    · rw [if_neg h]
      omega
  rw [e]
  exact wpAny_pure h
theorem getItem_back {t sl : Addr} {its : List Value} {u : Tok} {Q : Value → Shared → Prop} (ht : IsTup s.heap t its.toArray) (hs : s.heap.IsSliceOf sl .none .none (.int (-1) u))
    (h : Q (.ref s.heap.objs.size) { s with heap := s.heap.push { cls := .type "tuple", data := .seq its.reverse.toArray } }) (hsz : its.length ≤ sizeLine) : wpAny (model prog w) A (getItem (.ref t) (.ref sl)) Q E s := by
  have hsize : sizeOk (.seq its.reverse.toArray) := by
    show its.reverse.toArray.size ≤ sizeLine
    rw [List.size_toArray, List.length_reverse]
    exact hsz
  obtain ⟨os, hos, hcs, hds⟩ := id hs
  have hTs : s.TypeIs (.ref sl) "slice" := ⟨os, hos, hcs⟩
  unfold getItem
  try with_reducible refine wpAny_holding ?_
  first | refine wpAny_bind (wpAny_pure ?_) | skip
  refine wpAny_bind (wpAny_sequenceKey ht.typeIs (by decide) ?_)
  refine wpAny_bind (wpAny_callSpecial?_slot (name := Str.ofString "__getitem__") ht.typeIs PyProof.Rows.slot_tuple_getitem
    (wpAny_call_entry PyProof.Rows.slot_tuple_getitem ht.typeIs entry_tuple_getitem ?_ (args_tuple_getitem _ _)))
  show wpAny _ _ (Builtin.Tuple.tupleItemsOf (.ref t) >>= _) _ _ s
  refine wpAny_bind (tupleItemsOf_ ht ?_)
  refine wpAny_bind (wpAny_typeOf hTs ?_)
  rw [if_pos (by decide)]
  rw [List.size_toArray]
  refine wpAny_bind (sliceApplied_back hs ?_)
  have hno : ¬ ((((its.length : Int) - 1) == 0 && (-1 : Int) == 1 && its.length == its.length) = true) := by
    intro q
    rw [Bool.and_eq_true, Bool.and_eq_true] at q
    have := eq_of_beq q.1.2
    omega
  show wpAny _ _ (if (((its.length : Int) - 1) == 0 && (-1 : Int) == 1 && its.length == its.length) = true then _ else _) _ _ s
  rw [if_neg hno, pick_back]
  first
    | exact wpAny_bind (m := Builtin.Tuple.tupleExact _) (wpAny_newObj_type (wpAny_pure ⟨_, rfl, wpAny_pure h⟩) hsize)
    | exact wpAny_bind (m := Builtin.Tuple.tupleExact _) (wpAny_newObj_type (wpAny_bind (wpAny_pure (wpAny_pure ⟨_, rfl, wpAny_pure h⟩))) hsize)
    | exact wpAny_bind (wpAny_bind (m := Builtin.Tuple.tupleExact _) (wpAny_newObj_type (wpAny_pure (wpAny_pure ⟨_, rfl, wpAny_pure h⟩)) hsize))
    | exact wpAny_bind (wpAny_bind (m := Builtin.Tuple.tupleExact _) (wpAny_newObj_type (wpAny_pure ⟨_, rfl, wpAny_pure h⟩) hsize))
end
section
variable {X : Cx}
def tRevT (K : PySem.W.Frag) (te : TE) : TE := fun σ H Q => te σ H fun x H1 => ∃ a xs, x = .ref a ∧ SqT K H1 a xs ∧ ∀ p, H1 p = none → Q (.ref p) (upd H1 p (.tup xs.reverse))
/-- t[::-1] -/
theorem pe_tupBack {e : Expr} {te : TE} {k : Nat} {p1 p2 p3 pos : Pos} (he : PE X e te) : PE X (.Subscript e (.Slice none none (some (.UnaryOp .USub (.Constant (.int 1) k p1) p2)) p3) pos) (tRevT X.K te) := by
  refine ⟨fun pins s σ H Q I h => ?_⟩
  refine Subscript_ (thn (he.run pins s σ H _ I h) fun v s1 ⟨x, H1, I1, r1, q1⟩ => ?_)
  obtain ⟨a, xs, ex, hx, q⟩ := q1
  subst ex
  cases r1
  have hst : PE X (.UnaryOp .USub (.Constant (.int 1) k p1) p2) (tUn (rU fun i => .int (-i)) (tC (.int 1))) := pe_un un_neg pe_int
  refine wpAny_Slice ?_
  rw [evalPart_none]
  refine wpAny_pure ?_
  refine wpAny_pure ?_
  rw [evalPart_some]
  refine thn (hst.run pins s1 σ H1 (fun y H4 => y = .int (-1) ∧ H4 = H1) I1 ⟨1, rfl, rfl, rfl⟩) fun u s4 ⟨y, H4, I4, r2, eo, e4⟩ => ?_
  subst eo e4
  obtain ⟨t, rfl⟩ := r2
  have I5 : Inv X pins σ H4 { s4 with heap := s4.heap.push { cls := .type "slice", data := .fields #[.none, .none, .int (-1) t] } } := I4.kept (t' := s4.toks) fun b ob q => Heap.get?_push_of_some _ q
  obtain ⟨its, r, ht, hz⟩ := I5.tuple hx
  have hlen := r.length
  show wpAny (model X.prog X.w) X.A (subscriptTail e (.Slice none none (some (.UnaryOp .USub (.Constant (.int 1) k p1) p2)) p3) (.ref a) (.ref s4.heap.objs.size)) (EP X pins σ Q) X.xe { s4 with heap := s4.heap.push { cls := .type "slice", data := .fields #[.none, .none, .int (-1) t] } }
  refine tail_any (ops := [.ref a, .ref s4.heap.objs.size]) ht.typeIs PyProof.Rows.slot_tuple_getitem.lookup ?_ (by with_unfolding_all rfl)
  refine getItem_back ht (Heap.IsSliceOf.new ..) ?_ (by omega)
  refine ⟨.ref _, _, I5.laid (t' := s4.toks) (o := .tup xs.reverse) (fun b ob q => Heap.get?_push_of_some _ q) (Nat.le_refl _) ?_, rfl, q _ (I5.hok.fresh (Nat.le_refl _))⟩
  exact ⟨by rw [List.length_reverse]; exact hz, _, r.reverse, IsTup.new _ _⟩
end
end KX

set_option autoImplicit false
set_option maxRecDepth 100000
set_option maxHeartbeats 4000000
namespace K01
open PySem PySem.Spec PyProof.Rows L2 KX
open Classical in
/-- all but what is at F, and at the foreign addresses -/
noncomputable def hd (Y : Addr → Prop) (F : Addr) (H : Hp) : Hp := fun b => if b = F ∨ Y b then none else H b
/-- what is left out is there -/
def Fx (Y : Addr → Prop) (F : Addr) (H : Hp) : Prop := ∀ b, b = F ∨ Y b → ∃ o, H b = some o
section
variable {Y : Addr → Prop} {F a p : Addr} {H H' : Hp} {o : HO} {v : V} {d : PyData} {vs : List V} {ds : List PyData}
theorem hd_ne {b : Addr} (n : ¬ (b = F ∨ Y b)) : hd Y F H b = H b := by
  unfold hd
  rw [if_neg n]
theorem hd_in {b : Addr} {o : HO} (e : hd Y F H b = some o) : ¬ (b = F ∨ Y b) := fun h => by
  unfold hd at e
  rw [if_pos h] at e
  cases e
theorem hd_sub : Same (hd Y F H) H := fun b o e => by
  rw [hd_ne (hd_in e)] at e
  exact e
theorem hd_same (s : Same H H') : Same (hd Y F H) (hd Y F H') := fun b o e => by
  have n := hd_in e
  rw [hd_ne n] at e ⊢
  exact s _ _ e
theorem hd_grw (s : Grw a H H') : Grw a (hd Y F H) (hd Y F H') := fun b o ne e => by
  have n := hd_in e
  rw [hd_ne n] at e ⊢
  exact s _ _ ne e
theorem hd_put : Same (hd Y F H) (upd H F o) := fun b o e => by
  have n := hd_in e
  rw [hd_ne n] at e
  rw [upd_ne fun h => n (.inl h)]
  exact e
theorem hd_at (hF : Fx Y F H) (n : H p = none) : ¬ (p = F ∨ Y p) := fun e => by
  obtain ⟨o, h⟩ := hF p e
  rw [h] at n
  cases n
theorem hd_upd (hF : Fx Y F H) (n : H p = none) : hd Y F (upd H p o) p = some o := by
  rw [hd_ne (hd_at hF n), upd_same]
end
def cutA {α : Type} (xs : List α) (lo hi : Option Int) : List α := (xs.drop (HT.sIx xs.length 0 lo)).take (HT.sIx xs.length xs.length hi - HT.sIx xs.length 0 lo)
theorem ShwAll.drop {H : Hp} : ∀ {vs : List V} {ds : List PyData} (n : Nat), ShwAll H vs ds → ShwAll H (vs.drop n) (ds.drop n)
  | _, _, 0, s => by simpa using s
  | _, _, n + 1, .nil => by simpa using ShwAll.nil
  | _, _, n + 1, .cons _ r => by simpa using ShwAll.drop n r
theorem ShwAll.take {H : Hp} : ∀ {vs : List V} {ds : List PyData} (n : Nat), ShwAll H vs ds → ShwAll H (vs.take n) (ds.take n)
  | _, _, 0, s => by simpa using ShwAll.nil
  | _, _, n + 1, .nil => by simpa using ShwAll.nil
  | _, _, n + 1, .cons a r => by
    rw [List.take_succ_cons, List.take_succ_cons]
    exact .cons a (ShwAll.take n r)
theorem ShwAll.rev {H : Hp} : ∀ {vs : List V} {ds : List PyData}, ShwAll H vs ds → ShwAll H vs.reverse ds.reverse
  | _, _, .nil => .nil
  | _, _, .cons a r => by
    rw [List.reverse_cons, List.reverse_cons]
    exact ShwAll.snoc (ShwAll.rev r) a
theorem cut_whole {α : Type} {xs : List α} {lo hi : Option Int} (h : HT.sIx xs.length 0 lo = 0 ∧ HT.sIx xs.length xs.length hi = xs.length) : cutA xs lo hi = xs := by
  unfold cutA
  rw [h.1, h.2, List.drop_zero, Nat.sub_zero, List.take_length]
section
variable {K : PySem.W.Frag} {Y : Addr → Prop} {F : Addr} {H : Hp} {x y : V} {ds es : List PyData} {Q : VK}
theorem tup_get' {H : Hp} {v : V} {ds : List PyData} (s : Shw H v (.tuple ds)) : ∃ (a : Addr) (xs : List V), v = .ref a ∧ H a = some (.tup xs) ∧ ShwAll H xs ds := by
  cases s with
  | tup e r => exact ⟨_, _, rfl, e, r⟩
/-- t + u, by data -/
theorem cat_data (hF : Fx Y F H) (sx : Shw (hd Y F H) x (.tuple ds)) (sy : Shw (hd Y F H) y (.tuple es)) (few : ds.length + es.length ≤ 1000) (q : ∀ v H', Same H H' → Shw (hd Y F H') v (.tuple (ds ++ es)) → Q v H') : rCatA K x y H Q := by
  obtain ⟨a, xs, rfl, e1, r1⟩ := tup_get' sx
  obtain ⟨b, ys, rfl, e2, r2⟩ := tup_get' sy
  have l1 := ShwAll.len r1
  have l2 := ShwAll.len r2
  refine ⟨a, b, xs, ys, rfl, rfl, SqT.of (hd_sub _ _ e1), SqT.of (hd_sub _ _ e2), by rw [sizeLine_eq]; omega, fun h => ?_, fun _ h => ?_, fun _ _ p np => ?_⟩
  · subst h
    cases r1
    exact q _ H (Same.refl H) (by rw [List.nil_append]; exact sy)
  · subst h
    cases r2
    exact q _ H (Same.refl H) (by rw [List.append_nil]; exact sx)
  · have s := same_upd (p := p) (o := .tup (xs ++ ys)) np
    exact q _ _ s (.tup (hd_upd hF np) (ShwAll.same (ShwAll.app r1 r2) (hd_same s)))
/-- t[lo:hi], by data -/
theorem cut_data {lo hi : Option Int} (hF : Fx Y F H) (sx : Shw (hd Y F H) x (.tuple ds)) (q : ∀ v H', Same H H' → Shw (hd Y F H') v (.tuple (cutA ds lo hi)) → Q v H') : rSlA K x lo hi H Q := by
  obtain ⟨a, xs, rfl, e1, r1⟩ := tup_get' sx
  have l1 := ShwAll.len r1
  refine ⟨a, xs, rfl, SqT.of (hd_sub _ _ e1), fun h => ?_, fun _ p np => ?_⟩
  · rw [l1] at h
    exact q _ H (Same.refl H) (by rw [cut_whole h]; exact sx)
  · have s := same_upd (p := p) (o := .tup (cutV xs lo hi)) np
    have r2 : ShwAll (hd Y F H) (cutV xs lo hi) (cutA ds lo hi) := by
      unfold cutV cutA
      rw [l1]
      exact ShwAll.take _ (ShwAll.drop _ r1)
    exact q _ _ s (.tup (hd_upd hF np) (ShwAll.same r2 (hd_same s)))
theorem tup_data {v : V} {d : PyData} (hF : Fx Y F H) (sv : Shw (hd Y F H) v d) {p : Addr} (np : H p = none) : Shw (hd Y F (upd H p (.tup [v]))) (.ref p) (.tuple [d]) :=
  .tup (hd_upd hF np) (.cons (Shw.same sv (hd_same (same_upd np))) .nil)
end
end K01

set_option autoImplicit false
set_option maxRecDepth 100000
set_option maxHeartbeats 4000000
namespace K01
open PySem PySem.Spec PyProof.Rows L2 KX
abbrev sNear : Stmt := topS 33
abbrev nNear : List Str := ["_law_creel_here", "_law_parts_here", "_law_found", "_law_kind", "_law_row", "_law_names", "_law_odd", "_law_item", "_law_spot", "_law_way", "_law_some", "_law_more", "_law_words", "_law_letter", "_law_word"]
theorem scNear : FnScope nNear ["_law_creel_here", "_law_parts_here"] (defScope sNear) := ⟨rfl, rfl, rfl, by decide +kernel, rfl, by decide +kernel, by decide +kernel⟩
def stN (i : Nat) : Stmt := (defBody sNear).getD i (.Pass ⟨0, 0, 0, 0⟩)
abbrev StN (a l : Addr) (fo ki ro na od it sp wa : Option V) : L2.St := [some (.ref a), some (.ref l), fo, ki, ro, na, od, it, sp, wa, none, none, none, none, none]
abbrev crl (x y c : Int) : HO := .lst [.int x, .int y, .int c]
/-- on the way: the creel at a, the parts so far at F; all else as it was -/
structure NSy (Y : Addr → Prop) (H0 H : Hp) (a F : Addr) (x y c : Int) (us : List V) (dd : List PyData) : Prop where
  ha : H a = some (crl x y c)
  C : Cr x y c
  Fa : F ≠ a
  hF : H F = some (.lst us)
  sh : ShwAll (hd Y F H) us dd
  cm : ∀ d ∈ dd, comp d = true
  gr : Grw a H0 H
  no : H0 F = none
  ya : ¬ Y a
  ye : ∀ b, Y b → ∃ o, H b = some o
  yf : ¬ Y F
/-- .. and the row that is looked at -/
structure NRwy (Y : Addr → Prop) (H : Hp) (F : Addr) (rv : V) (es : List PyData) : Prop where
  sh : Shw (hd Y F H) rv (.tuple es)
  few : es.length ≤ 3
  sm1 : ∀ e ∈ es, sm 1 e = true
  hi : headInt es = false
structure NNm (H : Hp) (a F N : Addr) (nms : List Str) : Prop where
  hN : H N = some (.lst (nms.map V.str))
  Na : N ≠ a
  NF : N ≠ F
  pos : 0 < nms.length
  few : nms.length ≤ 14
  mem : ∀ z ∈ nms, z ∈ LW
section
variable {Y : Addr → Prop} {H0 H H' : Hp} {a F N : Addr} {x y c x' c' : Int} {us : List V} {dd es : List PyData} {rv : V} {nms : List Str}
theorem NSy.same (n : NSy Y H0 H a F x y c us dd) (s : Same H H') : NSy Y H0 H' a F x y c us dd := ⟨s _ _ n.ha, n.C, n.Fa, s _ _ n.hF, ShwAll.same n.sh (hd_same s), n.cm, n.gr.trans (.of s), n.no, n.ya, fun b h => (n.ye b h).imp fun o e => s _ _ e, n.yf⟩
theorem NSy.hda (n : NSy Y H0 H a F x y c us dd) : hd Y F H a = some (crl x y c) := by
  rw [hd_ne fun h => h.elim (fun e => n.Fa e.symm) n.ya]
  exact n.ha
theorem NSy.off (n : NSy Y H0 H a F x y c us dd) {v : V} {d : PyData} (s : Shw (hd Y F H) v d) (o : offD d = true) : Shw (hd Y F (upd H a (crl x' y c'))) v d := Shw.off n.hda (hd_grw Grw.upd) o s
theorem NSy.offA (n : NSy Y H0 H a F x y c us dd) {vs : List V} {ds : List PyData} (s : ShwAll (hd Y F H) vs ds) (o : offAll ds = true) : ShwAll (hd Y F (upd H a (crl x' y c'))) vs ds := ShwAll.off n.hda (hd_grw Grw.upd) o s
theorem NSy.cr (n : NSy Y H0 H a F x y c us dd) (C : Cr x' y c') : NSy Y H0 (upd H a (crl x' y c')) a F x' y c' us dd :=
  ⟨upd_same, C, n.Fa, by rw [upd_ne n.Fa]; exact n.hF, n.offA n.sh (offAll_mem fun d hd => (comp_ok (n.cm d hd)).off), n.cm, n.gr.trans Grw.upd, n.no, n.ya, fun b h => by
    by_cases e : b = a
    · subst e; exact ⟨_, upd_same⟩
    · rw [upd_ne e]; exact n.ye b h, n.yf⟩
theorem NSy.fx (n : NSy Y H0 H a F x y c us dd) : Fx Y F H := fun b h => h.elim (fun e => e ▸ ⟨_, n.hF⟩) (n.ye b)
theorem NRwy.same (n : NRwy Y H F rv es) (s : Same H H') : NRwy Y H' F rv es := ⟨Shw.same n.sh (hd_same s), n.few, n.sm1, n.hi⟩
theorem NRwy.cr (r : NRwy Y H F rv es) (n : NSy Y H0 H a F x y c us dd) : NRwy Y (upd H a (crl x' y c')) F rv es :=
  ⟨n.off r.sh (by simp only [offD]; exact offAll_mem fun d hd => (sm_ok 1 d (r.sm1 d hd)).off), r.few, r.sm1, r.hi⟩
theorem NNm.same (n : NNm H a F N nms) (s : Same H H') : NNm H' a F N nms := ⟨s _ _ n.hN, n.Na, n.NF, n.pos, n.few, n.mem⟩
theorem NNm.cr (n : NNm H a F N nms) {o : HO} : NNm (upd H a o) a F N nms := ⟨by rw [upd_ne n.Na]; exact n.hN, n.Na, n.NF, n.pos, n.few, n.mem⟩
end
/-- what near calls -/
structure NF (P : Program) (w : World) (K : PySem.W.Frag) (mg : Str → Option Value) (base : Heap) : Prop where
  B : Free mg
  fish : Fnc P w K mg base CX0 1 "_law_fish" ["_law_creel_here", "_law_total"] spFish
  one : Fnc P w K mg base CX0 2 "_law_one_of" ["_law_creel_here", "_law_items"] spOne
  allOf : Fnc P w K mg base CX0 2 "_law_all_of" ["_law_parts_here"] spAll
abbrev NX (P : Program) (w : World) (K : PySem.W.Frag) (mg : Str → Option Value) (base : Heap) (f : Addr) (cdv : Value) (A : Around) (outer : List Env) (s0 : Shared) (H0 : Hp) (E : XK) : Cx := cxOf CX0 P w K mg base nNear "_law_near" (defScope sNear) f cdv A outer s0 H0 E
abbrev dd3 (ps : List (Str × Str)) (qs rs : List Str) : List PyData := [.tuple (ps.map prD), .tuple (qs.map PyData.str), .tuple (rs.map PyData.str)]
theorem W16_LW {z : Str} (h : z ∈ W16) : z ∈ LW := List.mem_append_left _ h
theorem good_comp {ps : List (Str × Str)} {qs rs : List Str} (g : GoodP ps qs rs) : ∀ d ∈ dd3 ps qs rs, comp d = true := by
  have l1 := g.l1
  have l2 := g.l2
  have l3 := g.l3
  intro d hd
  simp only [dd3, List.mem_cons, List.not_mem_nil, or_false] at hd
  rcases hd with rfl | rfl | rfl
  · exact prs_comp (by omega) fun p hp => ⟨W16_LW (g.m1 p hp).1, W16_LW (g.m1 p hp).2⟩
  · exact strs_comp (by omega) fun z hz => W16_LW (g.m2 z hz)
  · exact strs_comp (by omega) fun z hz => W16_LW (g.m3 z hz)
theorem headInt_map {α : Type} {f : α → PyData} (h : ∀ x, ∀ i, f x ≠ .int i) : ∀ l : List α, headInt (l.map f) = false
  | [] => rfl
  | x :: l => by
    show headInt (f x :: l.map f) = false
    unfold headInt
    split
    · rename_i i r e
      exact absurd (List.cons.inj e).1 (h x i)
    · rfl
theorem good_row {ps : List (Str × Str)} {qs rs : List Str} (g : GoodP ps qs rs) {kk : Nat} {d : PyData} (h : (dd3 ps qs rs)[kk]? = some d) : ∃ es, d = .tuple es ∧ es.length ≤ 3 ∧ (∀ e ∈ es, sm 1 e = true) ∧ headInt es = false ∧ (kk = 0 → es = ps.map prD) := by
  match kk with
  | 0 =>
    cases h
    refine ⟨_, rfl, by rw [List.length_map]; exact g.l1, fun e he => ?_, headInt_map (f := prD) (by intro x i e; cases e) ps, fun _ => rfl⟩
    obtain ⟨p, hp, rfl⟩ := List.mem_map.mp he
    have h1 : sm 0 (.str p.1) = true := decide_eq_true (W16_LW (g.m1 p hp).1)
    have h2 : sm 0 (.str p.2) = true := decide_eq_true (W16_LW (g.m1 p hp).2)
    show (true && (sm 0 (.str p.1) && (sm 0 (.str p.2) && true))) = true
    rw [h1, h2]
    rfl
  | 1 =>
    cases h
    refine ⟨_, rfl, by rw [List.length_map]; exact g.l2, fun e he => ?_, headInt_map (f := PyData.str) (by intro x i e; cases e) qs, fun z => nomatch z⟩
    obtain ⟨z, hz, rfl⟩ := List.mem_map.mp he
    exact decide_eq_true (W16_LW (g.m2 z hz))
  | 2 =>
    cases h
    refine ⟨_, rfl, by rw [List.length_map]; exact g.l3, fun e he => ?_, headInt_map (f := PyData.str) (by intro x i e; cases e) rs, fun z => nomatch z⟩
    obtain ⟨z, hz, rfl⟩ := List.mem_map.mp he
    exact decide_eq_true (W16_LW (g.m3 z hz))
  | kk + 3 => cases h
section
variable {P : Program} {w : World} {K : PySem.W.Frag} {mg : Str → Option Value} {base : Heap} {f : Addr} {cdv : Value} {A : Around} {outer : List Env} {s0 : Shared} {H0 : Hp} {E : XK} {k : Nat}
def n0 : TS := fun D σ H => ∃ (Y : Addr → Prop) (a l : Addr) (x y c : Int) (v1 v2 v3 : V) (ps : List (Str × Str)) (qs rs : List Str), σ = StN a l none none none none none none none none ∧ H a = some (crl x y c) ∧ Cr x y c ∧ c ≤ 700000 ∧ H l = some (.lst [v1, v2, v3]) ∧ GoodP ps qs rs ∧ Arr H v1 ps ∧ Txts H v2 qs ∧ Txts H v3 rs ∧ ¬ Y a ∧ (∀ b, Y b → ∃ xs, H b = some (.lst xs)) ∧
  ∀ (F : Addr) (kk : Nat) (x' c' : Int) (H' : Hp), kk < 3 → c' ≤ c + 1 → NSy Y H H' a F x' y c' [v1, v2, v3] (dd3 ps qs rs) → D.nx (StN a l (some (.ref F)) (some (.int (kk : Int))) none none none none none none) H'
theorem near0 (R : NF P w K mg base) (hr : Room k (A.deeper (envOfC "_law_near" (defScope sNear) s0.heap.objs.size f cdv))) (hk : 3 ≤ k) : PS (NX P w K mg base f cdv A outer s0 H0 E).nox (stN 0) n0 := by
  refine ps_imp (ps_par (i := 2) (j := 3) rfl scNear.nd rfl rfl (by decide) rfl rfl (pa_cons (pe_callTy call_list_of (by rfl) R.B.list (by decide +kernel) (pa_cons (pv 1) pa_nil)) (pa_cons (pe_fnc R.fish hr (by omega) (by rfl) pass0 (pa_cons (pv 0) (pa_cons pe_int pa_nil))) pa_nil)) (by rfl)) ?_
  rintro D σ H ⟨Y, a, l, x, y, c, v1, v2, v3, ps, qs, rs, rfl, ha, C, hc, hl, g, y1, y2, y3, ya, yl, q⟩
  refine ⟨_, rfl, l, _, rfl, .inl (SqL.of hl), fun F nF => ?_⟩
  have s1 := same_upd (p := F) (o := .lst [v1, v2, v3]) nF
  have Fa : F ≠ a := (ne_of_none ha nF).symm
  have kt : ∀ b ys, H b = some (.tup ys) → hd Y F (upd H F (.lst [v1, v2, v3])) b = some (.tup ys) := fun b ys e => by
    rw [hd_ne fun h => h.elim (fun k => by rw [k, nF] at e; cases e) fun k => by
      obtain ⟨xs, e2⟩ := yl b k
      rw [e] at e2
      cases e2]
    exact s1 _ _ e
  have z1 : Shw (hd Y F (upd H F (.lst [v1, v2, v3]))) v1 (.tuple (ps.map prD)) := by
    obtain ⟨b, xs, rfl, e, r⟩ := tup_get' y1
    exact .tup (kt _ _ e) (ShwAll.keepT kt ps r)
  have zS : ∀ {v : V} {zs : List Str}, Txts H v zs → Shw (hd Y F (upd H F (.lst [v1, v2, v3]))) v (.tuple (zs.map PyData.str)) := fun t => by
    obtain ⟨b, rfl, e⟩ := t
    exact .tup (kt _ _ e) (strs_shw _)
  have n1 : NSy Y H (upd H F (.lst [v1, v2, v3])) a F x y c [v1, v2, v3] (dd3 ps qs rs) := ⟨s1 _ _ ha, C, Fa, upd_same, .cons z1 (.cons (zS y2) (.cons (zS y3) .nil)), good_comp g, .of s1, nF, ya, fun b h => by
    obtain ⟨xs, e⟩ := yl b h
    exact ⟨_, s1 _ _ e⟩, fun h => by
    obtain ⟨xs, e⟩ := yl F h
    rw [nF] at e
    cases e⟩
  refine ⟨.ref a, rfl, a, x, y, c, 3, rfl, s1 _ _ ha, C, by omega, by decide, by decide, fun r x' c' r0 r3 C' e' => ⟨_, _, rfl, ?_⟩⟩
  have er : r = ((r.toNat : Nat) : Int) := by omega
  rw [er]
  exact q F r.toNat x' c' _ (by omega) e' (n1.cr C')
end
end K01

set_option autoImplicit false
set_option maxRecDepth 100000
set_option maxHeartbeats 4000000
namespace K01
open PySem PySem.Spec PyProof.Rows L2 KX
section
variable {P : Program} {w : World} {K : PySem.W.Frag} {mg : Str → Option Value} {base : Heap} {f : Addr} {cdv : Value} {A : Around} {outer : List Env} {s0 : Shared} {H0 : Hp} {E : XK} {k : Nat}
theorem all3 {H : Hp} {v1 v2 v3 : V} {d1 d2 d3 : PyData} (s : ShwAll H [v1, v2, v3] [d1, d2, d3]) : Shw H v1 d1 ∧ Shw H v2 d2 ∧ Shw H v3 d3 := by
  cases s with
  | cons a s => cases s with
    | cons b s => cases s with
      | cons c s => exact ⟨a, b, c⟩
theorem words_W16 {ps : List (Str × Str)} {qs rs : List Str} (g : GoodP ps qs rs) : ∀ z ∈ wordsOf ps qs rs, z ∈ W16 := by
  intro z hz
  unfold wordsOf at hz
  rcases List.mem_append.mp hz with h | h
  · obtain ⟨p, hp, rfl⟩ := List.mem_map.mp h
    exact (g.m1 p hp).1
  rcases List.mem_append.mp h with h | h
  · obtain ⟨p, hp, rfl⟩ := List.mem_map.mp (onceS_mem _ z h)
    exact (g.m1 p hp).2
  rcases List.mem_append.mp h with h | h
  · exact g.m2 z h
  · exact g.m3 z h
def n1 : TS := fun D σ H => ∃ (Y : Addr → Prop) (H00 : Hp) (a l F : Addr) (kk : Nat) (x y c : Int) (v1 v2 v3 : V) (ps : List (Str × Str)) (qs rs : List Str), σ = StN a l (some (.ref F)) (some (.int (kk : Int))) none none none none none none ∧ NSy Y H00 H a F x y c [v1, v2, v3] (dd3 ps qs rs) ∧ kk < 3 ∧ GoodP ps qs rs ∧ H l = some (.lst [v1, v2, v3]) ∧
  ∀ (H' : Hp) (rv : V) (es : List PyData) (N : Addr) (nms : List Str), Same H H' → NRwy Y H' F rv es → NNm H' a F N nms → D.nx (StN a l (some (.ref F)) (some (.int (kk : Int))) (some rv) (some (.ref N)) none none none none) H'
theorem near1 (R : NF P w K mg base) (hr : Room k (A.deeper (envOfC "_law_near" (defScope sNear) s0.heap.objs.size f cdv))) (hk : 3 ≤ k) : PS (NX P w K mg base f cdv A outer s0 H0 E).nox (stN 1) n1 := by
  refine ps_imp (ps_par (i := 4) (j := 5) rfl scNear.nd rfl rfl (by decide) rfl rfl (pa_cons (pe_ix ix_list (pv 2) (pv 3) (fun _ _ => rfl)) (pa_cons (pe_op op_cat (pe_fnc R.allOf hr (by omega) (by rfl) pass0 (pa_cons (pv 1) pa_nil)) (pe_lst (pa_cons pe_str (pa_cons pe_str pa_nil)))) pa_nil)) (by rfl)) ?_
  rintro D σ H ⟨Y, H00, a, l, F, kk, x, y, c, v1, v2, v3, ps, qs, rs, rfl, n, hkk, g, hl, q⟩
  obtain ⟨y1, y2, y3⟩ := all3 n.sh
  have l1 := g.l1
  have l2 := g.l2
  have l3 := g.l3
  obtain ⟨rv, hrv⟩ : ∃ rv, ([v1, v2, v3])[kk]? = some rv := ⟨_, List.getElem?_eq_getElem (by show kk < 3; exact hkk)⟩
  obtain ⟨d, hd, sd⟩ := ShwAll.get n.sh hrv
  obtain ⟨es, rfl, e1, e2, e3, e4⟩ := good_row g hd
  refine ⟨.ref F, rfl, _, rfl, F, _, _, rv, rfl, rfl, SqL.of n.hF, atI_nat hrv, ?_⟩
  refine ⟨.ref l, rfl, l, v1, v2, v3, ps, qs, rs, rfl, hl, Shw.same y1 hd_sub, txts_of (Shw.same y2 hd_sub), txts_of (Shw.same y3 hd_sub), by omega, by omega, by omega, fun N1 H1 s1 hN1 => ?_⟩
  refine ⟨(by rw [sizeLine_eq]; show 2 ≤ 16777216; decide), fun M nM => ?_⟩
  have s2 := same_upd (p := M) (o := .lst [.str "new", .str "other"]) nM
  have lw : (wordsOf ps qs rs).length ≤ 12 := by
    have := lensOf_le ps
    unfold wordsOf
    simp only [List.length_append, List.length_map]
    omega
  refine ⟨N1, M, _, _, rfl, rfl, s2 _ _ hN1, upd_same, (by rw [List.length_map, sizeLine_eq]; show _ + 2 ≤ 16777216; omega), fun N nN => ⟨_, _, rfl, ?_⟩⟩
  have s3 := same_upd (p := N) (o := .lst ((wordsOf ps qs rs).map V.str ++ [.str "new", .str "other"])) nN
  have s12 := s1.trans s2
  have sA := s12.trans s3
  refine q _ rv es N (wordsOf ps qs rs ++ (["new", "other"] : List Str)) sA ⟨Shw.same sd (hd_same sA), e1, e2, e3⟩ ⟨?_, (ne_of_none (s12 _ _ n.ha) nN).symm, (ne_of_none (s12 _ _ n.hF) nN).symm, by rw [List.length_append]; show 0 < _ + 2; omega, by rw [List.length_append]; show _ + 2 ≤ 14; omega, fun z hz => ?_⟩
  · rw [upd_same, List.map_append]
    rfl
  · rcases List.mem_append.mp hz with hz | hz
    · exact W16_LW (words_W16 g z hz)
    · have : ∀ z ∈ (["new", "other"] : List Str), z ∈ LW := by decide +kernel
      exact this z hz
def n2 : TS := fun D σ H => ∃ (Y : Addr → Prop) (H00 : Hp) (a l F N : Addr) (kk : Nat) (x y c : Int) (us : List V) (dd es : List PyData) (rv : V) (nms : List Str), σ = StN a l (some (.ref F)) (some (.int (kk : Int))) (some rv) (some (.ref N)) none none none none ∧ NSy Y H00 H a F x y c us dd ∧ NRwy Y H F rv es ∧ NNm H a F N nms ∧ c ≤ 800000 ∧
  ∀ (H' : Hp) (od : V) (o : PyData) (x' c' : Int), c' ≤ c + 1 → NSy Y H00 H' a F x' y c' us dd → NRwy Y H' F rv es → NNm H' a F N nms → Shw (hd Y F H') od o → sm 1 o = true → D.nx (StN a l (some (.ref F)) (some (.int (kk : Int))) (some rv) (some (.ref N)) (some od) none none none) H'
def oddN : List PyData := [.str "", .str "A", .str "ninelette", .none, .int 0, .str "a b", .tuple [.str "a"], .list [.str "a"], .str "*1", .bool true]
theorem oddN_ok : ∀ d ∈ oddN, sm 1 d = true := by
  have h : (oddN.all (sm 1)) = true := by decide +kernel
  exact fun d hd => List.all_eq_true.mp h d hd
theorem near2 (R : NF P w K mg base) (hr : Room k (A.deeper (envOfC "_law_near" (defScope sNear) s0.heap.objs.size f cdv))) (hk : 3 ≤ k) : PS (NX P w K mg base f cdv A outer s0 H0 E).nox (stN 2) n2 := by
  refine ps_imp (ps_set (i := 6) scNear.nd rfl (.inl rfl) (pe_fnc R.one hr (by omega) (by rfl) pass0 (pa_cons (pv 0) (pa_cons (pe_op op_cat (pe_op op_cat (pe_lst (pa_cons pe_str (pa_cons pe_str (pa_cons pe_str (pa_cons pe_non (pa_cons pe_int (pa_cons pe_str (pa_cons (pe_tup (pa_cons pe_str pa_nil)) (pa_cons (pe_lst (pa_cons pe_str pa_nil)) (pa_cons pe_str (pa_cons pe_bl pa_nil))))))))))) (pv 5)) (pv 5)) pa_nil)))) ?_
  rintro D σ H ⟨Y, H00, a, l, F, N, kk, x, y, c, us, dd, es, rv, nms, rfl, n, r, m, hc, q⟩
  have pos := m.pos
  have few := m.few
  refine ⟨.ref a, rfl, (by rw [sizeLine_eq]; show 1 ≤ 16777216; decide), fun t1 nt1 => ⟨(by rw [sizeLine_eq]; show 1 ≤ 16777216; decide), fun l1 nl1 => ?_⟩⟩
  have s1 := same_upd (p := t1) (o := .tup [.str "a"]) nt1
  have s2 := same_upd (p := l1) (o := .lst [.str "a"]) nl1
  have s12 := s1.trans s2
  have e1 : hd Y F (upd (upd H t1 (.tup [.str "a"])) l1 (.lst [.str "a"])) t1 = some (.tup [.str "a"]) := hd_same s2 _ _ (hd_upd n.fx nt1)
  have e2 : hd Y F (upd (upd H t1 (.tup [.str "a"])) l1 (.lst [.str "a"])) l1 = some (.lst [.str "a"]) := hd_upd (n.same s1).fx nl1
  generalize upd (upd H t1 (.tup [.str "a"])) l1 (.lst [.str "a"]) = H1 at s12 e1 e2 ⊢
  refine ⟨(by rw [sizeLine_eq]; show 10 ≤ 16777216; decide), fun B nB => ?_⟩
  have s3 := same_upd (p := B) (o := .lst [.str "", .str "A", .str "ninelette", .non, .int 0, .str "a b", .ref t1, .ref l1, .str "*1", .bl true]) nB
  have m1 := (m.same s12).same s3
  refine ⟨.ref N, rfl, B, N, _, _, rfl, rfl, upd_same, m1.hN, (by rw [List.length_map, sizeLine_eq]; show 10 + _ ≤ 16777216; omega), fun D1 nD1 => ?_⟩
  have s4 := same_upd (p := D1) (o := .lst ([.str "", .str "A", .str "ninelette", .non, .int 0, .str "a b", .ref t1, .ref l1, .str "*1", .bl true] ++ nms.map V.str)) nD1
  have m2 := m1.same s4
  refine ⟨.ref N, rfl, D1, N, _, _, rfl, rfl, upd_same, m2.hN, (by rw [List.length_append, List.length_map, sizeLine_eq]; show 10 + _ + _ ≤ 16777216; omega), fun D2 nD2 => ?_⟩
  have s5 := same_upd (p := D2) (o := .lst (([.str "", .str "A", .str "ninelette", .non, .int 0, .str "a b", .ref t1, .ref l1, .str "*1", .bl true] ++ nms.map V.str) ++ nms.map V.str)) nD2
  have s345 := s3.trans (s4.trans s5)
  have sA := s12.trans s345
  have nA := n.same sA
  have sh : ShwAll (hd Y F (upd (upd (upd H1 B (.lst [.str "", .str "A", .str "ninelette", .non, .int 0, .str "a b", .ref t1, .ref l1, .str "*1", .bl true])) D1 (.lst ([.str "", .str "A", .str "ninelette", .non, .int 0, .str "a b", .ref t1, .ref l1, .str "*1", .bl true] ++ nms.map V.str))) D2 (.lst (([.str "", .str "A", .str "ninelette", .non, .int 0, .str "a b", .ref t1, .ref l1, .str "*1", .bl true] ++ nms.map V.str) ++ nms.map V.str))))
      (([.str "", .str "A", .str "ninelette", .non, .int 0, .str "a b", .ref t1, .ref l1, .str "*1", .bl true] ++ nms.map V.str) ++ nms.map V.str) ((oddN ++ nms.map PyData.str) ++ nms.map PyData.str) := by
    refine ShwAll.app (ShwAll.app ?_ (strs_shw nms)) (strs_shw nms)
    exact .cons (.str _) (.cons (.str _) (.cons (.str _) (.cons .non (.cons (.int 0) (.cons (.str _) (.cons (.tup (hd_same s345 _ _ e1) (.cons (.str _) .nil)) (.cons (.lst (hd_same s345 _ _ e2) (.cons (.str _) .nil)) (.cons (.str _) (.cons (.bl true) .nil)))))))))
  have hD2a : D2 ≠ a := (ne_of_none ((s12.trans (s3.trans s4)) _ _ n.ha) nD2).symm
  refine ⟨a, .ref D2, x, y, c, rfl, nA.ha, nA.C, by omega, .inl ⟨D2, _, rfl, upd_same, hD2a, ?_, ?_, fun i v x' c' hv C' ec => ?_⟩⟩
  · rw [List.length_append, List.length_append]
    show 0 < 10 + _ + _
    omega
  · rw [List.length_append, List.length_append, List.length_map]
    show 10 + _ + _ ≤ 1000
    omega
  · obtain ⟨o, ho, so⟩ := ShwAll.get sh hv
    have smo : sm 1 o = true := by
      rcases List.mem_append.mp (List.mem_of_getElem? ho) with h | h
      · rcases List.mem_append.mp h with h | h
        · exact oddN_ok o h
        · obtain ⟨z, hz, rfl⟩ := List.mem_map.mp h
          exact decide_eq_true (m.mem z hz)
      · obtain ⟨z, hz, rfl⟩ := List.mem_map.mp h
        exact decide_eq_true (m.mem z hz)
    exact q _ v o x' c' ec (nA.cr C') ((r.same sA).cr nA) (m.same sA).cr (nA.off so (sm_ok 1 o smo).off) smo
end
end K01

set_option autoImplicit false
set_option maxRecDepth 100000
set_option maxHeartbeats 4000000
namespace K01
open PySem PySem.Spec PyProof.Rows L2 KX
section
variable {P : Program} {w : World} {K : PySem.W.Frag} {mg : Str → Option Value} {base : Heap} {f : Addr} {cdv : Value} {A : Around} {outer : List Env} {s0 : Shared} {H0 : Hp} {E : XK} {k : Nat}
def n3 : TS := fun D σ H => ∃ (Y : Addr → Prop) (H00 : Hp) (a l F N : Addr) (kk : Nat) (x y c : Int) (us : List V) (dd es : List PyData) (rv od : V) (o : PyData) (nms : List Str), σ = StN a l (some (.ref F)) (some (.int (kk : Int))) (some rv) (some (.ref N)) (some od) none none none ∧ NSy Y H00 H a F x y c us dd ∧ NRwy Y H F rv es ∧ NNm H a F N nms ∧ c ≤ 800000 ∧ Shw (hd Y F H) od o ∧ sm 1 o = true ∧
  ∀ (H' : Hp) (it : V) (x' c' : Int), c' ≤ c + 1 → NSy Y H00 H' a F x' y c' us dd → NRwy Y H' F rv es → Shw (hd Y F H') od o → ((kk = 0 ∧ ∃ t nm, it = .ref t ∧ hd Y F H' t = some (.tup [od, .str nm]) ∧ nm ∈ LW) ∨ (kk ≠ 0 ∧ it = od)) → D.nx (StN a l (some (.ref F)) (some (.int (kk : Int))) (some rv) (some (.ref N)) (some od) (some it) none none) H'
theorem near3 (R : NF P w K mg base) (hr : Room k (A.deeper (envOfC "_law_near" (defScope sNear) s0.heap.objs.size f cdv))) (hk : 3 ≤ k) : PS (NX P w K mg base f cdv A outer s0 H0 E).nox (stN 3) n3 := by
  refine ps_imp (ps_set (i := 7) scNear.nd rfl (.inl rfl) (pe_ifExp (pt_cmpR op_eq (pv 3) pe_int (nomark _)) (pe_tup (pa_cons (pv 6) (pa_cons (pe_fnc R.one hr (by omega) (by rfl) pass0 (pa_cons (pv 0) (pa_cons (pv 5) pa_nil))) pa_nil))) (pv 6))) ?_
  rintro D σ H ⟨Y, H00, a, l, F, N, kk, x, y, c, us, dd, es, rv, od, o, nms, rfl, n, r, m, hc, so, smo, q⟩
  refine ⟨_, rfl, rfl, _, rfl, ?_⟩
  by_cases h : kk = 0
  · subst h
    refine iteT' (by simp) ?_
    have pos := m.pos
    have few := m.few
    refine ⟨od, rfl, .ref a, rfl, .ref N, rfl, a, .ref N, x, y, c, rfl, n.ha, n.C, by omega, .inl ⟨N, _, rfl, m.hN, m.Na, by rw [List.length_map]; exact pos, by rw [List.length_map]; omega, fun i v x' c' hv C' ec => ?_⟩⟩
    obtain ⟨z, hz, rfl⟩ : ∃ z, z ∈ nms ∧ v = .str z := by
      obtain ⟨z, hz, e⟩ := List.mem_map.mp (List.mem_of_getElem? hv)
      exact ⟨z, hz, e.symm⟩
    have n1 := n.cr (x' := x') (c' := c') C'
    have r1 := r.cr (x' := x') (c' := c') n
    have so1 := n.off (x' := x') (c' := c') so (sm_ok 1 o smo).off
    refine ⟨(by rw [sizeLine_eq]; show 2 ≤ 16777216; decide), fun t nt => ?_⟩
    have s1 := same_upd (p := t) (o := .tup [od, .str z]) nt
    exact q _ (.ref t) x' c' ec (n1.same s1) (r1.same s1) (Shw.same so1 (hd_same s1)) (.inl ⟨rfl, t, z, rfl, hd_upd n1.fx nt, m.mem z hz⟩)
  · refine iteF' (decide_eq_false fun e => ?_) ?_
    · have := V.int.inj e
      omega
    · exact ⟨od, rfl, q H od x c (by omega) n r so (.inr ⟨h, rfl⟩)⟩
def n4 : TS := fun D σ H => ∃ (Y : Addr → Prop) (H00 : Hp) (a l F : Addr) (kk : Nat) (x y c : Int) (us : List V) (dd es : List PyData) (rv od it : V) (o : PyData) (na : Option V), σ = StN a l (some (.ref F)) (some (.int (kk : Int))) (some rv) na (some od) (some it) none none ∧ NSy Y H00 H a F x y c us dd ∧ NRwy Y H F rv es ∧ c ≤ 800000 ∧ Shw (hd Y F H) od o ∧ sm 1 o = true ∧
  ((kk = 0 ∧ ∃ t nm, it = .ref t ∧ hd Y F H t = some (.tup [od, .str nm]) ∧ nm ∈ LW) ∨ (kk ≠ 0 ∧ it = od)) ∧
  ∀ (H' : Hp) (it : V) (d : PyData) (x' c' : Int), c' ≤ c + 1 → NSy Y H00 H' a F x' y c' us dd → NRwy Y H' F rv es → Shw (hd Y F H') it d → sm 2 d = true → D.nx (StN a l (some (.ref F)) (some (.int (kk : Int))) (some rv) na (some od) (some it) none none) H'
theorem sm2_pair {d1 d2 : PyData} (h1 : sm 1 d1 = true) (h2 : sm 1 d2 = true) : sm 2 (.tuple [d1, d2]) = true := by
  show (true && (sm 1 d1 && (sm 1 d2 && true))) = true
  rw [h1, h2]
  rfl
theorem near4 (R : NF P w K mg base) (hr : Room k (A.deeper (envOfC "_law_near" (defScope sNear) s0.heap.objs.size f cdv))) (hk : 3 ≤ k) : PS (NX P w K mg base f cdv A outer s0 H0 E).nox (stN 4) n4 := by
  refine ps_imp (ps_set (i := 7) scNear.nd rfl (.inl rfl) (pe_ifExp (PW.pt (pw_and (pt_cmpR op_eq (pv 3) pe_int (nomark _)) (pw_and1 (pt_cmpR op_eq (pe_fnc R.fish hr (by omega) (by rfl) pass0 (pa_cons (pv 0) (pa_cons pe_int pa_nil))) pe_int (nomark _))))) (pe_tup (pa_cons (pe_ix ix_tup (pv 7) pe_int (fun _ _ => rfl)) (pa_cons (pv 6) pa_nil))) (pv 7))) ?_
  rintro D σ H ⟨Y, H00, a, l, F, kk, x, y, c, us, dd, es, rv, od, it, o, na, rfl, n, r, hc, so, smo, hit, q⟩
  refine ⟨_, rfl, rfl, _, rfl, ?_⟩
  rcases hit with ⟨rfl, t, nm, rfl, ht, hnm⟩ | ⟨h, rfl⟩
  · refine iteT' (by simp) ?_
    refine ⟨.ref a, rfl, a, x, y, c, 2, rfl, n.ha, n.C, by omega, by decide, by decide, fun b x' c' b0 b2 C' ec => ⟨rfl, _, rfl, ?_⟩⟩
    have n1 := n.cr (x' := x') (c' := c') C'
    have r1 := r.cr (x' := x') (c' := c') n
    have so1 := n.off (x' := x') (c' := c') so (sm_ok 1 o smo).off
    have smn : sm 1 (.str nm) = true := decide_eq_true hnm
    have st : Shw (hd Y F H) (.ref t) (.tuple [o, .str nm]) := .tup ht (.cons so (.cons (.str nm) .nil))
    have st1 := n.off (x' := x') (c' := c') st (sm_ok 2 _ (sm2_pair smo smn)).off
    have ht1 : hd Y F (upd H a (crl x' y c')) t = some (.tup [od, .str nm]) := by
      have ne : t ≠ a := tup_ne (i := x) n.hda ht
      have := hd_grw (F := F) (Grw.upd (a := a) (H1 := H) (o := crl x' y c')) t _ ne ht
      exact this
    by_cases hb : b = 0
    · subst hb
      refine iteT' (by simp) ?_
      refine ⟨.ref t, rfl, t, _, 1, .str nm, rfl, rfl, SqT.of (hd_sub _ _ ht1), rfl, od, rfl, (by rw [sizeLine_eq]; show 2 ≤ 16777216; decide), fun t2 nt2 => ?_⟩
      have s1 := same_upd (p := t2) (o := .tup [.str nm, od]) nt2
      exact q _ (.ref t2) (.tuple [.str nm, o]) x' c' ec (n1.same s1) (r1.same s1) (.tup (hd_upd n1.fx nt2) (.cons (.str nm) (.cons (Shw.same so1 (hd_same s1)) .nil))) (sm2_pair smn smo)
    · refine iteF' (decide_eq_false fun e => hb (V.int.inj e)) ?_
      exact ⟨.ref t, rfl, q _ (.ref t) (.tuple [o, .str nm]) x' c' ec n1 r1 st1 (sm2_pair smo smn)⟩
  · refine iteF' (decide_eq_false fun e => ?_) ?_
    · have := V.int.inj e
      omega
    · exact ⟨it, rfl, q H it o x c (by omega) n r so (sm_up 1 o smo)⟩
def n5 : TS := fun D σ H => ∃ (Y : Addr → Prop) (H00 : Hp) (a l F : Addr) (kk : Nat) (x y c : Int) (us : List V) (dd es : List PyData) (rv it : V) (d : PyData) (na od : Option V), σ = StN a l (some (.ref F)) (some (.int (kk : Int))) (some rv) na od (some it) none none ∧ NSy Y H00 H a F x y c us dd ∧ NRwy Y H F rv es ∧ c ≤ 800000 ∧ Shw (hd Y F H) it d ∧ sm 2 d = true ∧
  ∀ (H' : Hp) (sp wa : Nat) (x' c' : Int), c' ≤ c + 2 → NSy Y H00 H' a F x' y c' us dd → NRwy Y H' F rv es → Shw (hd Y F H') it d → sp ≤ es.length → wa < 6 → D.nx (StN a l (some (.ref F)) (some (.int (kk : Int))) (some rv) na od (some it) (some (.int (sp : Int))) (some (.int (wa : Int)))) H'
theorem near5 (R : NF P w K mg base) (hr : Room k (A.deeper (envOfC "_law_near" (defScope sNear) s0.heap.objs.size f cdv))) (hk : 3 ≤ k) : PS (NX P w K mg base f cdv A outer s0 H0 E).nox (stN 5) n5 := by
  refine ps_imp (ps_par (i := 8) (j := 9) rfl scNear.nd rfl rfl (by decide) rfl rfl (pa_cons (pe_fnc R.fish hr (by omega) (by rfl) pass0 (pa_cons (pv 0) (pa_cons (pe_op op_add (pe_callB (r := rLen K) call_len_seq (by rfl) R.B.len PySem.boot_len (pa_cons (pv 4) pa_nil)) pe_int) pa_nil))) (pa_cons (pe_fnc R.fish hr (by omega) (by rfl) pass0 (pa_cons (pv 0) (pa_cons pe_int pa_nil))) pa_nil)) (by rfl)) ?_
  rintro D σ H ⟨Y, H00, a, l, F, kk, x, y, c, us, dd, es, rv, it, d, na, od, rfl, n, r, hc, si, smd, q⟩
  obtain ⟨b, xs, rfl, eb, sx⟩ := tup_get' r.sh
  have lx := ShwAll.len sx
  have few := r.few
  refine ⟨.ref a, rfl, .ref b, rfl, b, xs, rfl, .inr (SqT.of (hd_sub _ _ eb)), _, _, rfl, rfl, a, x, y, c, _, rfl, n.ha, n.C, by omega, by omega, by omega, fun r1 x1 c1 h0 h1 C1 e1 => ?_⟩
  have n1 := n.cr (x' := x1) (c' := c1) C1
  have rr1 := r.cr (x' := x1) (c' := c1) n
  have si1 := n.off (x' := x1) (c' := c1) si (sm_ok 2 d smd).off
  refine ⟨.ref a, rfl, a, x1, y, c1, 6, rfl, n1.ha, n1.C, by omega, by decide, by decide, fun r2 x2 c2 h2 h3 C2 e2 => ⟨_, _, rfl, ?_⟩⟩
  have z1 : r1 = ((r1.toNat : Nat) : Int) := by omega
  have z2 : r2 = ((r2.toNat : Nat) : Int) := by omega
  rw [z1, z2]
  exact q _ r1.toNat r2.toNat x2 c2 (by omega) (n1.cr C2) (rr1.cr n1) (n1.off si1 (sm_ok 2 d smd).off) (by omega) (by omega)
end
end K01

set_option autoImplicit false
set_option maxRecDepth 100000
set_option maxHeartbeats 4000000
namespace K01
open PySem PySem.Spec PyProof.Rows L2 KX
open Classical in
/-- all but the foreign addresses -/
noncomputable def hn (Y : Addr → Prop) (H : Hp) : Hp := fun b => if Y b then none else H b
theorem hn_put {Y : Addr → Prop} {F : Addr} {H : Hp} {o : HO} : Same (hd Y F H) (hn Y (upd H F o)) := fun b o' e => by
  have n := hd_in e
  rw [hd_ne n] at e
  unfold hn
  rw [if_neg fun h => n (.inr h), upd_ne fun h => n (.inl h)]
  exact e
/-- at the end: three components at F -/
structure Out (Y : Addr → Prop) (H0 H : Hp) (a F : Addr) (x y c : Int) : Prop where
  ex : ∃ us dd, H F = some (.lst us) ∧ ShwAll (hn Y H) us dd ∧ us.length = 3 ∧ ∀ d ∈ dd, comp d = true
  ha : H a = some (crl x y c)
  C : Cr x y c
  gr : Grw a H0 H
  Fa : F ≠ a
  yf : ¬ Y F
theorem ShwAll.set {H : Hp} {v : V} {d : PyData} (s : Shw H v d) : ∀ {vs : List V} {ds : List PyData} (n : Nat), ShwAll H vs ds → ShwAll H (vs.set n v) (ds.set n d)
  | _, _, _, .nil => .nil
  | _, _, 0, .cons _ r => .cons s r
  | _, _, n + 1, .cons a r => .cons a (ShwAll.set s n r)
section
variable {P : Program} {w : World} {K : PySem.W.Frag} {mg : Str → Option Value} {base : Heap} {f : Addr} {cdv : Value} {A : Around} {outer : List Env} {s0 : Shared} {H0 : Hp} {E : XK} {k : Nat}
theorem NSy.put {Y : Addr → Prop} {H00 H : Hp} {a F : Addr} {x y c : Int} {us : List V} {dd : List PyData} {u : V} {d : PyData} (n : NSy Y H00 H a F x y c us dd) (su : Shw (hd Y F H) u d) (cd : comp d = true) (l3 : us.length = 3) (kk : Nat) : Out Y H00 (upd H F (.lst (us.set kk u))) a F x y c := by
  refine ⟨⟨_, dd.set kk d, upd_same, ShwAll.same (ShwAll.set su kk n.sh) hn_put, by rw [List.length_set]; exact l3, fun e he => ?_⟩, by rw [upd_ne n.Fa.symm]; exact n.ha, n.C, fun b o nb e => ?_, n.Fa, n.yf⟩
  · rcases List.mem_or_eq_of_mem_set he with h | rfl
    · exact n.cm e h
    · exact cd
  · rw [upd_ne (ne_of_none e n.no)]
    exact n.gr _ _ nb e
theorem cutA_len {α : Type} (xs : List α) (lo hi : Option Int) : (cutA xs lo hi).length ≤ xs.length := by
  unfold cutA
  rw [List.length_take, List.length_drop]
  omega
theorem cutA_mem {α : Type} {xs : List α} {lo hi : Option Int} {x : α} (h : x ∈ cutA xs lo hi) : x ∈ xs := List.mem_of_mem_drop (List.mem_of_mem_take h)
theorem comp_tup {L : List PyData} (n : L.length ≤ 13) (h : ∀ e ∈ L, sm 2 e = true) : comp (.tuple L) = true := by
  show (decide (L.length ≤ 13) && L.all (sm 2)) = true
  rw [decide_eq_true n, Bool.true_and]
  exact List.all_eq_true.mpr h
theorem comp_lst {L : List PyData} (n : L.length ≤ 13) (hi : headInt L = false) (h : ∀ e ∈ L, sm 2 e = true) : comp (.list L) = true := by
  show (decide (L.length ≤ 13) && (!headInt L && L.all (sm 2))) = true
  rw [decide_eq_true n, hi, Bool.true_and, Bool.not_false, Bool.true_and]
  exact List.all_eq_true.mpr h
theorem seq3 {us : List V} {kk : Nat} (l3 : us.length = 3) (hkk : kk < 3) : ixN us.length (kk : Int) = some kk := by
  unfold ixN
  rw [if_pos (by omega), if_pos (by omega)]
  simp
def wl (ch : Nat) : Str := ("w" : Str) ++ ⟨#[ch]⟩
def letters : List Nat := ("abcdefghijklmnop" : Str).cps.toList
theorem wl_LW : ∀ ch ∈ letters, wl ch ∈ LW := by decide +kernel
theorem letters_len : letters.length = 16 := by decide +kernel
theorem cutW {m : Nat} (h : m ≤ 13) : cutV ((letters.map wl).map V.str) none (some (m : Int)) = (((letters.map wl).take m)).map V.str := by
  unfold cutV
  rw [List.length_map, List.length_map, letters_len, HT.sIx_nat, HT.sIx_none, List.drop_zero, List.map_take]
  congr 1
  omega
def n6 : TS := fun D σ H => ∃ (Y : Addr → Prop) (H00 : Hp) (a l F : Addr) (kk : Nat) (x y c : Int) (us : List V) (dd es : List PyData) (rv it : V) (d : PyData) (na od : Option V) (sp wa : Nat), σ = StN a l (some (.ref F)) (some (.int (kk : Int))) (some rv) na od (some it) (some (.int (sp : Int))) (some (.int (wa : Int))) ∧ NSy Y H00 H a F x y c us dd ∧ us.length = 3 ∧ kk < 3 ∧ NRwy Y H F rv es ∧ c ≤ 800000 ∧ Shw (hd Y F H) it d ∧ sm 2 d = true ∧ sp ≤ es.length ∧ wa < 6 ∧
  ∀ (H' : Hp) (x' c' : Int) (r1 r2 r3 r4 r5 r6 r7 r8 r9 r10 r11 r12 : Option V), c' ≤ c + 2 → Out Y H00 H' a F x' y c' → D.nx [some (.ref a), some (.ref l), some (.ref F), r1, r2, r3, r4, r5, r6, r7, r8, r9, r10, r11, r12] H'
theorem near6 (R : NF P w K mg base) (hr : Room k (A.deeper (envOfC "_law_near" (defScope sNear) s0.heap.objs.size f cdv))) (hk : 3 ≤ k) : PS (NX P w K mg base f cdv A outer s0 H0 E).nox (stN 6) n6 := by
  refine ps_imp (ps_if (pt_cmpR op_lt (pv 9) pe_int (nomark _))
      (pss_one (ps_asg (pe_op op_catA (pe_op op_catA (pe_slice sl_tupA (pv 4) po_none (po_some (pv 8))) (pe_tup (pa_cons (pv 7) pa_nil))) (pe_slice sl_tupA (pv 4) (po_some (pe_op op_add (pv 8) (pe_op op_mod (pv 9) pe_int))) po_none)) (pg_sub (pv 2) (pv 3) set_list)))
      (pss_one (ps_if (pt_cmpR op_eq (pv 9) pe_int (nomark _))
        (pss_one (ps_asg (pe_op op_catA (pe_slice sl_tupA (pv 4) po_none (po_some (pv 8))) (pe_slice sl_tupA (pv 4) (po_some (pe_op op_add (pv 8) pe_int)) po_none)) (pg_sub (pv 2) (pv 3) set_list)))
        (pss_one (ps_if (pt_cmpR op_eq (pv 9) pe_int (nomark _))
          (pss_cons (ps_set (i := 10) scNear.nd rfl (.inl rfl) (pe_lst (pa_cons (pe_callTy call_list_of (by rfl) R.B.list (by decide +kernel) (pa_cons (pv 4) pa_nil)) (pa_cons pe_non (pa_cons pe_int (pa_cons pe_str (pa_cons (pe_tup (pa_cons (pv 4) pa_nil)) (pa_cons pe_dnewK (pa_cons (pe_op op_catA (pv 4) (pe_tup (pa_cons (pe_tup pa_nil) pa_nil)))
              (pa_cons (pe_op op_catA (pv 4) (pe_tup (pa_cons (pe_tup (pa_cons pe_str (pa_cons pe_str (pa_cons pe_str pa_nil)))) pa_nil))) (pa_cons (pe_tupBack (pv 4)) pa_nil)))))))))))
            (pss_one (ps_asg (pe_fnc R.one hr (by omega) (by rfl) pass0 (pa_cons (pv 0) (pa_cons (pe_op op_cat (pv 10) (pe_lst (pa_cons (pe_op op_catA (pv 4) (pv 4)) pa_nil))) pa_nil))) (pg_sub (pv 2) (pv 3) set_list))))
          (pss_cons (ps_set (i := 11) scNear.nd rfl (.inl rfl) (pe_fnc R.one hr (by omega) (by rfl) pass0 (pa_cons (pv 0) (pa_cons (pe_lst (pa_cons pe_int (pa_cons pe_int (pa_cons pe_int (pa_cons pe_int pa_nil))))) pa_nil))))
            (pss_cons (ps_set (i := 12) scNear.nd rfl (.inl rfl) (pe_slice sl_list (pe_lc (own := [("_law_letter", 13)]) (g := gName 13) (tt := tYes) rfl scNear.nd (pi_str pe_str) (blkOk_by (N := nNear) (sc := defScope sNear) (by decide +kernel))
                (fun _ _ _ _ _ => pg_name (i := 13) scNear.nd rfl (Or.inl rfl) (Or.inr rfl)) (fun _ _ _ _ _ => pts_nil) (fun _ _ _ _ _ => pe_op op_add_str pe_str (pv 13))) po_none (po_some (pv 11))))
            (pss_one (ps_asg (pe_ifExp (pt_cmpR op_eq (pv 3) pe_int (nomark _)) (pe_callTy call_tuple_of (by rfl) R.B.tuple (by decide +kernel) (pa_cons (pe_lc (own := [("_law_word", 14)]) (g := gName 14) (tt := tYes) rfl scNear.nd (pi_list (pv 12)) (blkOk_by (N := nNear) (sc := defScope sNear) (by decide +kernel))
                (fun _ _ _ _ _ => pg_name (i := 14) scNear.nd rfl (Or.inl rfl) (Or.inr rfl)) (fun _ _ _ _ _ => pts_nil) (fun _ _ _ _ _ => pe_tup (pa_cons (pv 14) (pa_cons pe_str pa_nil)))) pa_nil))
              (pe_callTy call_tuple_of (by rfl) R.B.tuple (by decide +kernel) (pa_cons (pv 12) pa_nil))) (pg_sub (pv 2) (pv 3) set_list)))))))))) ?_
  rintro D σ H ⟨Y, H00, a, l, F, kk, x, y, c, us, dd, es, rv, it, d, na, od, sp, wa, rfl, n, l3, hkk, r, hc, si, smd, hsp, hwa, q⟩
  have few := r.few
  have sme : ∀ e ∈ es, sm 2 e = true := fun e he => sm_up 1 e (r.sm1 e he)
  refine ⟨_, rfl, _, _, rfl, rfl, _, rfl, ite2 (fun c1 => ?_) (fun c1 => ?_)⟩
  · refine ⟨rv, rfl, _, rfl, _, rfl, cut_data n.fx r.sh fun v1 H1 s1 sv1 => ?_⟩
    have n1 := n.same s1
    refine ⟨it, rfl, (by rw [sizeLine_eq]; show 1 ≤ 16777216; decide), fun p np => ?_⟩
    have sp1 := same_upd (p := p) (o := .tup [it]) np
    have st := tup_data n1.fx (Shw.same si (hd_same s1)) np
    have n2 := n1.same sp1
    refine cat_data n2.fx (Shw.same sv1 (hd_same sp1)) st (by have := cutA_len es none (some (sp : Int)); show _ + 1 ≤ 1000; omega) fun v2 H2 s2 sv2 => ?_
    have n3 := n2.same s2
    have sA := s1.trans (sp1.trans s2)
    refine ⟨rv, rfl, _, rfl, _, rfl, _, _, rfl, rfl, (show (0 : Int) < 2 from by decide), _, _, rfl, rfl, _, rfl, ?_⟩
    show tNoPart _ _ _
    unfold tNoPart
    refine cut_data n3.fx (Shw.same r.sh (hd_same sA)) fun v3 H3 s3 sv3 => ?_
    have n4 := n3.same s3
    have b1 := cutA_len es none (some (sp : Int))
    have b2 := cutA_len es (some ((sp : Int) + (wa : Int) % 2)) none
    refine cat_data n4.fx (Shw.same sv2 (hd_same s3)) sv3 (by rw [List.length_append]; show _ + 1 + _ ≤ 1000; omega) fun v4 H4 s4 sv4 => ?_
    have n5 := n4.same s4
    refine ⟨.ref F, rfl, _, rfl, F, us, _, kk, rfl, rfl, n5.hF, seq3 l3 hkk, ?_⟩
    refine q _ x c _ _ _ _ _ _ _ _ _ _ _ _ (by omega) (n5.put sv4 (comp_tup ?_ fun e he => ?_) l3 kk)
    · rw [List.length_append, List.length_append]
      show _ + 1 + _ ≤ 13
      omega
    · rcases List.mem_append.mp he with h | h
      · rcases List.mem_append.mp h with h | h
        · exact sme e (cutA_mem h)
        · rw [List.mem_singleton] at h
          subst h
          exact smd
      · exact sme e (cutA_mem h)
  · refine ⟨_, rfl, rfl, _, rfl, ite2 (fun c2 => ?_) (fun c2 => ?_)⟩
    · refine ⟨rv, rfl, _, rfl, _, rfl, cut_data n.fx r.sh fun v1 H1 s1 sv1 => ?_⟩
      have n1 := n.same s1
      refine ⟨rv, rfl, _, rfl, _, _, rfl, rfl, _, rfl, ?_⟩
      show tNoPart _ _ _
      unfold tNoPart
      refine cut_data n1.fx (Shw.same r.sh (hd_same s1)) fun v2 H2 s2 sv2 => ?_
      have n2 := n1.same s2
      have b1 := cutA_len es none (some (sp : Int))
      have b2 := cutA_len es (some ((sp : Int) + 1)) none
      refine cat_data n2.fx (Shw.same sv1 (hd_same s2)) sv2 (by omega) fun v4 H4 s4 sv4 => ?_
      have n5 := n2.same s4
      refine ⟨.ref F, rfl, _, rfl, F, us, _, kk, rfl, rfl, n5.hF, seq3 l3 hkk, ?_⟩
      refine q _ x c _ _ _ _ _ _ _ _ _ _ _ _ (by omega) (n5.put sv4 (comp_tup (by rw [List.length_append]; omega) fun e he => ?_) l3 kk)
      rcases List.mem_append.mp he with h | h
      · exact sme e (cutA_mem h)
      · exact sme e (cutA_mem h)
    · refine ⟨_, rfl, rfl, _, rfl, ite2 (fun c3 => ?_) (fun c3 => ?_)⟩
      · obtain ⟨b, xs, rfl, eb, sx⟩ := tup_get' r.sh
        have lx := ShwAll.len sx
        have sm1o := sm_ok
        -- list(row)
        refine ⟨.ref b, rfl, b, xs, rfl, .inr (SqT.of (hd_sub _ _ eb)), fun L1 nL1 => ?_⟩
        have s1 := same_upd (p := L1) (o := .lst xs) nL1
        have n1 := n.same s1
        have f1 : Shw (hd Y F (upd H L1 (.lst xs))) (.ref L1) (.list es) := .lst (hd_upd n.fx nL1) (ShwAll.same sx (hd_same s1))
        generalize upd H L1 (.lst xs) = H1 at s1 n1 f1 ⊢
        -- (row,)
        refine ⟨.ref b, rfl, (by rw [sizeLine_eq]; show 1 ≤ 16777216; decide), fun t1 nt1 => ?_⟩
        have s2 := same_upd (p := t1) (o := .tup [.ref b]) nt1
        have n2 := n1.same s2
        have f2 : Shw (hd Y F (upd H1 t1 (.tup [.ref b]))) (.ref t1) (.tuple [.tuple es]) := tup_data n1.fx (Shw.same r.sh (hd_same s1)) nt1
        generalize upd H1 t1 (.tup [.ref b]) = H2 at s2 n2 f2 ⊢
        -- {}
        intro d1 nd1
        have s3 := same_upd (p := d1) (o := .dK []) nd1
        have n3 := n2.same s3
        have f3 : Shw (hd Y F (upd H2 d1 (.dK []))) (.ref d1) (.dict []) := .dct (hd_upd n2.fx nd1)
        generalize upd H2 d1 (.dK []) = H3 at s3 n3 f3 ⊢
        have s03 := s1.trans (s2.trans s3)
        -- row + ((),)
        refine ⟨.ref b, rfl, (by rw [sizeLine_eq]; decide), fun t2 nt2 => ⟨(by rw [sizeLine_eq]; show 1 ≤ 16777216; decide), fun t3 nt3 => ?_⟩⟩
        have s4 := (same_upd (p := t2) (o := .tup []) nt2).trans (same_upd (p := t3) (o := .tup [.ref t2]) nt3)
        have n4 := n3.same s4
        have g4 : Shw (hd Y F (upd (upd H3 t2 (.tup [])) t3 (.tup [.ref t2]))) (.ref t3) (.tuple [.tuple []]) := tup_data (n3.same (same_upd nt2)).fx (.tup (hd_upd n3.fx nt2) .nil) nt3
        generalize upd (upd H3 t2 (.tup [])) t3 (.tup [.ref t2]) = H4 at s4 n4 g4 ⊢
        refine cat_data n4.fx (Shw.same r.sh (hd_same (s03.trans s4))) g4 (by show _ + 1 ≤ 1000; omega) fun v5 H5 s5 f5 => ?_
        have n5 := n4.same s5
        have s05 := (s03.trans s4).trans s5
        -- row + (("one", "two", "three"),)
        refine ⟨.ref b, rfl, (by rw [sizeLine_eq]; show 3 ≤ 16777216; decide), fun t4 nt4 => ⟨(by rw [sizeLine_eq]; show 1 ≤ 16777216; decide), fun t5 nt5 => ?_⟩⟩
        have s6 := (same_upd (p := t4) (o := .tup [.str "one", .str "two", .str "three"]) nt4).trans (same_upd (p := t5) (o := .tup [.ref t4]) nt5)
        have n6 := n5.same s6
        have g6 : Shw (hd Y F (upd (upd H5 t4 (.tup [.str "one", .str "two", .str "three"])) t5 (.tup [.ref t4]))) (.ref t5) (.tuple [.tuple [.str "one", .str "two", .str "three"]]) := tup_data (n5.same (same_upd nt4)).fx (.tup (hd_upd n5.fx nt4) (.cons (.str _) (.cons (.str _) (.cons (.str _) .nil)))) nt5
        generalize upd (upd H5 t4 (.tup [.str "one", .str "two", .str "three"])) t5 (.tup [.ref t4]) = H6 at s6 n6 g6 ⊢
        refine cat_data n6.fx (Shw.same r.sh (hd_same (s05.trans s6))) g6 (by show _ + 1 ≤ 1000; omega) fun v7 H7 s7 f7 => ?_
        have n7 := n6.same s7
        have s07 := (s05.trans s6).trans s7
        -- row[::-1]
        refine ⟨.ref b, rfl, b, xs, rfl, SqT.of (s07 _ _ (hd_sub _ _ eb)), fun t6 nt6 => ?_⟩
        have s8 := same_upd (p := t6) (o := .tup xs.reverse) nt6
        have n8 := n7.same s8
        have f8 : Shw (hd Y F (upd H7 t6 (.tup xs.reverse))) (.ref t6) (.tuple es.reverse) := .tup (hd_upd n7.fx nt6) (ShwAll.rev (ShwAll.same sx (hd_same (s07.trans s8))))
        generalize upd H7 t6 (.tup xs.reverse) = H8 at s8 n8 f8 ⊢
        -- the list
        refine ⟨(by rw [sizeLine_eq]; show 9 ≤ 16777216; decide), fun S nS => ?_⟩
        have s9 := same_upd (p := S) (o := .lst [.ref L1, .non, .int 0, .str "ab", .ref t1, .ref d1, v5, v7, .ref t6]) nS
        have n9 := n8.same s9
        have hS : (upd H8 S (.lst [.ref L1, .non, .int 0, .str "ab", .ref t1, .ref d1, v5, v7, .ref t6])) S = some (.lst [.ref L1, .non, .int 0, .str "ab", .ref t1, .ref d1, v5, v7, .ref t6]) := upd_same
        generalize upd H8 S (.lst [.ref L1, .non, .int 0, .str "ab", .ref t1, .ref d1, v5, v7, .ref t6]) = H9 at s9 n9 hS ⊢
        have s79 := s8.trans s9
        have s59 := s6.trans (s7.trans s79)
        have s39 := s4.trans (s5.trans s59)
        have s29 := s3.trans s39
        have s19 := s2.trans s29
        have s09 := s1.trans s19
        -- row + row
        refine ⟨.ref a, rfl, .ref S, rfl, .ref b, rfl, .ref b, rfl, ?_⟩
        refine cat_data n9.fx (Shw.same r.sh (hd_same s09)) (Shw.same r.sh (hd_same s09)) (by omega) fun v10 H10 s10 f10 => ?_
        have n10 := n9.same s10
        refine ⟨(by rw [sizeLine_eq]; show 1 ≤ 16777216; decide), fun T nT => ?_⟩
        have s11 := same_upd (p := T) (o := .lst [v10]) nT
        have n11 := n10.same s11
        refine ⟨S, T, _, _, rfl, rfl, s11 _ _ (s10 _ _ hS), upd_same, (by rw [sizeLine_eq]; show 10 ≤ 16777216; decide), fun U nU => ?_⟩
        have s12 := same_upd (p := U) (o := .lst ([.ref L1, .non, .int 0, .str "ab", .ref t1, .ref d1, v5, v7, .ref t6] ++ [v10])) nU
        have n12 := n11.same s12
        have s1112 := s11.trans s12
        have s912 := s10.trans s1112
        have sh : ShwAll (hd Y F (upd (upd H10 T (.lst [v10])) U (.lst ([.ref L1, .non, .int 0, .str "ab", .ref t1, .ref d1, v5, v7, .ref t6] ++ [v10])))) ([.ref L1, .non, .int 0, .str "ab", .ref t1, .ref d1, v5, v7, .ref t6] ++ [v10])
            [.list es, .none, .int 0, .str "ab", .tuple [.tuple es], .dict [], .tuple (es ++ [.tuple []]), .tuple (es ++ [.tuple [.str "one", .str "two", .str "three"]]), .tuple es.reverse, .tuple (es ++ es)] :=
          .cons (Shw.same f1 (hd_same (s19.trans s912))) (.cons .non (.cons (.int 0) (.cons (.str _) (.cons (Shw.same f2 (hd_same (s29.trans s912))) (.cons (Shw.same f3 (hd_same (s39.trans s912))) (.cons (Shw.same f5 (hd_same (s59.trans s912)))
            (.cons (Shw.same f7 (hd_same (s79.trans s912))) (.cons (Shw.same f8 (hd_same (s9.trans s912))) (.cons (Shw.same f10 (hd_same s1112)) .nil)))))))))
        have all : ∀ d ∈ [PyData.list es, .none, .int 0, .str "ab", .tuple [.tuple es], .dict [], .tuple (es ++ [.tuple []]), .tuple (es ++ [.tuple [.str "one", .str "two", .str "three"]]), .tuple es.reverse, .tuple (es ++ es)], comp d = true := by
          intro d hd
          simp only [List.mem_cons, List.not_mem_nil, or_false] at hd
          rcases hd with rfl | rfl | rfl | rfl | rfl | rfl | rfl | rfl | rfl | rfl
          · exact comp_lst (by omega) r.hi sme
          · rfl
          · rfl
          · exact str_comp (by decide +kernel)
          · refine comp_tup (by show 1 ≤ 13; decide) fun e he => ?_
            rw [List.mem_singleton] at he
            subst he
            show (decide (es.length ≤ 13) && es.all (sm 1)) = true
            rw [decide_eq_true (by omega), Bool.true_and]
            exact List.all_eq_true.mpr r.sm1
          · rfl
          · refine comp_tup (by rw [List.length_append]; show _ + 1 ≤ 13; omega) fun e he => ?_
            rcases List.mem_append.mp he with h | h
            · exact sme e h
            · rw [List.mem_singleton] at h
              subst h
              rfl
          · refine comp_tup (by rw [List.length_append]; show _ + 1 ≤ 13; omega) fun e he => ?_
            rcases List.mem_append.mp he with h | h
            · exact sme e h
            · rw [List.mem_singleton] at h
              subst h
              decide +kernel
          · exact comp_tup (by rw [List.length_reverse]; omega) fun e he => sme e (List.mem_reverse.mp he)
          · refine comp_tup (by rw [List.length_append]; omega) fun e he => ?_
            rcases List.mem_append.mp he with h | h
            · exact sme e h
            · exact sme e h
        have hUa : U ≠ a := (ne_of_none n11.ha nU).symm
        refine ⟨a, .ref U, x, y, c, rfl, n12.ha, n12.C, by omega, .inl ⟨U, _, rfl, upd_same, hUa, by show 0 < 10; decide, by show 10 ≤ 1000; decide, fun i v x' c' hv C' ec => ?_⟩⟩
        obtain ⟨o, ho, so⟩ := ShwAll.get sh hv
        have co := all o (List.mem_of_getElem? ho)
        have n13 := n12.cr (x' := x') (c' := c') C'
        refine ⟨.ref F, rfl, _, rfl, F, us, _, kk, rfl, rfl, n13.hF, seq3 l3 hkk, ?_⟩
        exact q _ x' c' _ _ _ _ _ _ _ _ _ _ _ _ (by omega) (n13.put (n12.off so (comp_ok co).off) co l3 kk)
      · refine ⟨.ref a, rfl, (by rw [sizeLine_eq]; show 4 ≤ 16777216; decide), fun M nM => ?_⟩
        have s1 := same_upd (p := M) (o := .lst [.int 6, .int 7, .int 12, .int 13]) nM
        have n1 := n.same s1
        refine ⟨a, .ref M, x, y, c, rfl, n1.ha, n1.C, by omega, .inl ⟨M, _, rfl, upd_same, (ne_of_none n.ha nM).symm, by show 0 < 4; decide, by show 4 ≤ 1000; decide, fun i v x1 c1 hv C1 ec => ?_⟩⟩
        obtain ⟨m, hm, rfl⟩ : ∃ m : Nat, m ≤ 13 ∧ v = .int (m : Int) := by
          match i with
          | 0 => cases hv; exact ⟨6, by decide, rfl⟩
          | 1 => cases hv; exact ⟨7, by decide, rfl⟩
          | 2 => cases hv; exact ⟨12, by decide, rfl⟩
          | 3 => cases hv; exact ⟨13, by decide, rfl⟩
          | i + 4 => cases hv
        have n2 := n1.cr (x' := x1) (c' := c1) C1
        generalize upd (upd H M (.lst [.int 6, .int 7, .int 12, .int 13])) a (crl x1 y c1) = H2 at n2 ⊢
        refine ⟨_, rfl, fun D0 nD0 => ?_⟩
        refine lc_str (fun i H' => Same H2 H' ∧ H' D0 = some (.lst ((letters.take i).map fun ch => V.str (wl ch)))) ⟨same_upd nD0, upd_same⟩ (fun i ch H' hc hP => ?_) (fun H' hP => ?_)
        · obtain ⟨s3, d3⟩ := hP
          have hcc : letters[i]? = some ch := hc
          have e1 : ("w" : Str).length = 1 := by decide +kernel
          refine ⟨rfl, _, rfl, _, _, rfl, rfl, (by rw [e1, sizeLine_eq]; show 1 + 1 ≤ 16777216; decide), _, d3, ?_, fun b o z => ?_, ?_⟩
          · rw [List.length_map, List.length_take, sizeLine_eq]
            have := letters_len
            omega
          · rw [upd_ne (ne_of_none z nD0)]
            exact s3 _ _ z
          · rw [upd_same, List.take_add_one, hcc, List.map_append]
            rfl
        · obtain ⟨s3, d3⟩ := hP
          have eL : ("abcdefghijklmnop" : Str).cps.toList.length = letters.length := rfl
          rw [eL, List.take_length] at d3
          have n3 := n2.same s3
          refine ⟨_, rfl, _, rfl, D0, _, rfl, SqL.of d3, fun W nW => ?_⟩
          have eW : (List.map (fun ch => V.str (wl ch)) letters) = (letters.map wl).map V.str := by rw [List.map_map]; rfl
          rw [eW, cutW hm]
          have s4 := same_upd (p := W) (o := .lst (((letters.map wl).take m).map V.str)) nW
          have n4 := n3.same s4
          have hW : (upd H' W (.lst (((letters.map wl).take m).map V.str))) W = some (.lst (((letters.map wl).take m).map V.str)) := upd_same
          have wlen : ((letters.map wl).take m).length ≤ 13 := by
            rw [List.length_take]
            omega
          have wmem : ∀ z ∈ (letters.map wl).take m, z ∈ LW := fun z hz => by
            obtain ⟨ch, hc, rfl⟩ := List.mem_map.mp (List.mem_of_mem_take hz)
            exact wl_LW ch hc
          generalize (letters.map wl).take m = ws at s4 n4 hW wlen wmem ⊢
          generalize upd H' W (.lst (ws.map V.str)) = H4 at n4 hW ⊢
          refine ⟨_, rfl, rfl, _, rfl, ite2 (fun c4 => ?_) (fun c4 => ?_)⟩
          · refine ⟨.ref W, rfl, W, rfl, ⟨_, SqL.of hW⟩, fun D2 nD2 => ?_⟩
            refine lc_list (K := K) (a := W) (xs := ws.map V.str) (fun m H' => Same H4 H' ∧ ∃ ys, H' D2 = some (.lst ys) ∧ ShwAll (hd Y F H') ys (((ws.take m).map fun z => (z, ("n" : Str))).map prD)) ⟨same_upd nD2, [], upd_same, .nil⟩ (fun m H' _ hP => SqL.of (hP.1 _ _ hW)) (fun m x H' hx hP => ?_) (fun H' hP => ?_)
            · obtain ⟨s5, ys, d5, sy⟩ := hP
              obtain ⟨z, hz, rfl⟩ : ∃ z, ws[m]? = some z ∧ x = .str z := by
                rw [List.getElem?_map] at hx
                cases e : ws[m]? with
                | none => rw [e] at hx; cases hx
                | some z => rw [e] at hx; cases hx; exact ⟨z, rfl, rfl⟩
              refine ⟨rfl, .str z, rfl, (by rw [sizeLine_eq]; show 2 ≤ 16777216; decide), fun t nt => ?_⟩
              have s6 := same_upd (p := t) (o := .tup [.str z, .str "n"]) nt
              have d6 := s6 _ _ d5
              have ly := ShwAll.len sy
              rw [List.length_map, List.length_map, List.length_take] at ly
              have n5 := (n4.same s5).same s6
              have DF : D2 ≠ F := (ne_of_none n4.hF nD2).symm
              have tD : t ≠ D2 := (ne_of_none d5 nt).symm
              refine ⟨_, d6, by rw [sizeLine_eq]; omega, fun b o e => ?_, _, upd_same, ?_⟩
              · rw [upd_ne (ne_of_none e nD2)]
                exact s6 _ _ (s5 _ _ e)
              · have e2 : (((ws.take (m + 1)).map fun z => (z, ("n" : Str))).map prD) = (((ws.take m).map fun z => (z, ("n" : Str))).map prD) ++ [prD (z, "n")] := by
                  rw [List.take_add_one, hz, List.map_append, List.map_append]
                  rfl
                rw [e2]
                have kt : ∀ b zs, hd Y F (upd H' t (.tup [.str z, .str "n"])) b = some (.tup zs) → hd Y F (upd (upd H' t (.tup [.str z, .str "n"])) D2 (.lst (ys ++ [.ref t]))) b = some (.tup zs) := fun b zs e => by
                  have e3 := hd_sub _ _ e
                  have bD : b ≠ D2 := fun k => by rw [k, d6] at e3; cases e3
                  have bF := hd_in e
                  rw [hd_ne bF, upd_ne bD]
                  exact e3
                refine ShwAll.snoc (ShwAll.keepT kt _ (ShwAll.same sy (hd_same s6))) ?_
                exact .tup (kt _ _ (hd_upd (n4.same s5).fx nt)) (.cons (.str _) (.cons (.str _) .nil))
            · obtain ⟨s5, ys, d5, sy⟩ := hP
              rw [List.length_map, List.take_length] at sy
              have n5 := n4.same s5
              refine ⟨D2, ys, rfl, .inl ⟨SqL.of d5, fun T nT => ?_⟩⟩
              have s6 := same_upd (p := T) (o := .tup ys) nT
              have n6 := n5.same s6
              have sT : Shw (hd Y F (upd H' T (.tup ys))) (.ref T) (.tuple ((ws.map fun z => (z, ("n" : Str))).map prD)) := .tup (hd_upd n5.fx nT) (ShwAll.same sy (hd_same s6))
              refine ⟨.ref F, rfl, _, rfl, F, us, _, kk, rfl, rfl, n6.hF, seq3 l3 hkk, ?_⟩
              refine q _ x1 c1 _ _ _ _ _ _ _ _ _ _ _ _ (by omega) (n6.put sT (prs_comp (by rw [List.length_map]; exact wlen) fun p hp => ?_) l3 kk)
              obtain ⟨z, hz, rfl⟩ := List.mem_map.mp hp
              exact ⟨wmem z hz, show ("n" : Str) ∈ LW by decide +kernel⟩
          · refine ⟨.ref W, rfl, W, _, rfl, .inl ⟨SqL.of hW, fun T nT => ?_⟩⟩
            have s6 := same_upd (p := T) (o := .tup (ws.map V.str)) nT
            have n6 := n4.same s6
            have sT : Shw (hd Y F (upd H4 T (.tup (ws.map V.str)))) (.ref T) (.tuple (ws.map PyData.str)) := .tup (hd_upd n4.fx nT) (strs_shw ws)
            refine ⟨.ref F, rfl, _, rfl, F, us, _, kk, rfl, rfl, n6.hF, seq3 l3 hkk, ?_⟩
            exact q _ x1 c1 _ _ _ _ _ _ _ _ _ _ _ _ (by omega) (n6.put sT (strs_comp wlen wmem) l3 kk)
end
end K01

set_option autoImplicit false
set_option maxRecDepth 100000
set_option maxHeartbeats 4000000
namespace K01
open PySem PySem.Spec PyProof.Rows L2 KX
section
variable {P : Program} {w : World} {K : PySem.W.Frag} {mg : Str → Option Value} {base : Heap} {f : Addr} {cdv : Value} {A : Around} {outer : List Env} {s0 : Shared} {H0 : Hp} {E : XK} {k : Nat}
/-- what the law holds against a frame: three components, apart from the creel and from foreign addresses -/
def Vl (Y : Addr → Prop) (H : Hp) (a F : Addr) (us : List V) (dd : List PyData) : Prop := F ≠ a ∧ ¬ Y F ∧ H F = some (.lst us) ∧ us.length = 3 ∧ ShwAll (hn Y H) us dd ∧ ∀ d ∈ dd, comp d = true
theorem hn_same {Y : Addr → Prop} {H H' : Hp} (s : Same H H') : Same (hn Y H) (hn Y H') := fun b o e => by
  unfold hn at e ⊢
  by_cases h : Y b
  · rw [if_pos h] at e; cases e
  · rw [if_neg h] at e ⊢; exact s _ _ e
theorem hn_sub {Y : Addr → Prop} {H : Hp} : Same (hn Y H) H := fun b o e => by
  unfold hn at e
  by_cases h : Y b
  · rw [if_pos h] at e; cases e
  · rw [if_neg h] at e; exact e
theorem hn_grw {Y : Addr → Prop} {H H' : Hp} {a : Addr} (s : ∀ b o, b ≠ a → ¬ Y b → H b = some o → H' b = some o) : Grw a (hn Y H) (hn Y H') := fun b o n e => by
  unfold hn at e ⊢
  by_cases h : Y b
  · rw [if_pos h] at e; cases e
  · rw [if_neg h] at e ⊢; exact s _ _ n h e
theorem Vl.grow {Y : Addr → Prop} {H H' : Hp} {a F : Addr} {us : List V} {dd : List PyData} {x y c : Int} (v : Vl Y H a F us dd) (ha : H a = some (crl x y c)) (ya : ¬ Y a) (g : ∀ b o, b ≠ a → ¬ Y b → H b = some o → H' b = some o) : Vl Y H' a F us dd := by
  obtain ⟨h1, h0, h2, h3, h4, h5⟩ := v
  have ha' : hn Y H a = some (crl x y c) := by
    unfold hn
    rw [if_neg ya]
    exact ha
  exact ⟨h1, h0, g _ _ h1 h0 h2, h3, ShwAll.off ha' (hn_grw g) (offAll_mem fun d hd => (comp_ok (h5 d hd)).off) h4, h5⟩
def n7 : TS := fun D σ H => ∃ (a l F : Addr) (r1 r2 r3 r4 r5 r6 r7 r8 r9 r10 r11 r12 : Option V), σ = [some (.ref a), some (.ref l), some (.ref F), r1, r2, r3, r4, r5, r6, r7, r8, r9, r10, r11, r12] ∧ D.rt (.ref F) H
theorem near7 : PS (NX P w K mg base f cdv A outer s0 H0 E).nox (stN 7) n7 := by
  refine ps_imp (ps_ret (pv 2)) ?_
  rintro D σ H ⟨a, l, F, r1, r2, r3, r4, r5, r6, r7, r8, r9, r10, r11, r12, rfl, q⟩
  exact ⟨.ref F, rfl, q⟩
def spNear : Sp := fun vs H Q _ => ∃ (Y : Addr → Prop) (a l : Addr) (x y c : Int) (v1 v2 v3 : V) (ps : List (Str × Str)) (qs rs : List Str), vs = [.ref a, .ref l] ∧ H a = some (crl x y c) ∧ Cr x y c ∧ c ≤ 700000 ∧ l ≠ a ∧ H l = some (.lst [v1, v2, v3]) ∧ GoodP ps qs rs ∧ Arr H v1 ps ∧ Txts H v2 qs ∧ Txts H v3 rs ∧ ¬ Y a ∧ (∀ b, Y b → ∃ xs, H b = some (.lst xs)) ∧
  ∀ (F : Addr) (us : List V) (dd : List PyData) (x' c' : Int) (H' : Hp), H' a = some (crl x' y c') → Cr x' y c' → c' ≤ c + 20 → Grw a H H' → Vl Y H' a F us dd → Q (.ref F) H'
theorem ok_near {fd : FuncData} (F : Fun K "_law_near" "_law_near" sNear f fd) (R : NF P w K mg base) : FnOk P w K mg base CX0 4 f fd ["_law_creel_here", "_law_parts_here"] spNear := by
  refine F.ok scNear (fun vs H Q E h => ?_) (fun cdv A outer s H vs Q E hr h => ?_)
  · obtain ⟨Y, a, l, x, y, c, v1, v2, v3, ps, qs, rs, rfl, _⟩ := h
    rfl
  · refine ⟨_, (pss_cons (near0 R hr (by omega)) (pss_cons (near1 R hr (by omega)) (pss_cons (near2 R hr (by omega)) (pss_cons (near3 R hr (by omega)) (pss_cons (near4 R hr (by omega)) (pss_cons (near5 R hr (by omega)) (pss_cons (near6 R hr (by omega)) (pss_one near7)))))))
      : PSs (NX P w K mg base f cdv A outer s H E).nox (defBody sNear) _), ?_⟩
    obtain ⟨Y, a, l, x, y, c, v1, v2, v3, ps, qs, rs, rfl, ha, C, hc, la, hl, g, y1, y2, y3, ya, yl, q⟩ := h
    refine ⟨Y, a, l, x, y, c, v1, v2, v3, ps, qs, rs, rfl, ha, C, hc, hl, g, y1, y2, y3, ya, yl, fun F kk x1 c1 H1 hkk e1 n1 => ?_⟩
    refine ⟨Y, H, a, l, F, kk, x1, y, c1, v1, v2, v3, ps, qs, rs, rfl, n1, hkk, g, n1.gr _ _ la hl, fun H2 rv es N nms s2 r2 m2 => ?_⟩
    have n2 := n1.same s2
    refine ⟨Y, H, a, l, F, N, kk, x1, y, c1, _, _, es, rv, nms, rfl, n2, r2, m2, by omega, fun H3 od o x3 c3 e3 n3 r3 m3 so smo => ?_⟩
    refine ⟨Y, H, a, l, F, N, kk, x3, y, c3, _, _, es, rv, od, o, nms, rfl, n3, r3, m3, by omega, so, smo, fun H4 it x4 c4 e4 n4 r4 so4 hit => ?_⟩
    refine ⟨Y, H, a, l, F, kk, x4, y, c4, _, _, es, rv, od, it, o, _, rfl, n4, r4, by omega, so4, smo, hit, fun H5 it5 d x5 c5 e5 n5 r5 si smd => ?_⟩
    refine ⟨Y, H, a, l, F, kk, x5, y, c5, _, _, es, rv, it5, d, _, _, rfl, n5, r5, by omega, si, smd, fun H6 sp wa x6 c6 e6 n6 r6 si6 hsp hwa => ?_⟩
    refine ⟨Y, H, a, l, F, kk, x6, y, c6, _, _, es, rv, it5, d, _, _, sp, wa, rfl, n6, rfl, hkk, r6, by omega, si6, smd, hsp, hwa, fun H7 x7 c7 r1 r2 r3 r4 r5 r6 r7 r8 r9 r10 r11 r12 e7 out => ?_⟩
    refine ⟨a, l, F, r1, r2, r3, r4, r5, r6, r7, r8, r9, r10, r11, r12, rfl, ?_⟩
    obtain ⟨us, dd, o1, o2, o3, o4⟩ := out.ex
    exact q F us dd x7 c7 H7 out.ha out.C (by omega) out.gr ⟨out.Fa, out.yf, o1, o3, o2, o4⟩
end
end K01

set_option autoImplicit false
set_option maxRecDepth 100000
set_option maxHeartbeats 4000000
namespace K01
open PySem PySem.Spec PyProof.Rows L2 KX
abbrev sRight : Stmt := topS 34
abbrev nRight : List Str := ["_law_creel_here", "_law_parts_here", "_law_value", "_law_text", "_law_due", "_law_one", "_law_two", "_law_turn"]
theorem scRight : FnScope nRight ["_law_creel_here"] (defScope sRight) := ⟨rfl, rfl, rfl, by decide +kernel, rfl, by decide +kernel, by decide +kernel⟩
def stR (i : Nat) : Stmt := (defBody sRight).getD i (.Pass ⟨0, 0, 0, 0⟩)
def bodyR : List Stmt := match stR 1 with
  | .For _ _ b _ _ => b
  | _ => []
def stB (i : Nat) : Stmt := bodyR.getD i (.Pass ⟨0, 0, 0, 0⟩)
abbrev StR (a : Addr) (l va te du on tw : Option V) : L2.St := [some (.ref a), l, va, te, du, on, tw, none]
/-- what _law_right calls -/
structure RG (P : Program) (w : World) (K : PySem.W.Frag) (mg : Str → Option Value) (base : Heap) (C : Addr) : Prop where
  B : Free mg
  mRepr : mg "repr" = none
  parts : Fnc P w K mg base CX0 3 "_law_parts" ["_law_creel_here"] spPts
  near : Fnc P w K mg base CX0 4 "_law_near" ["_law_creel_here", "_law_parts_here"] spNear
  are : Fnc P w K mg base CX0 3 "_law_are_parts" ["_law_parts_here"] spLParts
  met : Fnc P w K mg base CX0 7 "_law_met" ["_law_parts_here"] (spMet C)
  frame : Fnc P w K mg base CX0 7 "_law_frame" ["_law_parts_here"] (spFrame C)
  told : FncG P w K mg base 6 "_law_is_told" ["_law_frame_here", "_law_parts_here"] (spTold C)
  eq : OM P w K mg base CX0 1 C "__eq__" ["self", "other"] (spEq C)
  mr : PySem.W.mroIn K C (.type "object") = some true
  ne : PySem.W.findIn K (.ref C) "__ne__" = some (some (.builtin "object.__ne__"))
  nfC : PySem.W.notFirst K C (.ref C) = true
  nfL : PySem.W.notFirst K C (.type "list") = true
section
variable {X : Cx} {C : Addr} {j : Nat}
theorem OM.eq' (O : OM X.prog X.w X.K X.mg X.base CX0 1 C "__eq__" ["self", "other"] (spEq C)) (hr : Room j X.A) (hk : 1 ≤ j) : OpR X (compareOp .Eq) (rEqOwn X.K C (spEq C) E0 false) := by
  obtain ⟨g, fd, D, _, F, hb⟩ := O.ex
  exact op_eqOwn D (FnOk.r F hb) (hr.mono hk) pass0
theorem OM.ne' (O : OM X.prog X.w X.K X.mg X.base CX0 1 C "__eq__" ["self", "other"] (spEq C)) (hm : PySem.W.mroIn X.K C (.type "object") = some true) (hne : PySem.W.findIn X.K (.ref C) "__ne__" = some (some (.builtin "object.__ne__"))) (hr : Room j X.A) (hk : 2 ≤ j) : OpR X (compareOp .NotEq) (rEqOwn X.K C (spEq C) E0 true) := by
  obtain ⟨g, fd, D, _, F, hb⟩ := O.ex
  exact op_neOwn D hm hne (FnOk.r F hb) (hr.mono hk) pass0
end
theorem eqv_str_refl (z : Str) : PyData.eqv (.str z) (.str z) = true := by simp [PyData.eqv]
theorem eqvAll_refl {ds : List PyData} (h : ∀ d ∈ ds, PyData.eqv d d = true) : PyData.eqvAll ds ds = true := by
  induction ds with
  | nil => rfl
  | cons d ds ih => simp only [PyData.eqvAll, h d List.mem_cons_self, ih fun y hy => h y (List.mem_cons_of_mem _ hy), Bool.and_self]
theorem eqv_frD (ps : List (Str × Str)) (qs rs : List Str) : PyData.eqv (frD ps qs rs) (frD ps qs rs) = true := by
  have h1 : ∀ zs : List Str, PyData.eqv (.tuple (zs.map PyData.str)) (.tuple (zs.map PyData.str)) = true := fun zs => by
    simp only [PyData.eqv]
    refine eqvAll_refl fun d hd => ?_
    obtain ⟨z, _, rfl⟩ := List.mem_map.mp hd
    exact eqv_str_refl z
  have h2 : PyData.eqv (.tuple (ps.map prD)) (.tuple (ps.map prD)) = true := by
    simp only [PyData.eqv]
    refine eqvAll_refl fun d hd => ?_
    obtain ⟨p, _, rfl⟩ := List.mem_map.mp hd
    unfold prD
    simp only [PyData.eqv]
    refine eqvAll_refl fun d hd => ?_
    simp only [List.mem_cons, List.not_mem_nil, or_false] at hd
    rcases hd with rfl | rfl
    · exact eqv_str_refl _
    · exact eqv_str_refl _
  unfold frD
  simp only [PyData.eqv]
  refine eqvAll_refl fun d hd => ?_
  simp only [List.mem_cons, List.not_mem_nil, or_false] at hd
  rcases hd with rfl | rfl | rfl
  · exact h2
  · exact h1 qs
  · exact h1 rs
/-! what is told when the parts are right -/
theorem prs_back (ps : List (Str × Str)) : prsD (.tuple (ps.map prD)) = ps := by
  show (ps.map prD).map pairD = ps
  rw [List.map_map]
  exact (List.map_congr_left fun p _ => rfl).trans (List.map_id ps)
theorem strs_back (zs : List Str) : strsD (.tuple (zs.map PyData.str)) = zs := by
  show (zs.map PyData.str).map txtD = zs
  rw [List.map_map]
  exact (List.map_congr_left fun p _ => rfl).trans (List.map_id zs)
theorem good_frame {ps : List (Str × Str)} {qs rs : List Str} (g : GoodP ps qs rs) : isFrame (.tuple (ps.map prD)) (.tuple (qs.map PyData.str)) (.tuple (rs.map PyData.str)) = true := by
  have l1 := g.l1
  have l2 := g.l2
  have l3 := g.l3
  have nmS : ∀ {zs : List Str} {n : Nat}, zs.length ≤ n → (∀ z ∈ zs, z ∈ W16) → areNm n (.tuple (zs.map PyData.str)) = true := fun {zs n} l h => by
    show (decide ((zs.map PyData.str).length ≤ n) && (zs.map PyData.str).all isNm) = true
    rw [List.length_map, decide_eq_true l, Bool.true_and]
    refine List.all_eq_true.mpr fun d hd => ?_
    obtain ⟨z, hz, rfl⟩ := List.mem_map.mp hd
    exact W16_nm z (h z hz)
  have h1 : areArr (.tuple (ps.map prD)) = true := by
    show (decide ((ps.map prD).length ≤ 12) && (ps.map prD).all isPr) = true
    rw [List.length_map, decide_eq_true (by omega), Bool.true_and]
    refine List.all_eq_true.mpr fun d hd => ?_
    obtain ⟨p, hp, rfl⟩ := List.mem_map.mp hd
    have a := W16_nm _ (g.m1 p hp).1
    have b := W16_nm _ (g.m1 p hp).2
    show ((true && (nameS p.1 && (nameS p.2 && true))) && true) = true
    rw [a, b]
    rfl
  have nd := g.nd
  have h4 : nodupW (wordsD (.tuple (ps.map prD)) (.tuple (qs.map PyData.str)) (.tuple (rs.map PyData.str))) = true := by
    unfold wordsD nodupW
    rw [prs_back, strs_back, strs_back, onceS_id nd]
    simp
  unfold isFrame
  rw [h1, nmS (by omega) g.m2, nmS (by omega) g.m3, h4]
  rfl
theorem sm_of_comp {L : List PyData} (h : comp (.tuple L) = true) : ∀ d ∈ L, sm 2 d = true := by
  have h' : (decide (L.length ≤ 13) && L.all (sm 2)) = true := h
  rw [Bool.and_eq_true] at h'
  exact fun d hd => List.all_eq_true.mp h'.2 d hd
theorem names_told {n : Nat} {d : PyData} (c : comp d = true) (h : areNm n d = true) : ∀ z ∈ strsD d, z ∈ LW ∧ nameS z = true := by
  obtain ⟨e, _⟩ := names_are h
  rw [e] at c h
  intro z hz
  have m : PyData.str z ∈ (strsD d).map PyData.str := List.mem_map.mpr ⟨z, hz, rfl⟩
  have h' : (decide (((strsD d).map PyData.str).length ≤ n) && ((strsD d).map PyData.str).all isNm) = true := h
  rw [Bool.and_eq_true] at h'
  exact ⟨of_decide_eq_true (sm_of_comp c _ m), List.all_eq_true.mp h'.2 _ m⟩
theorem arrays_told {d : PyData} (c : comp d = true) (h : areArr d = true) : ∀ p ∈ prsD d, p.1 ∈ LW ∧ p.2 ∈ LW ∧ nameS p.1 = true ∧ nameS p.2 = true := by
  obtain ⟨e, _⟩ := arrays_are h
  rw [e] at c h
  intro p hp
  have m : prD p ∈ (prsD d).map prD := List.mem_map.mpr ⟨p, hp, rfl⟩
  have h' : (decide (((prsD d).map prD).length ≤ 12) && ((prsD d).map prD).all isPr) = true := h
  rw [Bool.and_eq_true] at h'
  have h1 := List.all_eq_true.mp h'.2 _ m
  have h2 : (true && (sm 1 (.str p.1) && (sm 1 (.str p.2) && true))) = true := sm_of_comp c _ m
  have h3 : ((true && (nameS p.1 && (nameS p.2 && true))) && true) = true := h1
  simp only [Bool.and_eq_true, Bool.true_and, Bool.and_true] at h2 h3
  exact ⟨of_decide_eq_true h2.1, of_decide_eq_true h2.2, h3.1, h3.2⟩
theorem Tl.of {C p F : Addr} {H : Hp} {u1 u2 u3 : V} {d1 d2 d3 : PyData} (c1 : comp d1 = true) (c2 : comp d2 = true) (c3 : comp d3 = true) (h : isFrame d1 d2 d3 = true) (fr : FrameAt C H p u1 u2 u3 (prsD d1) (strsD d2) (strsD d3)) (hF : H F = some (.lst [u1, u2, u3])) : Tl C H p F u1 u2 u3 (prsD d1) (strsD d2) (strsD d3) := by
  obtain ⟨a1, a2, a3, nd⟩ := isFrame_is h
  exact ⟨fr, hF, (arrays_are a1).2, (names_are a2).2, (names_are a3).2, nd, arrays_told c1 a1, names_told c2 a2, names_told c3 a3⟩
end K01

set_option autoImplicit false
set_option maxRecDepth 100000
set_option maxHeartbeats 4000000
namespace K01
open PySem PySem.Spec PyProof.Rows L2 KX
abbrev RX (P : Program) (w : World) (K : PySem.W.Frag) (mg : Str → Option Value) (base : Heap) (f : Addr) (cdv : Value) (A : Around) (outer : List Env) (s0 : Shared) (H0 : Hp) (E : XK) : Cx := cxOf CX0 P w K mg base nRight "_law_right" (defScope sRight) f cdv A outer s0 H0 E
/-- what _law_met answers -/
def On (C : Addr) (H : Hp) (v u1 u2 u3 : V) (d1 d2 d3 : PyData) : Prop := (isFrame d1 d2 d3 = false ∧ v = .non) ∨ (isFrame d1 d2 d3 = true ∧ ∃ p, v = .ref p ∧ FrameAt C H p u1 u2 u3 (prsD d1) (strsD d2) (strsD d3))
theorem On.same {C : Addr} {H H' : Hp} {v u1 u2 u3 : V} {d1 d2 d3 : PyData} (o : On C H v u1 u2 u3 d1 d2 d3) (s : Same H H') : On C H' v u1 u2 u3 d1 d2 d3 := by
  rcases o with h | ⟨h, p, e, f⟩
  · exact .inl h
  · exact .inr ⟨h, p, e, f.same s⟩
theorem On.non {C : Addr} {H : Hp} {v u1 u2 u3 : V} {d1 d2 d3 : PyData} (o : On C H v u1 u2 u3 d1 d2 d3) : (!decide (v = .non)) = isFrame d1 d2 d3 := by
  rcases o with ⟨h, rfl⟩ | ⟨h, p, rfl, f⟩
  · rw [h]; rfl
  · rw [h]; simp
/-- a value of the loop -/
structure V3 (H : Hp) (F : Addr) (u1 u2 u3 : V) (d1 d2 d3 : PyData) : Prop where
  hF : H F = some (.lst [u1, u2, u3])
  s1 : Shw H u1 d1
  s2 : Shw H u2 d2
  s3 : Shw H u3 d3
  c1 : comp d1 = true
  c2 : comp d2 = true
  c3 : comp d3 = true
theorem V3.same {H H' : Hp} {F : Addr} {u1 u2 u3 : V} {d1 d2 d3 : PyData} (v : V3 H F u1 u2 u3 d1 d2 d3) (s : Same H H') : V3 H' F u1 u2 u3 d1 d2 d3 := ⟨s _ _ v.hF, Shw.same v.s1 s, Shw.same v.s2 s, Shw.same v.s3 s, v.c1, v.c2, v.c3⟩
theorem V3.show_ {H : Hp} {F : Addr} {u1 u2 u3 : V} {d1 d2 d3 : PyData} (v : V3 H F u1 u2 u3 d1 d2 d3) : (PyData.list [d1, d2, d3]).showable = true ∧ (PyData.list [d1, d2, d3]).depth ≤ 60 ∧ (PyData.list [d1, d2, d3]).shown.length ≤ 1000000 :=
  show_list (by show 3 ≤ 13; decide) fun d hd => by
    simp only [List.mem_cons, List.not_mem_nil, or_false] at hd
    rcases hd with rfl | rfl | rfl
    · exact v.c1
    · exact v.c2
    · exact v.c3
section
variable {P : Program} {w : World} {K : PySem.W.Frag} {mg : Str → Option Value} {base : Heap} {C f : Addr} {cdv : Value} {A : Around} {outer : List Env} {s0 : Shared} {H0 : Hp} {E : XK} {k : Nat}
def b0 : TS := fun D σ H => ∃ (a F : Addr) (u1 u2 u3 : V) (d1 d2 d3 : PyData) (l te du on tw : Option V), σ = StR a l (some (.ref F)) te du on tw ∧ V3 H F u1 u2 u3 d1 d2 d3 ∧
  ∀ H', Same H H' → D.nx (StR a l (some (.ref F)) (some (.str (PyData.list [d1, d2, d3]).shown)) (some (.bl (isFrame d1 d2 d3))) on tw) H'
theorem body0 (R : RG P w K mg base C) (hG : (A.deeper (envOfC "_law_right" (defScope sRight) s0.heap.objs.size f cdv)).guards = some []) (hr : Room k (A.deeper (envOfC "_law_right" (defScope sRight) s0.heap.objs.size f cdv))) (hk : 7 ≤ k) : PS (RX P w K mg base f cdv A outer s0 H0 E).nox (stB 0) b0 := by
  refine ps_imp (ps_par (i := 3) (j := 4) rfl scRight.nd rfl rfl (by decide) rfl rfl (pa_cons (pe_callB (call_reprL hG hr.units) (by rfl) R.mRepr (by decide +kernel) (pa_cons (pv 2) pa_nil)) (pa_cons (pe_fnc R.are hr (by omega) (by rfl) pass0 (pa_cons (pv 2) pa_nil)) pa_nil)) (by rfl)) ?_
  rintro D σ H ⟨a, F, u1, u2, u3, d1, d2, d3, l, te, du, on, tw, rfl, v, q⟩
  obtain ⟨z1, z2, z3⟩ := v.show_
  have o1 := comp_ok v.c1
  have o2 := comp_ok v.c2
  have o3 := comp_ok v.c3
  have e1 := o1.few
  have e2 := o2.few
  have e3 := o3.few
  refine ⟨.ref F, rfl, F, u1, _, [d1, d2, d3], rfl, v.hF, .cons v.s1 (.cons v.s2 (.cons v.s3 .nil)), z1, z2, z3, ?_⟩
  refine ⟨.ref F, rfl, F, u1, u2, u3, d1, d2, d3, rfl, v.hF, v.s1, v.s2, v.s3, o1.g, o2.g, o3.g, o1.low, o2.low, o3.low, by omega, by omega, by omega, fun H' s' => ⟨_, _, rfl, q H' s'⟩⟩
def b1 (C : Addr) : TS := fun D σ H => ∃ (a F : Addr) (u1 u2 u3 : V) (d1 d2 d3 : PyData) (l te du on tw : Option V), σ = StR a l (some (.ref F)) te du on tw ∧ V3 H F u1 u2 u3 d1 d2 d3 ∧
  ∀ H' v1 v2, Same H H' → On C H' v1 u1 u2 u3 d1 d2 d3 → On C H' v2 u1 u2 u3 d1 d2 d3 → D.nx (StR a l (some (.ref F)) te du (some v1) (some v2)) H'
theorem body1 (R : RG P w K mg base C) (hr : Room k (A.deeper (envOfC "_law_right" (defScope sRight) s0.heap.objs.size f cdv))) (hk : 7 ≤ k) : PS (RX P w K mg base f cdv A outer s0 H0 E).nox (stB 1) (b1 C) := by
  refine ps_imp (ps_par (i := 5) (j := 6) rfl scRight.nd rfl rfl (by decide) rfl rfl (pa_cons (pe_fnc R.met hr (by omega) (by rfl) pass0 (pa_cons (pv 2) pa_nil)) (pa_cons (pe_fnc R.met hr (by omega) (by rfl) pass0 (pa_cons (pv 2) pa_nil)) pa_nil)) (by rfl)) ?_
  rintro D σ H ⟨a, F, u1, u2, u3, d1, d2, d3, l, te, du, on, tw, rfl, v, q⟩
  have o1 := comp_ok v.c1
  have o2 := comp_ok v.c2
  have o3 := comp_ok v.c3
  have next : ∀ (H1 : Hp) (x : V), Same H H1 → On C H1 x u1 u2 u3 d1 d2 d3 → (spMet C) [.ref F] H1 (fun y H2 => ∃ v w, [x, y] = [v, w] ∧ D.nx (((StR a l (some (.ref F)) te du on tw).set 5 (some v)).set 6 (some w)) H2) E0 := fun H1 x s1 ox => by
    have v1 := v.same s1
    refine ⟨F, u1, u2, u3, d1, d2, d3, rfl, v1.hF, v1.s1, v1.s2, v1.s3, o1.g, o2.g, o3.g, fun h H2 s2 => ⟨_, _, rfl, ?_⟩, fun h p H2 s2 fr => ⟨_, _, rfl, ?_⟩⟩
    · exact q H2 x .non (s1.trans s2) (ox.same s2) (.inl ⟨h, rfl⟩)
    · exact q H2 x (.ref p) (s1.trans s2) (ox.same s2) (.inr ⟨h, p, rfl, fr⟩)
  refine ⟨.ref F, rfl, F, u1, u2, u3, d1, d2, d3, rfl, v.hF, v.s1, v.s2, v.s3, o1.g, o2.g, o3.g, fun h H1 s1 => ?_, fun h p H1 s1 fr => ?_⟩
  · exact ⟨.ref F, rfl, next H1 .non s1 (.inl ⟨h, rfl⟩)⟩
  · exact ⟨.ref F, rfl, next H1 (.ref p) s1 (.inr ⟨h, p, rfl, fr⟩)⟩
def b2 (C : Addr) : TS := fun D σ H => ∃ (a F : Addr) (u1 u2 u3 v1 v2 : V) (d1 d2 d3 : PyData) (l : Option V), σ = StR a l (some (.ref F)) (some (.str (PyData.list [d1, d2, d3]).shown)) (some (.bl (isFrame d1 d2 d3))) (some v1) (some v2) ∧ V3 H F u1 u2 u3 d1 d2 d3 ∧ On C H v1 u1 u2 u3 d1 d2 d3 ∧ On C H v2 u1 u2 u3 d1 d2 d3 ∧
  D.nx (StR a l (some (.ref F)) (some (.str (PyData.list [d1, d2, d3]).shown)) (some (.bl (isFrame d1 d2 d3))) (some v1) (some v2)) H
theorem body2 (R : RG P w K mg base C) (hG : (A.deeper (envOfC "_law_right" (defScope sRight) s0.heap.objs.size f cdv)).guards = some []) (hr : Room k (A.deeper (envOfC "_law_right" (defScope sRight) s0.heap.objs.size f cdv))) (hk : 7 ≤ k) : PS (RX P w K mg base f cdv A outer s0 H0 E).nox (stB 2) (b2 C) := by
  refine ps_imp (ps_if (PW.pt (pw_or (pt_cmpR op_ne (pe_cmpR op_notN1 (pv 5) pe_non (nomark _)) (pv 4) (nomark _)) (pw_or (pt_cmpR op_ne (pe_cmpR op_notN1 (pv 6) pe_non (nomark _)) (pv 4) (nomark _))
    (pw_or1 (pt_cmpR op_ne (pe_callB (call_reprL hG hr.units) (by rfl) R.mRepr (by decide +kernel) (pa_cons (pv 2) pa_nil)) (pv 3) (nomark _)))))) (pss_one (ps_ret pe_bl)) pss_nil) ?_
  rintro D σ H ⟨a, F, u1, u2, u3, v1, v2, d1, d2, d3, l, rfl, v, o1, o2, q⟩
  obtain ⟨z1, z2, z3⟩ := v.show_
  refine ⟨v1, rfl, rfl, _, rfl, rfl, _, rfl, ?_⟩
  refine iteF' (by rw [o1.non]; simp) ?_
  refine ⟨v2, rfl, rfl, _, rfl, rfl, _, rfl, ?_⟩
  refine iteF' (by rw [o2.non]; simp) ?_
  refine ⟨.ref F, rfl, F, u1, _, [d1, d2, d3], rfl, v.hF, .cons v.s1 (.cons v.s2 (.cons v.s3 .nil)), z1, z2, z3, _, rfl, rfl, _, rfl, ?_⟩
  exact iteF' (by simp) q
end
end K01

set_option autoImplicit false
set_option maxRecDepth 100000
set_option maxHeartbeats 4000000
namespace K01
open PySem PySem.Spec PyProof.Rows L2 KX
section
variable {P : Program} {w : World} {K : PySem.W.Frag} {mg : Str → Option Value} {base : Heap} {C f : Addr} {cdv : Value} {A : Around} {outer : List Env} {s0 : Shared} {H0 : Hp} {E : XK} {k : Nat}
theorem V3.okF {H : Hp} {F : Addr} {u1 u2 u3 : V} {d1 d2 d3 : PyData} (v : V3 H F u1 u2 u3 d1 d2 d3) (h : isFrame d1 d2 d3 = true) : okF (prsD d1) (strsD d2) (strsD d3) := by
  obtain ⟨a1, a2, a3, _⟩ := isFrame_is h
  refine ⟨fun z hz => ?_, fun z hz => ?_, fun z hz => LW_str z (names_told v.c2 a2 z hz).1, fun z hz => LW_str z (names_told v.c3 a3 z hz).1⟩
  · obtain ⟨p, hp, rfl⟩ := List.mem_map.mp hz
    exact LW_str _ (arrays_told v.c1 a1 p hp).1
  · obtain ⟨p, hp, rfl⟩ := List.mem_map.mp hz
    exact LW_str _ (arrays_told v.c1 a1 p hp).2.1
def b3 (C : Addr) : TS := fun D σ H => ∃ (a F : Addr) (u1 u2 u3 v1 v2 : V) (d1 d2 d3 : PyData) (l te : Option V), σ = StR a l (some (.ref F)) te (some (.bl (isFrame d1 d2 d3))) (some v1) (some v2) ∧ V3 H F u1 u2 u3 d1 d2 d3 ∧ On C H v1 u1 u2 u3 d1 d2 d3 ∧ On C H v2 u1 u2 u3 d1 d2 d3 ∧
  ∀ H', Same H H' → D.nx (StR a l (some (.ref F)) te (some (.bl (isFrame d1 d2 d3))) (some v1) (some v2)) H'
theorem body3 (R : RG P w K mg base C) (hG : (A.deeper (envOfC "_law_right" (defScope sRight) s0.heap.objs.size f cdv)).guards = some []) (hr : Room k (A.deeper (envOfC "_law_right" (defScope sRight) s0.heap.objs.size f cdv))) (hk : 7 ≤ k) : PS (RX P w K mg base f cdv A outer s0 H0 E).nox (stB 3) (b3 C) := by
  refine ps_imp (ps_if (PW.pt (pw_and (pt_val (pv 4)) (pw_and1 (PW.pt (pw_or (pt_cmpR (R.eq.ne' R.mr R.ne hr (by omega)) (pv 5) (pv 6) (nomark _)) (pw_or1 (pt_not (pt_val (pe_fncG R.told hG hr (by omega) (by rfl) (pa_cons (pv 5) (pa_cons (pv 2) pa_nil)))))))))))
    (pss_one (ps_ret pe_bl)) pss_nil) ?_
  rintro D σ H ⟨a, F, u1, u2, u3, v1, v2, d1, d2, d3, l, te, rfl, v, o1, o2, q⟩
  refine ⟨_, rfl, _, rfl, ?_⟩
  rcases o1 with ⟨h, rfl⟩ | ⟨h, p, rfl, fr⟩
  · exact iteF' h (q H (Same.refl H))
  · rcases o2 with ⟨h2, _⟩ | ⟨_, p2, rfl, fr2⟩
    · rw [h] at h2; cases h2
    · refine iteT' h ?_
      obtain ⟨dx, t', d', e', ob, _⟩ := id fr.ob
      obtain ⟨dx2, t2, d2', e2, ob2, _⟩ := id fr2.ob
      have okf := v.okF h
      refine ⟨_, rfl, _, rfl, p, dx, _, _, rfl, ob, .ins ob2, R.nfC, p, p2, u1, u2, u3, _, _, _, rfl, fr, .inr ⟨u1, u2, u3, _, _, _, fr2, okf, okf, fun H1 s1 => ⟨_, rfl, ⟨_, rfl, ?_⟩⟩⟩⟩
      refine iteF' (by rw [eqv_frD]; rfl) ?_
      refine ⟨_, rfl, _, rfl, rfl, p, F, u1, u2, u3, _, _, _, rfl, (Tl.of v.c1 v.c2 v.c3 h fr v.hF).same s1, fun H2 s2 => ⟨_, rfl, ?_⟩⟩
      exact iteF' rfl (q H2 (s1.trans s2))
/-- the parts, and that they are a list apart from the creel -/
structure PA' (H : Hp) (l : Addr) (v1 v2 v3 : V) (ps : List (Str × Str)) (qs rs : List Str) : Prop where
  hl : H l = some (.lst [v1, v2, v3])
  y1 : Arr H v1 ps
  y2 : Txts H v2 qs
  y3 : Txts H v3 rs
  g : GoodP ps qs rs
theorem PA'.same {H H' : Hp} {l : Addr} {v1 v2 v3 : V} {ps : List (Str × Str)} {qs rs : List Str} (p : PA' H l v1 v2 v3 ps qs rs) (s : Same H H') : PA' H' l v1 v2 v3 ps qs rs := ⟨s _ _ p.hl, Shw.same p.y1 s, p.y2.same s, p.y3.same s, p.g⟩
theorem GoodP.okF {ps : List (Str × Str)} {qs rs : List Str} (g : GoodP ps qs rs) : okF ps qs rs := by
  refine ⟨fun z hz => ?_, fun z hz => ?_, fun z hz => LW_str z (W16_LW (g.m2 z hz)), fun z hz => LW_str z (W16_LW (g.m3 z hz))⟩
  · obtain ⟨p, hp, rfl⟩ := List.mem_map.mp hz
    exact LW_str _ (W16_LW (g.m1 p hp).1)
  · obtain ⟨p, hp, rfl⟩ := List.mem_map.mp hz
    exact LW_str _ (W16_LW (g.m1 p hp).2)
/-- the frame of the parts -/
theorem PA'.frame {H : Hp} {l : Addr} {v1 v2 v3 : V} {ps : List (Str × Str)} {qs rs : List Str} {Q : VK} (p : PA' H l v1 v2 v3 ps qs rs) (q : ∀ (r : Addr) (H' : Hp), Same H H' → FrameAt C H' r v1 v2 v3 ps qs rs → Q (.ref r) H') : spFrame C [.ref l] H Q E0 := by
  have cm := good_comp p.g
  refine ⟨l, v1, v2, v3, _, _, _, rfl, p.hl, p.y1, txts_shw p.y2, txts_shw p.y3, (comp_ok (cm (.tuple (ps.map prD)) (by simp [dd3]))).g, (comp_ok (cm (.tuple (qs.map PyData.str)) (by simp [dd3]))).g, (comp_ok (cm (.tuple (rs.map PyData.str)) (by simp [dd3]))).g, good_frame p.g, fun r H' s' fr => ?_⟩
  rw [prs_back, strs_back, strs_back] at fr
  exact q r H' s' fr
def b4 (C : Addr) : TS := fun D σ H => ∃ (a F l : Addr) (u1 u2 u3 v1 : V) (d1 d2 d3 : PyData) (te tw : Option V) (w1 w2 w3 : V) (ps : List (Str × Str)) (qs rs : List Str), σ = StR a (some (.ref l)) (some (.ref F)) te (some (.bl (isFrame d1 d2 d3))) (some v1) tw ∧ V3 H F u1 u2 u3 d1 d2 d3 ∧ On C H v1 u1 u2 u3 d1 d2 d3 ∧ PA' H l w1 w2 w3 ps qs rs ∧
  ∀ H', Same H H' → D.nx (StR a (some (.ref l)) (some (.ref F)) te (some (.bl (isFrame d1 d2 d3))) (some v1) tw) H'
theorem body4 (R : RG P w K mg base C) (hr : Room k (A.deeper (envOfC "_law_right" (defScope sRight) s0.heap.objs.size f cdv))) (hk : 7 ≤ k) : PS (RX P w K mg base f cdv A outer s0 H0 E).nox (stB 4) (b4 C) := by
  refine ps_imp (ps_if (PW.pt (pw_and (pt_val (pv 4)) (pw_and1 (pt_cmpR op_ne (pe_cmpR (R.eq.eq' hr (by omega)) (pv 5) (pe_fnc R.frame hr (by omega) (by rfl) pass0 (pa_cons (pv 1) pa_nil)) (nomark _)) (pe_cmpR (op_eqD hr.units) (pv 2) (pv 1) (nomark _)) (nomark _)))))
    (pss_one (ps_ret pe_bl)) pss_nil) ?_
  rintro D σ H ⟨a, F, l, u1, u2, u3, v1, d1, d2, d3, te, tw, w1, w2, w3, ps, qs, rs, rfl, v, o1, pa, q⟩
  refine ⟨_, rfl, _, rfl, ?_⟩
  rcases o1 with ⟨h, rfl⟩ | ⟨h, p, rfl, fr⟩
  · exact iteF' h (q H (Same.refl H))
  · refine iteT' h ?_
    refine ⟨_, rfl, .ref l, rfl, ?_⟩
    show tNil _ _ _
    unfold tNil
    refine pa.frame (fun r H1 s1 fr1 => ?_)
    have fr' := fr.same s1
    obtain ⟨dx, t', d', e', ob, _⟩ := id fr'.ob
    obtain ⟨dx2, t2, d2', e2, ob2, _⟩ := id fr1.ob
    refine ⟨p, dx, _, _, rfl, ob, .ins ob2, R.nfC, p, r, u1, u2, u3, _, _, _, rfl, fr', .inr ⟨w1, w2, w3, _, _, _, fr1, v.okF h, pa.g.okF, fun H2 s2 => ⟨_, rfl, ?_⟩⟩⟩
    have s12 := s1.trans s2
    have v2 := v.same s12
    have p2 := pa.same s12
    obtain ⟨a1, a2, a3, _⟩ := isFrame_is h
    obtain ⟨x1, _⟩ := arrays_are a1
    obtain ⟨x2, _⟩ := names_are a2
    obtain ⟨x3, _⟩ := names_are a3
    have low : ∀ {L : List PyData}, comp (.tuple L) = true → lowD (.tuple L) := fun {L} c => sm_low (k := 3) (by decide) c
    have lw1 : ∀ d ∈ [d1, d2, d3], lowD d := fun d hd => by
      simp only [List.mem_cons, List.not_mem_nil, or_false] at hd
      rcases hd with rfl | rfl | rfl
      · rw [x1]; exact low (by rw [← x1]; exact v.c1)
      · rw [x2]; exact low (by rw [← x2]; exact v.c2)
      · rw [x3]; exact low (by rw [← x3]; exact v.c3)
    have cm := good_comp pa.g
    have lw2 : ∀ d ∈ dd3 ps qs rs, lowD d := fun d hd => by
      have c := cm d hd
      simp only [dd3, List.mem_cons, List.not_mem_nil, or_false] at hd
      rcases hd with rfl | rfl | rfl
      · exact low c
      · exact low c
      · exact low c
    have z1 := low_list lw1
    have z2 := low_list lw2
    refine ⟨_, rfl, _, rfl, .list [d1, d2, d3], .list (dd3 ps qs rs), .lst (SqL.of v2.hF) (ShwAll.dp (SeqAt.canLay_of_shaped z1) (.cons v2.s1 (.cons v2.s2 (.cons v2.s3 .nil)))), .lst (SqL.of p2.hl) (ShwAll.dp (SeqAt.canLay_of_shaped z2) (.cons p2.y1 (.cons (txts_shw p2.y2) (.cons (txts_shw p2.y3) .nil)))), z1, z2, ⟨rfl, _, rfl, ?_⟩⟩
    have ee : PyData.eqv (frD (prsD d1) (strsD d2) (strsD d3)) (frD ps qs rs) = PyData.eqv (.list [d1, d2, d3]) (.list (dd3 ps qs rs)) := by
      unfold frD dd3
      rw [← x1, ← x2, ← x3]
      simp only [PyData.eqv]
    refine iteF' ?_ (q H2 s12)
    rw [Bool.false_xor, ee]
    simp
end
end K01

set_option autoImplicit false
set_option maxRecDepth 100000
set_option maxHeartbeats 4000000
namespace K01
open PySem PySem.Spec PyProof.Rows L2 KX
section
variable {P : Program} {w : World} {K : PySem.W.Frag} {mg : Str → Option Value} {base : Heap} {C f : Addr} {cdv : Value} {A : Around} {outer : List Env} {s0 : Shared} {H0 : Hp} {E : XK} {k : Nat}
def r0 : TS := fun D σ H => ∃ (a : Addr) (x y c : Int), σ = StR a none none none none none none ∧ H a = some (crl x y c) ∧ Cr x y c ∧ c ≤ 600000 ∧
  ∀ (l : Addr) (w1 w2 w3 : V) (ps : List (Str × Str)) (qs rs : List Str) (x' c' : Int) (H' : Hp), PA' H' l w1 w2 w3 ps qs rs → l ≠ a → H' a = some (crl x' y c') → Cr x' y c' → c' ≤ c + 20 → Grw a H H' → D.nx (StR a (some (.ref l)) none none none none none) H'
theorem right0 (R : RG P w K mg base C) (hr : Room k (A.deeper (envOfC "_law_right" (defScope sRight) s0.heap.objs.size f cdv))) (hk : 7 ≤ k) : PS (RX P w K mg base f cdv A outer s0 H0 E).nox (stR 0) r0 := by
  refine ps_imp (ps_set (i := 1) scRight.nd rfl (.inr rfl) (pe_fnc R.parts hr (by omega) (by rfl) pass0 (pa_cons (pv 0) pa_nil))) ?_
  rintro D σ H ⟨a, x, y, c, rfl, ha, C1, hc, q⟩
  exact ⟨.ref a, rfl, a, x, y, c, rfl, ha, C1, by omega, fun l w1 w2 w3 ps qs rs x' c' H' g y1 y2 y3 C' e' ha' gr la hl => q l w1 w2 w3 ps qs rs x' c' H' ⟨hl, y1, y2, y3, g⟩ la ha' C' e' gr⟩
theorem PA'.grow {H H' : Hp} {a l : Addr} {v1 v2 v3 : V} {ps : List (Str × Str)} {qs rs : List Str} {x y c : Int} (p : PA' H l v1 v2 v3 ps qs rs) (la : l ≠ a) (ha : H a = some (crl x y c)) (g : Grw a H H') : PA' H' l v1 v2 v3 ps qs rs := by
  refine ⟨g _ _ la p.hl, Shw.off ha g (by simp only [offD, off_prs]) p.y1, ?_, ?_, p.g⟩
  · exact txts_of (Shw.off ha g (by simp only [offD, off_strs]) (txts_shw p.y2))
  · exact txts_of (Shw.off ha g (by simp only [offD, off_strs]) (txts_shw p.y3))
theorem V3.of {H : Hp} {F : Addr} {us : List V} {dd : List PyData} (h2 : H F = some (.lst us)) (h3 : us.length = 3) (h4 : ShwAll H us dd) (h5 : ∀ d ∈ dd, comp d = true) : ∃ u1 u2 u3 d1 d2 d3, V3 H F u1 u2 u3 d1 d2 d3 := by
  match us, h3 with
  | [u1, u2, u3], _ =>
    match dd, h4 with
    | [d1, d2, d3], .cons s1 (.cons s2 (.cons s3 .nil)) => exact ⟨u1, u2, u3, d1, d2, d3, h2, s1, s2, s3, h5 _ (by simp), h5 _ (by simp), h5 _ (by simp)⟩
theorem Vl.three {Y : Addr → Prop} {H : Hp} {a F : Addr} {us : List V} {dd : List PyData} (v : Vl Y H a F us dd) : ∃ u1 u2 u3 d1 d2 d3, V3 H F u1 u2 u3 d1 d2 d3 := by
  obtain ⟨_, _, h2, h3, h4, h5⟩ := v
  exact V3.of h2 h3 (ShwAll.same h4 hn_sub) h5
theorem PA'.three {H : Hp} {l : Addr} {v1 v2 v3 : V} {ps : List (Str × Str)} {qs rs : List Str} (p : PA' H l v1 v2 v3 ps qs rs) : ∃ u1 u2 u3 d1 d2 d3, V3 H l u1 u2 u3 d1 d2 d3 :=
  V3.of p.hl rfl (.cons p.y1 (.cons (txts_shw p.y2) (.cons (txts_shw p.y3) .nil))) (good_comp p.g)
def Vls (Y : Addr → Prop) (H : Hp) (a : Addr) (xs : List V) : Prop := ∀ x ∈ xs, ∃ F us dd, x = .ref F ∧ Vl Y H a F us dd
theorem Vls.grow {Y : Addr → Prop} {H H' : Hp} {a : Addr} {xs : List V} {x y c : Int} (v : Vls Y H a xs) (ha : H a = some (crl x y c)) (ya : ¬ Y a) (g : ∀ b o, b ≠ a → ¬ Y b → H b = some o → H' b = some o) : Vls Y H' a xs := fun z hz => by
  obtain ⟨F, us, dd, e, h⟩ := v z hz
  exact ⟨F, us, dd, e, h.grow ha ya g⟩
def r1 : TS := fun D σ H => ∃ (a l : Addr) (x y c : Int) (w1 w2 w3 : V) (ps : List (Str × Str)) (qs rs : List Str), σ = StR a (some (.ref l)) none none none none none ∧ H a = some (crl x y c) ∧ Cr x y c ∧ c ≤ 610000 ∧ PA' H l w1 w2 w3 ps qs rs ∧ l ≠ a ∧
  ∀ (x' c' : Int) (H' : Hp) (va te du on tw : Option V), PA' H' l w1 w2 w3 ps qs rs → H' a = some (crl x' y c') → Cr x' y c' → c' ≤ c + 160 → Grw a H H' → D.nx (StR a (some (.ref l)) va te du on tw) H'
theorem right1 (R : RG P w K mg base C) (hG : (A.deeper (envOfC "_law_right" (defScope sRight) s0.heap.objs.size f cdv)).guards = some []) (hr : Room k (A.deeper (envOfC "_law_right" (defScope sRight) s0.heap.objs.size f cdv))) (hk : 7 ≤ k) : PS (RX P w K mg base f cdv A outer s0 H0 E).nox (stR 1) r1 := by
  refine ps_imp (ps_for PassesOwn.never rfl (pi_list (pe_op op_cat (pe_lst (pa_cons (pv 1) pa_nil)) (pe_lc (own := [("_law_turn", 7)]) (g := gName 7) (tt := tYes) rfl scRight.nd (pi_range1 (by rfl) R.B.range (pa_cons pe_int pa_nil)) (blkOk_by (N := nRight) (sc := defScope sRight) (by decide +kernel))
      (fun _ _ _ _ _ => pg_name (i := 7) scRight.nd rfl (Or.inl rfl) (Or.inr rfl)) (fun _ _ _ _ _ => pts_nil) (fun _ _ _ _ _ => pe_fnc R.near hr (by omega) (by rfl) pass0 (pa_cons (pv 0) (pa_cons (pv 1) pa_nil))))))
    (pg_name (i := 2) scRight.nd rfl (Or.inl rfl))
    (pss_cons (body0 R hG hr hk) (pss_cons (body1 R hr hk) (pss_cons (body2 R hG hr hk) (pss_cons (body3 R hG hr hk) (pss_one (body4 R hr hk))))))) ?_
  rintro D σ H ⟨a, l, x, y, c, w1, w2, w3, ps, qs, rs, rfl, ha, C1, hc, pa, la, q⟩
  refine ⟨.ref l, rfl, (by rw [sizeLine_eq]; show 1 ≤ 16777216; decide), fun B nB => ?_⟩
  have s1 := same_upd (p := B) (o := .lst [.ref l]) nB
  have Ba : B ≠ a := (ne_of_none ha nB).symm
  have ha1 := s1 _ _ ha
  have pa1 := pa.same s1
  have hB : (upd H B (.lst [.ref l])) B = some (.lst [.ref l]) := upd_same
  generalize upd H B (.lst [.ref l]) = H1 at s1 ha1 pa1 hB ⊢
  refine ⟨8, rfl, by decide, by decide, fun D0 nD0 => ?_⟩
  have Da : D0 ≠ a := (ne_of_none ha1 nD0).symm
  refine lc_range (fun m H' => ∃ (x' c' : Int) (xs : List V), H' a = some (crl x' y c') ∧ Cr x' y c' ∧ c' ≤ c + 20 * (m : Int) ∧ Grw a H1 H' ∧ H' D0 = some (.lst xs) ∧ xs.length = m ∧ Vls (fun b => b = D0) H' a xs) ?_ (fun m H' hm hP => ?_) (fun H' hP => ?_)
  · have s2 := same_upd (p := D0) (o := .lst []) nD0
    exact ⟨x, c, [], s2 _ _ ha1, C1, by omega, .of s2, upd_same, rfl, fun z hz => nomatch hz⟩
  · obtain ⟨x1, c1, xs, ha2, C2, e2, g2, hD, lx, vs⟩ := hP
    have hm8 : m < 8 := hm
    have pa2 := pa1.grow la ha1 g2
    refine ⟨rfl, .ref a, rfl, .ref l, rfl, (fun b => b = D0), a, l, x1, y, c1, w1, w2, w3, ps, qs, rs, rfl, ha2, C2, by omega, la, pa2.hl, pa2.g, pa2.y1, pa2.y2, pa2.y3, (fun e => Da e.symm), (fun b e => ⟨xs, by rw [e]; exact hD⟩), fun F us dd x' c' H3 ha3 C3 e3 g3 vF => ?_⟩
    have hD3 := g3 _ _ Da hD
    have gD : ∀ b o, b ≠ a → ¬ b = D0 → H3 b = some o → (upd H3 D0 (.lst (xs ++ [.ref F]))) b = some o := fun b o _ n e => by rw [upd_ne n]; exact e
    have ya : ¬ a = D0 := fun e => Da e.symm
    refine ⟨xs, hD3, by rw [sizeLine_eq]; omega, x', c', xs ++ [.ref F], ?_, C3, by omega, fun b o n e => ?_, upd_same, by rw [List.length_append, lx]; rfl, fun z hz => ?_⟩
    · rw [upd_ne Da.symm]
      exact ha3
    · rw [upd_ne (ne_of_none e nD0)]
      exact g3 _ _ n (g2 _ _ n e)
    · rcases List.mem_append.mp hz with h | h
      · exact (vs.grow ha2 ya fun b o n1 _ e => g3 b o n1 e).grow ha3 ya gD z h
      · rw [List.mem_singleton] at h
        exact ⟨F, us, dd, h, vF.grow ha3 ya gD⟩
  · obtain ⟨x1, c1, xs, ha2, C2, e2, g2, hD, lx, vs⟩ := hP
    have l8 : xs.length = 8 := lx
    have e8 : c1 ≤ c + 160 := by
      have : ((((8 : Int).toNat : Nat)) : Int) = 8 := rfl
      rw [this] at e2
      omega
    have pa2 := pa1.grow la ha1 g2
    have hB2 := g2 _ _ Ba hB
    refine ⟨B, D0, _, _, rfl, rfl, hB2, hD, (by rw [l8, sizeLine_eq]; show 1 + 8 ≤ 16777216; decide), fun L nL => ?_⟩
    have s3 := same_upd (p := L) (o := .lst ([.ref l] ++ xs)) nL
    have hL : (upd H' L (.lst ([.ref l] ++ xs))) L = some (.lst ([.ref l] ++ xs)) := upd_same
    have all : ∀ z ∈ ([V.ref l] ++ xs), ∃ F u1 u2 u3 d1 d2 d3, z = .ref F ∧ V3 (upd H' L (.lst ([.ref l] ++ xs))) F u1 u2 u3 d1 d2 d3 := fun z hz => by
      rcases List.mem_append.mp hz with h | h
      · rw [List.mem_singleton] at h
        obtain ⟨u1, u2, u3, d1, d2, d3, v⟩ := pa2.three
        exact ⟨l, u1, u2, u3, d1, d2, d3, h, v.same s3⟩
      · obtain ⟨F, us, dd, e, v⟩ := vs z h
        obtain ⟨u1, u2, u3, d1, d2, d3, v⟩ := v.three
        exact ⟨F, u1, u2, u3, d1, d2, d3, e, v.same s3⟩
    have pa3 := pa2.same s3
    have ha3 := s3 _ _ ha2
    have gA : Grw a H (upd H' L (.lst ([.ref l] ++ xs))) := ((Grw.of s1).trans g2).trans (.of s3)
    generalize upd H' L (.lst ([.ref l] ++ xs)) = H3 at hL all pa3 ha3 gA ⊢
    generalize ([V.ref l] ++ xs) = zs at hL all ⊢
    refine ⟨L, rfl, ⟨_, SqL.of hL⟩, ?_⟩
    refine for_list (K := K) (a := L) (xs := zs) (fun _ σ' H' => (∃ va te du on tw, σ' = StR a (some (.ref l)) va te du on tw) ∧ Same H3 H') ⟨⟨_, _, _, _, _, rfl⟩, Same.refl _⟩ (fun i σ' H' _ hP => SqL.of (hP.2 _ _ hL)) (fun i z σ' H' hi hP => ?_) (fun σ' H' hP => ?_)
    · obtain ⟨⟨va, te, du, on, tw, rfl⟩, s4⟩ := hP
      obtain ⟨F, u1, u2, u3, d1, d2, d3, rfl, v⟩ := all z (List.mem_of_getElem? hi)
      have v4 := v.same s4
      refine ⟨a, F, u1, u2, u3, d1, d2, d3, some (.ref l), te, du, on, tw, rfl, v4, fun H5 s5 => ?_⟩
      have v5 := v4.same s5
      refine ⟨a, F, u1, u2, u3, d1, d2, d3, some (.ref l), _, _, on, tw, rfl, v5, fun H6 x1 x2 s6 o1 o2 => ?_⟩
      have v6 := v5.same s6
      refine ⟨a, F, u1, u2, u3, x1, x2, d1, d2, d3, some (.ref l), rfl, v6, o1, o2, ?_⟩
      refine ⟨a, F, u1, u2, u3, x1, x2, d1, d2, d3, some (.ref l), _, rfl, v6, o1, o2, fun H7 s7 => ?_⟩
      have v7 := v6.same s7
      have s47 := ((s4.trans s5).trans s6).trans s7
      refine ⟨a, F, l, u1, u2, u3, x1, d1, d2, d3, _, _, w1, w2, w3, ps, qs, rs, rfl, v7, o1.same s7, pa3.same s47, fun H8 s8 => ?_⟩
      exact ⟨⟨_, _, _, _, _, rfl⟩, s47.trans s8⟩
    · obtain ⟨⟨va, te, du, on, tw, rfl⟩, s4⟩ := hP
      exact q x1 c1 H' va te du on tw (pa3.same s4) (s4 _ _ ha3) C2 e8 (gA.trans (.of s4))
def r2 : TS := fun D σ H => ∃ (a l : Addr) (va te du on tw : Option V) (w1 w2 w3 : V) (ps : List (Str × Str)) (qs rs : List Str), σ = StR a (some (.ref l)) va te du on tw ∧ PA' H l w1 w2 w3 ps qs rs ∧ ∀ H', Same H H' → D.rt (.bl true) H'
theorem right2 (R : RG P w K mg base C) (hr : Room k (A.deeper (envOfC "_law_right" (defScope sRight) s0.heap.objs.size f cdv))) (hk : 7 ≤ k) : PS (RX P w K mg base f cdv A outer s0 H0 E).nox (stR 2) r2 := by
  refine ps_imp (ps_ret (pe_cmpR (R.eq.ne' R.mr R.ne hr (by omega)) (pe_fnc R.frame hr (by omega) (by rfl) pass0 (pa_cons (pv 1) pa_nil)) (pv 1) (nomark _))) ?_
  rintro D σ H ⟨a, l, va, te, du, on, tw, w1, w2, w3, ps, qs, rs, rfl, pa, q⟩
  refine ⟨.ref l, rfl, ?_⟩
  show tNil _ _ _
  unfold tNil
  refine pa.frame (C := C) (fun r H1 s1 fr1 => ?_)
  obtain ⟨dx, t', d', e', ob, _⟩ := id fr1.ob
  have hl := s1 _ _ pa.hl
  exact ⟨.ref l, rfl, r, dx, _, _, rfl, ob, .lst hl, R.nfL, r, l, w1, w2, w3, _, _, _, rfl, fr1, .inl ⟨_, hl, ⟨_, rfl, q H1 s1⟩⟩⟩
def spRight : Sp := fun vs H Q _ => ∃ (a : Addr) (x y c : Int), vs = [.ref a] ∧ H a = some (crl x y c) ∧ Cr x y c ∧ c ≤ 600000 ∧ ∀ (x' c' : Int) (H' : Hp), H' a = some (crl x' y c') → Cr x' y c' → c' ≤ c + 200 → Grw a H H' → Q (.bl true) H'
theorem ok_right {fd : FuncData} (F : Fun K "_law_right" "_law_right" sRight f fd) (R : RG P w K mg base C) : RunG P w K mg base 8 f fd ["_law_creel_here"] spRight := by
  refine K01.Fun.okG F scRight (fun cdv A outer s H vs Q E hG hr h => ?_)
  refine ⟨_, (pss_cons (right0 R hr (by omega)) (pss_cons (right1 R hG hr (by omega)) (pss_one (right2 R hr (by omega)))) : PSs (RX P w K mg base f cdv A outer s H E).nox (defBody sRight) _), ?_⟩
  obtain ⟨a, x, y, c, rfl, ha, C1, hc, q⟩ := h
  refine ⟨a, x, y, c, rfl, ha, C1, hc, fun l w1 w2 w3 ps qs rs x1 c1 H1 pa la ha1 C2 e1 g1 => ?_⟩
  refine ⟨a, l, x1, y, c1, w1, w2, w3, ps, qs, rs, rfl, ha1, C2, by omega, pa, la, fun x2 c2 H2 va te du on tw pa2 ha2 C3 e2 g2 => ?_⟩
  refine ⟨a, l, va, te, du, on, tw, w1, w2, w3, ps, qs, rs, rfl, pa2, fun H3 s3 => ?_⟩
  exact q x2 c2 H3 (s3 _ _ ha2) C3 (by omega) ((g1.trans g2).trans (.of s3))
end
end K01

set_option autoImplicit false
set_option maxRecDepth 100000
set_option maxHeartbeats 4000000
namespace KX
open PySem PySem.Spec PyProof.Rows L2
/-- enumerate(text): each sign with its number, in new pairs -/
def Ies (x : Str) : It :=
  ⟨fun i _ => i < x.cps.size, fun i H v H' => ∃ T c, v = .ref T ∧ H T = none ∧ H' = upd H T (.tup [.int (i : Nat), .str ⟨#[c]⟩]) ∧ x.cps[i]? = some c, fun i _ => i = x.cps.size⟩
theorem turn_enumS {P : Program} {w : World} {K : PySem.W.Frag} {elts : List Expr} {kk : Nat} {tpos : Pos} (e it : Addr) (x : Str) (t : Tok) (ty : String) (hty : ty = "str_ascii_iterator" ∨ ty = "str_iterator") :
    Turn P w K (.Tuple elts kk tpos) (Ies x) [e, it] e (fun i h => (∃ old, IsEnum h e it ((i : Nat) : Int) old) ∧ h.IsStrIter it ty x t i ∧ e ≠ it) where
  mem := by simp
  obj := fun i h st b hb => by
    obtain ⟨⟨old, he⟩, ⟨o, ho, hc, hd⟩, _⟩ := st
    have e' : b = e ∨ b = it := by simpa using hb
    rcases e' with z | z
    · rw [z]; exact ⟨_, he, fun v q => nomatch q⟩
    · rw [z]; exact ⟨o, ho, fun v q => by rw [hd] at q; cases q⟩
  keep := fun i h h' st k => let ⟨⟨old, he⟩, ⟨o, ho, r⟩, hne⟩ := st; ⟨⟨old, k e (by simp) _ he⟩, ⟨o, k it (by simp) o ho, r⟩, hne⟩
  item := by
    intro X hP hw hK hc i pins s σ H E I hf st hg
    subst hP hw hK
    obtain ⟨⟨old, he⟩, hit, hne⟩ := st
    have hh : X.A.in1.handled = none := I.ok.hd hc
    have D : Draws X.prog X.w X.A.in1 it [it] x.cps.size (fun i v => ∃ c u, x.cps[i]? = some c ∧ v = .str ⟨#[c]⟩ u) (fun i h => h.IsStrIter it ty x t i) := by
      rcases hty with q | q
      · rw [q]; exact Draws.strAscii hh it x t
      · rw [q]; exact Draws.strWide hh it x t
    have hel : e < s.heap.objs.size := Heap.lt_size he
    have hil : it < s.heap.objs.size := by obtain ⟨_, q, _⟩ := hit; exact Heap.lt_size q
    refine wpAny_pyNext_enum_itemD D he hit hg hne (by simpa using hne) fun y h' tk hy ho hit' hT hsz hk => ?_
    obtain ⟨c, u, hcx, rfl⟩ := hy
    refine ⟨_, rfl, wpAny_letOwnedTupleGo_enum (s := { s with heap := h', toks := tk + 1 }) ho fun h'' he' sb => ?_⟩
    have hT2 : h''.get? s.heap.objs.size = some { cls := .type "tuple", data := .seq #[.int i tk, .str ⟨#[c]⟩ u] } := (sb.2 _ (Nat.ne_of_gt hel)).trans hT
    have new : ObjOk X.prog X.w (upd H s.heap.objs.size (.tup [.int (i : Nat), .str ⟨#[c]⟩])) h'' s.heap.objs.size (.tup [.int (i : Nat), .str ⟨#[c]⟩]) :=
      ⟨by show 2 ≤ sizeLine; decide, [.int i tk, .str ⟨#[c]⟩ u], .cons ⟨_, rfl⟩ (.cons ⟨_, rfl⟩ .nil), ⟨_, hT2, rfl, _, rfl⟩⟩
    have I1 : Inv X pins σ (upd H s.heap.objs.size (.tup [.int (i : Nat), .str ⟨#[c]⟩])) { s with heap := h'', toks := tk + 1 } :=
      I.turnedNew (ch := [e, it]) (fun b ob hb q => (sb.2 b (fun z => hb (by simp [z]))).trans (hk b ob (fun z => hb (by simp [z])) (fun z => hb (by simp [z])) q)) hf (Nat.le_refl _) new
    refine ⟨.ref s.heap.objs.size, _, I1, rfl, ⟨_, c, rfl, I.hok.fresh (Nat.le_refl _), rfl, hcx⟩, ⟨⟨.str ⟨#[c]⟩ u, ?_⟩, ?_, hne⟩, fun b hb => ?_⟩
    · have e1 : ((i + 1 : Nat) : Int) = (i : Int) + 1 := by omega
      rw [e1]; exact he'
    · obtain ⟨o, q, r⟩ := hit'
      exact ⟨o, (sb.2 it (Ne.symm hne)).trans q, r⟩
    · have hb' : b < s.heap.objs.size := by
        have e' : b = e ∨ b = it := by simpa using hb
        rcases e' with z | z
        · rw [z]; exact hel
        · rw [z]; exact hil
      rw [upd_ne (Nat.ne_of_lt hb')]
      exact (hf b hb).1
  done := by
    intro X hP hw hK hc i pins s σ H E I hf st hg
    subst hP hw hK
    obtain ⟨⟨old, he⟩, hit, hne⟩ := st
    have hh : X.A.in1.handled = none := I.ok.hd hc
    have D : Draws X.prog X.w X.A.in1 it [it] x.cps.size (fun i v => ∃ c u, x.cps[i]? = some c ∧ v = .str ⟨#[c]⟩ u) (fun i h => h.IsStrIter it ty x t i) := by
      rcases hty with q | q
      · rw [q]; exact Draws.strAscii hh it x t
      · rw [q]; exact Draws.strWide hh it x t
    obtain ⟨f0, f1, f2, f3, f4, f5⟩ := hf it (by simp)
    have hi : i = x.cps.size := hg
    subst hi
    exact wpAny_pyNext_enum_endD D he hit fun h' eb => ⟨rfl, I.turned (t' := s.toks) (fun b o hb q => eb b o hb q) f0 f1 f3 f4 f5⟩
  self := fun A i s Q E st h => let ⟨⟨_, he⟩, _⟩ := st; wpAny_pyIter_enum he h
def iEnumS (ta : TA) : TI := fun σ H R => ta σ H fun vs H1 => ∃ x, vs = [.str x] ∧ R (Ies x) H1
theorem pi_enumS {X : Cx} {e : Expr} {ta : TA} {p pos tpos : Pos} {elts : List Expr} {kk : Nat} (hg : Gl X "enumerate") (hm : X.mg "enumerate" = none) (ha : PA X [e] ta) (hs : starEach [e] X.env = [(false, eval e X.env)] := by rfl) :
    PI X (.Tuple elts kk tpos) (.Call (.Name "enumerate" p) [e] [] pos) (iEnumS ta) := by
  refine ⟨fun pins s σ H R I h => ?_⟩
  refine Call_ (ld_blt I hg hm boot_enumerate (PyProof.Rows.callWith_type1 (thn (ha.run pos pins s σ H _ I h) fun us s1 ⟨vs, H1, I1, r1, q1⟩ => ?_) hs rfl))
  obtain ⟨x, ex, q⟩ := q1
  subst ex
  cases r1 with
  | cons r rr =>
    cases rr
    obtain ⟨t, rfl⟩ := r
    refine call_enumerate_str fun h' he hit hsz hk => wpAny_pyIter_enum he ?_
    have I2 : Inv X pins σ H1 { s1 with heap := h' } := I1.kept (t' := s1.toks) hk
    have hty : strIterType x = "str_ascii_iterator" ∨ strIterType x = "str_iterator" := by
      unfold strIterType
      split
      · exact .inl rfl
      · exact .inr rfl
    refine ⟨s1.heap.objs.size + 1, [s1.heap.objs.size + 1, s1.heap.objs.size], _, _, H1, rfl, I2, turn_enumS (s1.heap.objs.size + 1) s1.heap.objs.size x t _ hty, ⟨⟨.none, he⟩, hit, Nat.succ_ne_self _⟩, fun b hb => ?_, q⟩
    have e' : b = s1.heap.objs.size + 1 ∨ b = s1.heap.objs.size := by simpa using hb
    have hle : s1.heap.objs.size ≤ b := by
      rcases e' with z | z
      · rw [z]; exact Nat.le_add_right _ _
      · rw [z]; exact Nat.le_refl _
    exact I1.fpOk hle (I1.hok.fresh hle)
theorem lc_enumS {x : Str} {g : TG} {tt : TT} {te : TE} {vs : List Nat} {σ : L2.St} {H1 : Hp} {D : Addr} {Qd : Hp → Prop} (Pv : Nat → Hp → Prop) (h0 : Pv 0 (upd H1 D (.lst [])))
    (hs : ∀ i c T H, x.cps.toList[i]? = some c → H T = none → Pv i H → g (.ref T) (wipe σ vs) (upd H T (.tup [.int (i : Nat), .str ⟨#[c]⟩])) fun σ2 H2 => wipe σ2 vs = wipe σ vs ∧ tt σ2 H2 fun b H3 =>
      if b = true then te σ2 H3 fun y H4 => ∃ acc, H4 D = some (.lst acc) ∧ acc.length < sizeLine ∧ Pv (i + 1) (upd H4 D (.lst (acc ++ [y]))) else Pv (i + 1) H3) (hd : ∀ H, Pv x.cps.toList.length H → Qd H) :
    ∃ W : Nat → Nat → Hp → Prop, (∃ m, W 0 m (upd H1 D (.lst []))) ∧ ∀ i m H, W i m H →
      ((Ies x).stop i H ∧ Qd H) ∨ ((Ies x).go i H ∧ ∃ Nx : Hp → Prop, (∀ H', Nx H' → ∃ m', m' < m ∧ W (i + 1) m' H') ∧ ∀ y H', (Ies x).yld i H y H' → g y (wipe σ vs) H' fun σ2 H2 => wipe σ2 vs = wipe σ vs ∧ tt σ2 H2 fun b H3 =>
        if b = true then te σ2 H3 fun y H4 => ∃ acc, H4 D = some (.lst acc) ∧ acc.length < sizeLine ∧ Nx (upd H4 D (.lst (acc ++ [y]))) else Nx H3) := by
  refine ⟨fun i m H => m = x.cps.size - i ∧ i ≤ x.cps.size ∧ Pv i H, ⟨x.cps.size, by simp, Nat.zero_le _, h0⟩, ?_⟩
  rintro i m H ⟨rfl, hi, p⟩
  by_cases hlt : i < x.cps.size
  · refine .inr ⟨hlt, Pv (i + 1), fun H' p' => ⟨x.cps.size - (i + 1), by omega, rfl, hlt, p'⟩, fun y H' hy => ?_⟩
    obtain ⟨T, c, rfl, nT, rfl, hc⟩ := hy
    exact hs i c T _ (by simpa using hc) nT p
  · have e : i = x.cps.size := by omega
    subst e
    exact .inl ⟨rfl, hd H (by simpa using p)⟩
end KX

set_option autoImplicit false
set_option maxRecDepth 100000
set_option maxHeartbeats 4000000
namespace KX
open PySem PySem.Spec PyProof.Rows L2
/-- tuple(text): its signs -/
theorem call_tupleS {X : Cx} (hc : X.calm = true) : CallR X (.type "tuple") (fun xs H Q => ∃ z : Str, xs = [.str z] ∧ z.length ≤ 1000000 ∧ ∀ l, H l = none → Q (.ref l) (upd H l (.tup (z.cps.toList.map fun c => V.str ⟨#[c]⟩)))) := by
  intro pins s σ H xs us Q I r h
  obtain ⟨z, rfl, hz, q⟩ := h
  obtain ⟨u, rfl, rx⟩ := vals1 r
  obtain ⟨t, rfl⟩ := rx
  have hz2 : z.cps.size ≤ sizeLine := by
    rw [sizeLine_eq]
    have : z.length = z.cps.size := rfl
    omega
  refine call_tuple_str (I.ok.hd hc) z t (fun h' tk acc hk hacc => ?_) hz2
  have ln : z.cps.toList.length = acc.toList.length := by
    rw [Array.length_toList, Array.length_toList]
    exact hacc.1.symm
  have rv : Vals (z.cps.toList.map fun c => V.str ⟨#[c]⟩) acc.toList := by
    refine vals_of_at (by rw [List.length_map]; exact ln) fun j x u hx hu => ?_
    obtain ⟨c, w', hcj, rfl⟩ := hacc.2 j u (by simpa using hu)
    rw [List.getElem?_map] at hx
    have e : z.cps.toList[j]? = some c := by simpa using hcj
    rw [e] at hx
    cases hx
    exact ⟨w', rfl⟩
  have I1 : Inv X pins σ H { s with heap := h', toks := tk } := I.kept (t' := tk) hk
  have I2 : Inv X pins σ (upd H h'.objs.size (.tup (z.cps.toList.map fun c => V.str ⟨#[c]⟩))) { s with heap := h'.push { cls := .type "tuple", data := .seq acc }, toks := tk } :=
    I1.laid (t' := tk) (fun b o e => Heap.get?_push_of_some _ e) (Nat.le_refl _) (show ObjOk X.prog X.w _ _ _ (.tup _) from ⟨by rw [List.length_map, Array.length_toList]; exact hz2, acc.toList, rv, by
      have := IsTup.new h' acc
      simpa using this⟩)
  exact ⟨.ref h'.objs.size, _, I2, rfl, q _ (I1.hok.fresh (Nat.le_refl _))⟩
end KX

set_option autoImplicit false
set_option maxRecDepth 100000
set_option maxHeartbeats 4000000
namespace K01
open PySem PySem.Spec PyProof.Rows L2 KX
abbrev sLaw : Stmt := topS 35
abbrev NL : List Str := ["_law_script", "_law_at", "_law_arrays", "_law_told", "_law_name", "_law_one"]
theorem scLaw : FnScope NL ["_law_script"] (defScope sLaw) := ⟨rfl, rfl, rfl, by decide +kernel, rfl, by decide +kernel, by decide +kernel⟩
def stL (i : Nat) : Stmt := (defBody sLaw).getD i (.Pass ⟨0, 0, 0, 0⟩)
/-- what the law calls -/
structure LG (P : Program) (w : World) (K : PySem.W.Frag) (mg : Str → Option Value) (base : Heap) (C : Addr) : Prop where
  T : FrTxt K mg C
  B : Free mg
  mMax : mg "max" = none
  mMin : mg "min" = none
  mEnum : mg "enumerate" = none
  creel : Fnc P w K mg base CX0 1 "_law_creel" ["_law_script", "_law_at"] (spCreel K)
  right : FncG P w K mg base 8 "_law_right" ["_law_creel_here"] spRight
  met : Fnc P w K mg base CX0 7 "_law_met" ["_law_parts_here"] (spMet C)
  len : OM P w K mg base CX0 1 C "__len__" ["self"] (spLen C)
abbrev LX (P : Program) (w : World) (K : PySem.W.Frag) (mg : Str → Option Value) (base : Heap) (f : Addr) (cdv : Value) (A : Around) (outer : List Env) (s0 : Shared) (H0 : Hp) (E : XK) : Cx := cxOf CX0 P w K mg base NL "law" (defScope sLaw) f cdv A outer s0 H0 E
section
variable {P : Program} {w : World} {K : PySem.W.Frag} {mg : Str → Option Value} {base : Heap} {C f : Addr} {cdv : Value} {A : Around} {outer : List Env} {s0 : Shared} {H0 : Hp} {E : XK} {k : Nat}
def ScP (K : PySem.W.Frag) (a : Addr) (xs : List V) (p : Addr) (H : Hp) : Prop := SqL K (fun _ => none) a xs ∨ (a ≠ p ∧ Rd H a (.lst xs))
theorem sc_new {K : PySem.W.Frag} {a p : Addr} {xs : List V} {H : Hp} {o : HO} (s : SqL K H a xs) (n : H p = none) : ScP K a xs p (upd H p o) := by
  rcases s with h | h
  · by_cases e : a = p
    · subst e
      rcases h with h | ⟨x, h⟩ <;> (rw [n] at h; cases h)
    · refine .inr ⟨e, ?_⟩
      rcases h with h | ⟨x, h⟩
      · exact .inl (by rw [upd_ne e]; exact h)
      · exact .inr ⟨x, by rw [upd_ne e]; exact h⟩
  · exact .inl (.inr h)
theorem sc_sql {K : PySem.W.Frag} {a p : Addr} {xs : List V} {H : Hp} (s : ScP K a xs p H) : SqL K H a xs := by
  rcases s with h | ⟨_, h⟩
  · rcases h with h | h
    · rcases h with h | ⟨x, h⟩ <;> cases h
    · exact .inr h
  · exact .inl h
theorem sc_keep {K : PySem.W.Frag} {a p : Addr} {xs : List V} {H H' : Hp} (s : ScP K a xs p H) (g : Grw p H H') : ScP K a xs p H' := by
  rcases s with h | ⟨n, h⟩
  · exact .inl h
  · refine .inr ⟨n, ?_⟩
    rcases h with h | ⟨x, h⟩
    · exact .inl (g _ _ n h)
    · exact .inr ⟨x, g _ _ n h⟩
def l0 (K : PySem.W.Frag) : TS := fun D σ H => ∃ (a : Addr) (ns : List Int), σ = [some (.ref a), none, none, none, none, none] ∧ SqL K H a (ns.map V.int) ∧ ns.length ≤ 63 ∧ ∀ (H' : Hp) (r1 : Option V), D.nx [some (.ref a), r1, none, none, none, none] H'
theorem law0 (R : LG P w K mg base C) (hG : (A.deeper (envOfC "law" (defScope sLaw) s0.heap.objs.size f cdv)).guards = some []) (hr : Room k (A.deeper (envOfC "law" (defScope sLaw) s0.heap.objs.size f cdv))) (hk : 8 ≤ k) : PS (LX P w K mg base f cdv A outer s0 H0 E).nox (stL 0) (l0 K) := by
  refine ps_imp (ps_for PassesOwn.never rfl (pi_range1 (by rfl) R.B.range (pa_cons (pe_callB (call_max2 rfl) (by rfl) R.mMax (by decide +kernel) (pa_cons pe_int (pa_cons (pe_callB (call_min2 rfl) (by rfl) R.mMin (by decide +kernel) (pa_cons pe_int (pa_cons (pe_callB call_len_seq (by rfl) R.B.len PySem.boot_len (pa_cons (pv 0) pa_nil)) pa_nil))) pa_nil))) pa_nil))
        (pg_name (i := 1) scLaw.nd rfl (Or.inl rfl))
        (pss_one (ps_if (pt_not (pt_val (pe_fncG R.right hG hr (by omega) (by rfl) (pa_cons (pe_fnc R.creel hr (by omega) (by rfl) pass0 (pa_cons (pv 0) (pa_cons (pv 1) pa_nil))) pa_nil)))) (pss_one (ps_ret pe_bl)) pss_nil))) ?_
  rintro D σ H ⟨a, ns, rfl, hS, h63, q⟩
  have n1 : ∀ m : Nat, (if (if (m : Int) < 4 then (m : Int) else 4) > 1 then (if (m : Int) < 4 then (m : Int) else 4) else 1) ≤ 4 ∧ 0 ≤ (if (if (m : Int) < 4 then (m : Int) else 4) > 1 then (if (m : Int) < 4 then (m : Int) else 4) else 1) := fun m => by
    split <;> split <;> omega
  obtain ⟨j1, j0⟩ := n1 (ns.map V.int).length
  refine ⟨.ref a, rfl, a, ns.map V.int, rfl, .inl hS, 4, _, rfl, 1, _, rfl, _, rfl, by omega, by omega, ?_⟩
  generalize (if (if (((ns.map V.int).length : Nat) : Int) < 4 then (((ns.map V.int).length : Nat) : Int) else 4) > 1 then (if (((ns.map V.int).length : Nat) : Int) < 4 then (((ns.map V.int).length : Nat) : Int) else 4) else 1) = j at j0 j1 ⊢
  refine for_range (fun _ σ' H' => (∃ r1, σ' = [some (.ref a), r1, none, none, none, none]) ∧ SqL K H' a (ns.map V.int)) ⟨⟨none, rfl⟩, hS⟩ (fun i σ' H1 hi hP => ?_) (fun σ' H1 hP => ?_)
  · obtain ⟨⟨r1, rfl⟩, S1⟩ := hP
    refine ⟨.ref a, rfl, _, rfl, a, ns, 0 + (i : Int), rfl, S1, h63, by omega, by omega, fun p x y C np => ?_⟩
    refine ⟨rfl, p, x, y, 0, rfl, upd_same, C, by omega, fun x' c' H' ha' C' e' g' => ⟨_, rfl, ?_⟩⟩
    exact iteF' rfl ⟨⟨_, rfl⟩, sc_sql (sc_keep (sc_new S1 np) g')⟩
  · obtain ⟨⟨r1, rfl⟩, S1⟩ := hP
    exact q H1 r1
end
end K01

set_option autoImplicit false
set_option maxRecDepth 100000
set_option maxHeartbeats 4000000
namespace K01
open PySem PySem.Spec PyProof.Rows L2 KX
section
variable {P : Program} {w : World} {K : PySem.W.Frag} {mg : Str → Option Value} {base : Heap} {C f : Addr} {cdv : Value} {A : Around} {outer : List Env} {s0 : Shared} {H0 : Hp} {E : XK} {k : Nat}
def psL : List (Str × Str) := [("a", "n"), ("b", "m"), ("c", "n"), ("d", "m"), ("e", "n"), ("f", "m"), ("g", "n"), ("h", "m"), ("i", "n"), ("j", "m"), ("k", "n"), ("l", "m")]
def qsL : List Str := ["o", "p", "q", "r", "s", "t"]
def rsL : List Str := ["u", "v", "w", "x", "y", "z"]
theorem signs_at {z : Str} {zs : List Str} (h : (z.cps.toList.map fun c => (⟨#[c]⟩ : Str)) = zs) : (z.cps.toList.map fun c => V.str ⟨#[c]⟩) = zs.map V.str := by
  rw [← h, List.map_map]
  rfl
theorem psL_at : ∀ i < 12, ∃ p, psL[i]? = some p ∧ (("abcdefghijkl" : Str).cps.toList[i]?).map (fun c => (⟨#[c]⟩ : Str)) = some p.1 ∧ ((("nm" : Str).cps.toList)[i % 2]?).map (fun c => (⟨#[c]⟩ : Str)) = some p.2 := by
  have h : ((List.range 12).all fun i => match psL[i]? with
    | some p => decide ((("abcdefghijkl" : Str).cps.toList[i]?).map (fun c => (⟨#[c]⟩ : Str)) = some p.1) && decide (((("nm" : Str).cps.toList)[i % 2]?).map (fun c => (⟨#[c]⟩ : Str)) = some p.2)
    | none => false) = true := by decide +kernel
  intro i hi
  have := List.all_eq_true.mp h i (List.mem_range.mpr hi)
  cases e : psL[i]? with
  | none => rw [e] at this; cases this
  | some p =>
    rw [e] at this
    simp only [Bool.and_eq_true, decide_eq_true_eq] at this
    exact ⟨p, rfl, this.1, this.2⟩
def l1 : TS := fun D σ H => ∃ (a : Addr) (r1 : Option V), σ = [some (.ref a), r1, none, none, none, none] ∧ ∀ (H' : Hp) (v : V), Same H H' → Arr H' v psL → D.nx [some (.ref a), r1, some v, none, none, none] H'
theorem law1 (R : LG P w K mg base C) (hr : Room k (A.deeper (envOfC "law" (defScope sLaw) s0.heap.objs.size f cdv))) (hk : 8 ≤ k) : PS (LX P w K mg base f cdv A outer s0 H0 E).nox (stL 1) l1 := by
  refine ps_imp (ps_set (i := 2) scLaw.nd rfl (.inl rfl) (pe_callTy call_tuple_of (by rfl) R.B.tuple (by decide +kernel) (pa_cons (pe_lc (own := [("_law_at", 1), ("_law_name", 4)]) (g := gTup K 2 (gCons (gName 1) (gCons (gName 4) gNil))) (tt := tYes) rfl scLaw.nd (pi_enumS (by rfl) R.mEnum (pa_cons pe_str pa_nil)) (blkOk_by (N := NL) (sc := defScope sLaw) (by decide +kernel))
        (fun _ _ _ _ _ => pg_tup rfl (pgs_cons (pg_name (i := 1) scLaw.nd rfl (Or.inl rfl) (Or.inr rfl)) (pgs_cons (pg_name (i := 4) scLaw.nd rfl (Or.inl rfl) (Or.inr rfl)) pgs_nil))) (fun _ _ _ _ _ => pts_nil)
        (fun _ _ _ _ _ => pe_tup (pa_cons (pv 4) (pa_cons (pe_ix ix_str pe_str (pe_op op_mod (pe_callTy call_int1 (by rfl) R.B.int (by decide +kernel) (pa_cons (pv 1) pa_nil)) pe_int) (fun _ _ => rfl)) pa_nil)))) pa_nil))) ?_
  rintro D σ H ⟨a, r1, rfl, q⟩
  refine ⟨_, rfl, fun D0 nD0 => ?_⟩
  have e12 : ("abcdefghijkl" : Str).cps.toList.length = 12 := by decide +kernel
  refine lc_enumS (fun m H' => Same H H' ∧ ∃ ys, H' D0 = some (.lst ys) ∧ ShwAll H' ys ((psL.take m).map prD)) ⟨same_upd nD0, [], upd_same, .nil⟩ (fun i c T H' hc nT hP => ?_) (fun H' hP => ?_)
  · obtain ⟨s1, ys, d1, sy⟩ := hP
    have hi : i < 12 := by
      rw [← e12]
      exact (List.getElem?_eq_some_iff.mp hc).1
    obtain ⟨p, hp, hp1, hp2⟩ := psL_at i hi
    rw [hc] at hp1
    have ep1 : (⟨#[c]⟩ : Str) = p.1 := Option.some.inj hp1
    have sT := same_upd (p := T) (o := .tup [.int (i : Nat), .str ⟨#[c]⟩]) nT
    refine ⟨T, _, rfl, SqT.of upd_same, rfl, _, _, rfl, _, _, rfl, rfl, rfl, ?_⟩
    obtain ⟨c2, hc2⟩ : ∃ c2, (("nm" : Str).cps.toList)[i % 2]? = some c2 := by
      cases e : (("nm" : Str).cps.toList)[i % 2]? with
      | none => rw [e] at hp2; cases hp2
      | some c2 => exact ⟨c2, rfl⟩
    rw [hc2] at hp2
    have ep2 : (⟨#[c2]⟩ : Str) = p.2 := Option.some.inj hp2
    have em : ((i : Nat) : Int) % 2 = ((i % 2 : Nat) : Int) := by omega
    have lnm : ("nm" : Str).length = 2 := by decide +kernel
    refine ⟨.str ⟨#[c]⟩, rfl, .int (i : Nat), rfl, .inl ⟨_, rfl, _, _, rfl, rfl, (show (0 : Int) < 2 from by decide), ?_⟩⟩
    refine ⟨"nm", _, c2, rfl, rfl, (by rw [lnm, sizeLine_eq]; decide), (by rw [em]; exact atI_nat hc2), (by rw [sizeLine_eq]; show 2 ≤ 16777216; decide), fun t nt => ?_⟩
    have st := same_upd (p := t) (o := .tup [.str ⟨#[c]⟩, .str ⟨#[c2]⟩]) nt
    have d3 := st _ _ (sT _ _ d1)
    have ly := ShwAll.len sy
    rw [List.length_map, List.length_take] at ly
    refine ⟨ys, d3, (by rw [sizeLine_eq]; omega), fun b o e => ?_, _, upd_same, ?_⟩
    · rw [upd_ne (ne_of_none e nD0)]
      exact st _ _ (sT _ _ (s1 _ _ e))
    · rw [List.take_add_one, hp, List.map_append]
      refine ShwAll.snoc (ShwAll.keepT (fun b zs e => ?_) _ sy) ?_
      · have e3 := st _ _ (sT _ _ e)
        rw [upd_ne (fun k => by rw [k, d3] at e3; cases e3)]
        exact e3
      · rw [ep1, ep2]
        have tD : t ≠ D0 := (ne_of_none (sT _ _ d1) nt).symm
        exact .tup (by rw [upd_ne tD, upd_same]) (.cons (.str _) (.cons (.str _) .nil))
  · obtain ⟨s1, ys, d1, sy⟩ := hP
    rw [e12] at sy
    refine ⟨D0, ys, rfl, .inl ⟨SqL.of d1, fun T nT => ?_⟩⟩
    have sT := same_upd (p := T) (o := .tup ys) nT
    exact q _ (.ref T) (s1.trans sT) (.tup upd_same (ShwAll.same sy sT))
/-- what _law_met answers, in four cases -/
theorem met_of {H : Hp} {L : Addr} {v1 v2 v3 : V} {d1 d2 d3 : PyData} {Q : VK} (hL : H L = some (.lst [v1, v2, v3])) (s1 : Shw H v1 d1) (s2 : Shw H v2 d2) (s3 : Shw H v3 d3) (g1 : gd d1 = true) (g2 : gd d2 = true) (g3 : gd d3 = true)
    (q : ∀ (v : V) (H' : Hp), Same H H' → On C H' v v1 v2 v3 d1 d2 d3 → Q v H') : spMet C [.ref L] H Q E0 :=
  ⟨L, v1, v2, v3, d1, d2, d3, rfl, hL, s1, s2, s3, g1, g2, g3, fun h H' s' => q .non H' s' (.inl ⟨h, rfl⟩), fun h p H' s' fr => q (.ref p) H' s' (.inr ⟨h, p, rfl, fr⟩)⟩
def l2 (C : Addr) : TS := fun D σ H => ∃ (a : Addr) (r1 : Option V) (v : V), σ = [some (.ref a), r1, some v, none, none, none] ∧ Arr H v psL ∧
  ∀ (H' : Hp) (L : Addr) (x y u2 u3 : V) (y1 y2 y3 : V), Same H H' → H' L = some (.lst [x, y]) → On C H' x v u2 u3 (.tuple (psL.map prD)) (.tuple (qsL.map PyData.str)) (.tuple (rsL.map PyData.str)) → On C H' y y1 y2 y3 (.tuple [.tuple [.str "a", .str "a"]]) (.tuple []) (.tuple []) → D.nx [some (.ref a), r1, some v, some (.ref L), none, none] H'
theorem sOf (z : Str) (zs : List Str) (h : (z.cps.toList.map fun c => (⟨#[c]⟩ : Str)) = zs) {H : Hp} {l : Addr} (e : H l = some (.tup (z.cps.toList.map fun c => V.str ⟨#[c]⟩))) : Shw H (.ref l) (.tuple (zs.map PyData.str)) := by
  rw [signs_at h] at e
  exact .tup e (strs_shw zs)
theorem law2 (R : LG P w K mg base C) (hr : Room k (A.deeper (envOfC "law" (defScope sLaw) s0.heap.objs.size f cdv))) (hk : 8 ≤ k) : PS (LX P w K mg base f cdv A outer s0 H0 E).nox (stL 2) (l2 C) := by
  refine ps_imp (ps_set (i := 3) scLaw.nd rfl (.inl rfl) (pe_lst (pa_cons (pe_fnc R.met hr (by omega) (by rfl) pass0 (pa_cons (pe_lst (pa_cons (pv 2) (pa_cons (pe_callTy (call_tupleS rfl) (by rfl) R.B.tuple (by decide +kernel) (pa_cons pe_str pa_nil)) (pa_cons (pe_callTy (call_tupleS rfl) (by rfl) R.B.tuple (by decide +kernel) (pa_cons pe_str pa_nil)) pa_nil)))) pa_nil))
      (pa_cons (pe_fnc R.met hr (by omega) (by rfl) pass0 (pa_cons (pe_lst (pa_cons (pe_tup (pa_cons (pe_tup (pa_cons pe_str (pa_cons pe_str pa_nil))) pa_nil)) (pa_cons (pe_tup pa_nil) (pa_cons (pe_tup pa_nil) pa_nil)))) pa_nil)) pa_nil)))) ?_
  rintro D σ H ⟨a, r1, v, rfl, hv, q⟩
  refine ⟨v, rfl, "opqrst", rfl, by decide +kernel, fun t1 n1 => ⟨"uvwxyz", rfl, by decide +kernel, fun t2 n2 => ⟨(by rw [sizeLine_eq]; show 3 ≤ 16777216; decide), fun B nB => ?_⟩⟩⟩
  have s1 := same_upd (p := t1) (o := .tup (("opqrst" : Str).cps.toList.map fun c => V.str ⟨#[c]⟩)) n1
  have s2 := same_upd (p := t2) (o := .tup (("uvwxyz" : Str).cps.toList.map fun c => V.str ⟨#[c]⟩)) n2
  have s3 := same_upd (p := B) (o := .lst [v, .ref t1, .ref t2]) nB
  have s13 := s1.trans (s2.trans s3)
  show tNil _ _ _
  unfold tNil
  refine met_of (C := C) (d1 := .tuple (psL.map prD)) (d2 := .tuple (qsL.map PyData.str)) (d3 := .tuple (rsL.map PyData.str)) upd_same (Shw.same hv s13) (sOf "opqrst" qsL (by decide +kernel) ((s2.trans s3) _ _ upd_same)) (sOf "uvwxyz" rsL (by decide +kernel) (s3 _ _ upd_same)) (by decide +kernel) (by decide +kernel) (by decide +kernel) (fun x H1 w1 o1 => ?_)
  refine ⟨(by rw [sizeLine_eq]; show 2 ≤ 16777216; decide), fun t3 n3 => ⟨(by rw [sizeLine_eq]; show 1 ≤ 16777216; decide), fun t4 n4 => ⟨(by rw [sizeLine_eq]; decide), fun t5 n5 => ⟨(by rw [sizeLine_eq]; decide), fun t6 n6 => ⟨(by rw [sizeLine_eq]; show 3 ≤ 16777216; decide), fun B2 nB2 => ?_⟩⟩⟩⟩⟩
  have e3 := same_upd (p := t3) (o := .tup [.str "a", .str "a"]) n3
  have e4 := same_upd (p := t4) (o := .tup [.ref t3]) n4
  have e5 := same_upd (p := t5) (o := .tup []) n5
  have e6 := same_upd (p := t6) (o := .tup []) n6
  have e7 := same_upd (p := B2) (o := .lst [.ref t4, .ref t5, .ref t6]) nB2
  have e67 := e6.trans e7
  have e57 := e5.trans e67
  have e47 := e4.trans e57
  have e37 := e3.trans e47
  show spMet C [V.ref B2] _ _ E0
  refine met_of (C := C) (d1 := .tuple [.tuple [.str "a", .str "a"]]) (d2 := .tuple []) (d3 := .tuple []) upd_same (.tup (e57 _ _ upd_same) (.cons (.tup (e47 _ _ upd_same) (.cons (.str _) (.cons (.str _) .nil))) .nil)) (.tup (e67 _ _ upd_same) .nil) (.tup (e7 _ _ upd_same) .nil) (by decide +kernel) (by decide +kernel) (by decide +kernel) (fun y H2 w2 o2 => ?_)
  refine ⟨(by rw [sizeLine_eq]; show 2 ≤ 16777216; decide), fun L nL => ?_⟩
  have s8 := same_upd (p := L) (o := .lst [x, y]) nL
  have wA := (e37.trans w2).trans s8
  exact q _ L x y _ _ _ _ _ ((s13.trans w1).trans wA) upd_same (o1.same wA) (o2.same s8)
end
end K01

set_option autoImplicit false
set_option maxRecDepth 100000
set_option maxHeartbeats 4000000
namespace K01
open PySem PySem.Spec PyProof.Rows L2 KX
section
variable {P : Program} {w : World} {K : PySem.W.Frag} {mg : Str → Option Value} {base : Heap} {C f : Addr} {cdv : Value} {A : Around} {outer : List Env} {s0 : Shared} {H0 : Hp} {E : XK} {k : Nat}
theorem fr1 : isFrame (.tuple (psL.map prD)) (.tuple (qsL.map PyData.str)) (.tuple (rsL.map PyData.str)) = true := by decide +kernel
theorem fr2 : isFrame (.tuple [.tuple [.str "a", .str "a"]]) (.tuple []) (.tuple []) = false := by decide +kernel
theorem fr3 : isFrame (.tuple []) (.tuple [.str "i", .str "j"]) (.tuple [.str "i"]) = false := by decide +kernel
theorem fr4 : isFrame (.tuple []) (.tuple []) (.tuple []) = true := by decide +kernel
theorem On.no {H : Hp} {v u1 u2 u3 : V} {d1 d2 d3 : PyData} (o : On C H v u1 u2 u3 d1 d2 d3) (h : isFrame d1 d2 d3 = false) : v = .non := by
  rcases o with ⟨_, e⟩ | ⟨h2, _⟩
  · exact e
  · rw [h] at h2; cases h2
theorem On.yes {H : Hp} {v u1 u2 u3 : V} {d1 d2 d3 : PyData} (o : On C H v u1 u2 u3 d1 d2 d3) (h : isFrame d1 d2 d3 = true) : ∃ p, v = .ref p ∧ FrameAt C H p u1 u2 u3 (prsD d1) (strsD d2) (strsD d3) := by
  rcases o with ⟨h2, _⟩ | ⟨_, h3⟩
  · rw [h] at h2; cases h2
  · exact h3
def l3 (C : Addr) : TS := fun D σ H => ∃ (a L p : Addr) (r1 r2 : Option V) (v u2 u3 : V), σ = [some (.ref a), r1, r2, some (.ref L), none, none] ∧ H L = some (.lst [.ref p, .non]) ∧ FrameAt C H p v u2 u3 psL qsL rsL ∧
  ∀ (H' : Hp) (L' q : Addr), Same H H' → H' L' = some (.lst [.ref p, .non, .non, .ref q]) → D.nx [some (.ref a), r1, r2, some (.ref L'), none, none] H'
theorem law3 (R : LG P w K mg base C) (hr : Room k (A.deeper (envOfC "law" (defScope sLaw) s0.heap.objs.size f cdv))) (hk : 8 ≤ k) : PS (LX P w K mg base f cdv A outer s0 H0 E).nox (stL 3) (l3 C) := by
  refine ps_imp (ps_set (i := 3) scLaw.nd rfl (.inl rfl) (pe_op op_cat (pv 3) (pe_lst (pa_cons (pe_fnc R.met hr (by omega) (by rfl) pass0 (pa_cons (pe_lst (pa_cons (pe_tup pa_nil) (pa_cons (pe_tup (pa_cons pe_str (pa_cons pe_str pa_nil))) (pa_cons (pe_tup (pa_cons pe_str pa_nil)) pa_nil)))) pa_nil))
      (pa_cons (pe_fnc R.met hr (by omega) (by rfl) pass0 (pa_cons (pe_lst (pa_cons (pe_tup pa_nil) (pa_cons (pe_tup pa_nil) (pa_cons (pe_tup pa_nil) pa_nil)))) pa_nil)) pa_nil))))) ?_
  rintro D σ H ⟨a, L, p, r1, r2, v, u2, u3, rfl, hL, fr, q⟩
  refine ⟨.ref L, rfl, (by rw [sizeLine_eq]; decide), fun t1 n1 => ⟨(by rw [sizeLine_eq]; show 2 ≤ 16777216; decide), fun t2 n2 => ⟨(by rw [sizeLine_eq]; show 1 ≤ 16777216; decide), fun t3 n3 => ⟨(by rw [sizeLine_eq]; show 3 ≤ 16777216; decide), fun B nB => ?_⟩⟩⟩⟩
  have e1 := same_upd (p := t1) (o := .tup []) n1
  have e2 := same_upd (p := t2) (o := .tup [.str "i", .str "j"]) n2
  have e3 := same_upd (p := t3) (o := .tup [.str "i"]) n3
  have e4 := same_upd (p := B) (o := .lst [.ref t1, .ref t2, .ref t3]) nB
  have e34 := e3.trans e4
  have e24 := e2.trans e34
  have e14 := e1.trans e24
  show tNil _ _ _
  unfold tNil
  refine met_of (C := C) (d1 := .tuple []) (d2 := .tuple [.str "i", .str "j"]) (d3 := .tuple [.str "i"]) upd_same (.tup (e24 _ _ upd_same) .nil) (.tup (e34 _ _ upd_same) (.cons (.str _) (.cons (.str _) .nil))) (.tup (e4 _ _ upd_same) (.cons (.str _) .nil)) (by decide +kernel) (by decide +kernel) (by decide +kernel) (fun x H1 w1 o1 => ?_)
  obtain rfl := o1.no fr3
  refine ⟨(by rw [sizeLine_eq]; decide), fun t4 n4 => ⟨(by rw [sizeLine_eq]; decide), fun t5 n5 => ⟨(by rw [sizeLine_eq]; decide), fun t6 n6 => ⟨(by rw [sizeLine_eq]; show 3 ≤ 16777216; decide), fun B2 nB2 => ?_⟩⟩⟩⟩
  have f1 := same_upd (p := t4) (o := .tup []) n4
  have f2 := same_upd (p := t5) (o := .tup []) n5
  have f3 := same_upd (p := t6) (o := .tup []) n6
  have f4 := same_upd (p := B2) (o := .lst [.ref t4, .ref t5, .ref t6]) nB2
  have f34 := f3.trans f4
  have f24 := f2.trans f34
  have f14 := f1.trans f24
  show spMet C [V.ref B2] _ _ E0
  refine met_of (C := C) (d1 := .tuple []) (d2 := .tuple []) (d3 := .tuple []) upd_same (.tup (f24 _ _ upd_same) .nil) (.tup (f34 _ _ upd_same) .nil) (.tup (f4 _ _ upd_same) .nil) (by decide +kernel) (by decide +kernel) (by decide +kernel) (fun y H2 w2 o2 => ?_)
  obtain ⟨p2, rfl, _⟩ := o2.yes fr4
  refine ⟨(by rw [sizeLine_eq]; show 2 ≤ 16777216; decide), fun M nM => ?_⟩
  have g1 := same_upd (p := M) (o := .lst [.non, .ref p2]) nM
  have wA := (((e14.trans w1).trans f14).trans w2).trans g1
  refine ⟨L, M, _, _, rfl, rfl, wA _ _ hL, upd_same, (by rw [sizeLine_eq]; show 4 ≤ 16777216; decide), fun L' nL' => ?_⟩
  exact q _ L' p2 (wA.trans (same_upd nL')) upd_same
def l4 (C : Addr) : TS := fun D σ H => ∃ (a L p q : Addr) (r1 r2 : Option V) (v u2 u3 : V), σ = [some (.ref a), r1, r2, some (.ref L), none, none] ∧ H L = some (.lst [.ref p, .non, .non, .ref q]) ∧ FrameAt C H p v u2 u3 psL qsL rsL ∧ ∀ H', D.rt (.bl true) H'
theorem law4 (R : LG P w K mg base C) (hr : Room k (A.deeper (envOfC "law" (defScope sLaw) s0.heap.objs.size f cdv))) (hk : 8 ≤ k) : PS (LX P w K mg base f cdv A outer s0 H0 E).nox (stL 4) (l4 C) := by
  refine ps_imp (ps_ret (pe_and (pe_cmpR (op_eqD hr.units) (pe_lc (own := [("_law_one", 5)]) (g := gName 5) (tt := tYes) rfl scLaw.nd (pi_list (pv 3)) (blkOk_by (N := NL) (sc := defScope sLaw) (by decide +kernel))
        (fun _ _ _ _ _ => pg_name (i := 5) scLaw.nd rfl (Or.inl rfl) (Or.inr rfl)) (fun _ _ _ _ _ => pts_nil) (fun _ _ _ _ _ => pe_cmpR op_isN1 (pv 5) pe_non (nomark _)))
      (pe_lst (pa_cons pe_bl (pa_cons pe_bl (pa_cons pe_bl (pa_cons pe_bl pa_nil))))) (nomark _))
    (pe_one (pe_cmpR op_eq (pe_callB (R.len.len hr (by omega) pass0) (by rfl) R.B.len PySem.boot_len (pa_cons (pe_ix ix_list (pv 3) pe_int (fun _ _ => rfl)) pa_nil)) pe_int (nomark _))))) ?_
  rintro D σ H ⟨a, L, p, q, r1, r2, v, u2, u3, rfl, hL, fr, k1⟩
  refine ⟨.ref L, rfl, L, rfl, ⟨_, SqL.of hL⟩, fun N nN => ?_⟩
  refine lc_list (K := K) (a := L) (xs := [.ref p, .non, .non, .ref q]) (fun m H' => Same H H' ∧ H' N = some (.lst (([V.ref p, .non, .non, .ref q].take m).map fun x => V.bl (decide (x = .non))))) ⟨same_upd nN, upd_same⟩ (fun m H' _ hP => SqL.of (hP.1 _ _ hL)) (fun m x H' hm hP => ?_) (fun H' hP => ?_)
  · obtain ⟨s1, d1⟩ := hP
    have hm4 : m < 4 := (List.getElem?_eq_some_iff.mp hm).1
    refine ⟨rfl, x, rfl, rfl, _, d1, ?_, fun b o e => ?_, ?_⟩
    · rw [List.length_map, List.length_take, sizeLine_eq]
      show min m 4 < 16777216
      omega
    · rw [upd_ne (ne_of_none e nN)]
      exact s1 _ _ e
    · rw [upd_same, List.take_add_one, hm, List.map_append]
      rfl
  · obtain ⟨s1, d1⟩ := hP
    have d2 : H' N = some (.lst [.bl false, .bl true, .bl true, .bl false]) := by
      rw [d1]
      simp
    refine ⟨(by rw [sizeLine_eq]; show 4 ≤ 16777216; decide), fun M nM => ?_⟩
    have s2 := same_upd (p := M) (o := .lst [.bl false, .bl true, .bl true, .bl false]) nM
    have z : SeqAt.shaped (.list [.bool false, .bool true, .bool true, .bool false]) = true := by decide +kernel
    have dp : ∀ {l : Addr}, (upd H' M (.lst [.bl false, .bl true, .bl true, .bl false])) l = some (.lst [.bl false, .bl true, .bl true, .bl false]) → Dp K (upd H' M (.lst [.bl false, .bl true, .bl true, .bl false])) (.ref l) (.list [.bool false, .bool true, .bool true, .bool false]) := fun e => .lst (SqL.of e) (.cons (.bl _) (.cons (.bl _) (.cons (.bl _) (.cons (.bl _) .nil))))
    refine ⟨_, _, dp (s2 _ _ d2), dp upd_same, z, z, _, rfl, ?_⟩
    refine iteT' (by decide +kernel) ?_
    have s12 := s1.trans s2
    have fr2 := fr.same s12
    obtain ⟨dx, t', d', e', ob, _⟩ := id fr2.ob
    have e26 : (wordsOf psL qsL rsL).length = 26 := by decide +kernel
    refine ⟨.ref L, rfl, L, _, 0, .ref p, rfl, rfl, SqL.of (s12 _ _ hL), rfl, p, dx, _, rfl, ob, p, v, u2, u3, psL, qsL, rsL, rfl, fr2, 26, by rw [e26], by decide, rfl, ?_⟩
    exact k1 _
def spLaw (K : PySem.W.Frag) : Sp := fun vs H Q _ => ∃ (a : Addr) (ns : List Int), vs = [.ref a] ∧ SqL K H a (ns.map V.int) ∧ ns.length ≤ 63 ∧ ∀ H', Q (.bl true) H'
theorem ok_law {fd : FuncData} (F : Fun K "law" "law" sLaw f fd) (R : LG P w K mg base C) : RunG P w K mg base 9 f fd ["_law_script"] (spLaw K) := by
  refine K01.Fun.okG F scLaw (fun cdv A outer s H vs Q E hG hr h => ?_)
  refine ⟨_, (pss_cons (law0 R hG hr (by omega)) (pss_cons (law1 R hr (by omega)) (pss_cons (law2 R hr (by omega)) (pss_cons (law3 R hr (by omega)) (pss_one (law4 R hr (by omega)))))) : PSs (LX P w K mg base f cdv A outer s H E).nox (defBody sLaw) _), ?_⟩
  obtain ⟨a, ns, rfl, hS, h63, q⟩ := h
  refine ⟨a, ns, rfl, hS, h63, fun H1 r1 => ⟨a, r1, rfl, fun H2 v s2 hv => ⟨a, r1, v, rfl, hv, fun H3 L x y u2 u3 y1 y2 y3 s3 hL o1 o2 => ?_⟩⟩⟩
  obtain rfl := o2.no fr2
  obtain ⟨p, rfl, fr⟩ := o1.yes fr1
  rw [prs_back, strs_back, strs_back] at fr
  refine ⟨a, L, p, r1, _, v, u2, u3, rfl, hL, fr, fun H4 L' q' s4 hL' => ?_⟩
  exact ⟨a, L', p, q', r1, _, v, u2, u3, rfl, hL', fr.same s4, q⟩
end
end K01

set_option autoImplicit false
set_option maxRecDepth 100000
set_option maxHeartbeats 4000000
namespace K01
open PySem PySem.Spec PyProof.Rows L2 KX
open Classical in
/-- what is tracked at the law's call: the script, unless it is written at the top -/
noncomputable def entryH (K : PySem.W.Frag) (a : Addr) (u : HO) : Hp := fun b => if b = a ∧ K.lookup a = none then some u else none
section
variable {K : PySem.W.Frag} {a b : Addr} {u : HO}
theorem entry_some {z : HO} (e : entryH K a u b = some z) : b = a ∧ K.lookup a = none ∧ z = u := by
  unfold entryH at e
  by_cases h2 : b = a ∧ K.lookup a = none
  · rw [if_pos h2] at e
    exact ⟨h2.1, h2.2, (Option.some.inj e).symm⟩
  · rw [if_neg h2] at e
    cases e
end
section
variable {P : Program} {w : World} {K : PySem.W.Frag} {mg mb : Str → Option Value} {k : Nat} {fa a : Addr} {fd : FuncData} {x : Str} {sp : Sp} {s₁ : Shared} {vs : List Value} {ns : List Int}
theorem end_of (kin : K.In s₁.heap) (glob : s₁.heap.Ns mainGlobals mg) (bltn : s₁.heap.Ns builtinsNs mb) (same : ∀ y : Str, y ≠ "__name__" → mb y = bootBuiltins y) (lim : s₁.heap.NoLimit) (nog : s₁.gens = #[])
    (obj : s₁.heap.get? a = some { cls := .type "list", data := .seq vs.toArray }) (nums : IntsAre vs ns) (few : ns.length ≤ sizeLine) (room : Room k callerA)
    (run : ∀ base : Heap, K.In base → base.Ns mainGlobals mg → RunG P w K mg base k fa fd [x] sp) (binds : ∀ (s : Shared) (u : Value), BindsTo s fd ⟨[u], []⟩ [(x, u)])
    (want : ∀ H : Hp, SqL K H a (ns.map V.int) → sp [.ref a] H (fun v _ => v = .bl true) E0) :
    codeAny (model P w) callerA (.call (.ref fa) ⟨[.ref a], []⟩) (fun r s' => r = .ok (.ret (.bool true)) ∧ OldK s₁.heap s'.heap ∧ s'.os = s₁.os ∧ AllBare s'.gens) s₁ := by
  let lo : Obj := { cls := .type "list", data := .seq vs.toArray }
  let G : Hp := entryH K a (.frz lo (.lst (ns.map V.int)))
  have rel := vals_ints nums
  have ok : HOk P w G s₁.heap := fun b z e => by
    obtain ⟨rfl, _, rfl⟩ := entry_some e
    exact ⟨obj, by rw [List.length_map]; exact few, vs, _, rel, obj⟩
  have sees : SqL K G a (ns.map V.int) := by
    cases e : K.lookup a with
    | none => exact .inl (.inr ⟨lo, by show entryH K a _ a = _; unfold entryH; rw [if_pos ⟨rfl, e⟩]⟩)
    | some o =>
      have y := kin a o e
      rw [obj] at y
      cases y
      exact .inr ⟨_, vs.toArray, _, e, rfl, rfl, rfl, by rw [List.size_toArray, nums.length]; exact few, by simpa using rel⟩
  have untracked : ∀ {b : Addr} {o : Obj}, s₁.heap.get? b = some o → (∀ q m, o.data ≠ .seq q m) → G b = none := fun {b o} e n1 => by
    cases z : G b with
    | none => rfl
    | some u =>
      exfalso
      obtain ⟨rfl, _, _⟩ := entry_some z
      rw [obj] at e
      cases e
      exact n1 _ _ rfl
  have dicts : ∀ {b : Addr} {m : Str → Option Value}, s₁.heap.Ns b m → (hidT s₁.heap G).Ns b m := fun {b m} y => by
    obtain ⟨o, es, ep, e, d, r⟩ := y
    refine ⟨o, es, ep, hidT_get e (untracked e fun q m z => ?_), d, r⟩
    rw [d] at z
    cases z
  have kinG : K.In (hidT s₁.heap G) := fun b o e => hidT_get (kin b o e) (by
    cases z : G b with
    | none => rfl
    | some u =>
      exfalso
      obtain ⟨rfl, n, _⟩ := entry_some z
      rw [n] at e
      cases e)
  have mods : Mod K mg (hidT s₁.heap G) := by
    obtain ⟨mc, l1, l2⟩ := lim
    exact ⟨kinG, dicts glob, ⟨mb, dicts bltn, same⟩, ⟨mc, dicts l1, l2⟩⟩
  have env : Env0 P w K mg (hidT s₁.heap G) callerA [] s₁ G := by
    refine ⟨rfl, mods, fun b o e => of_hidT e, Nat.le_of_eq (hidT_size _ _), trivial, fun b z => ?_, ok, .of_eq nog⟩
    cases (show b ∈ ([] : List Addr) from z)
  refine codeAny_mono (run _ kinG (dicts glob) callerA [] s₁ G ⟨[.ref a], []⟩ [.ref a] [.ref a] _ E0 rfl room env (binds s₁ (.ref a)) (.cons rfl .nil) rfl (want G sees)) fun r s' h => ?_
  match r, h with
  | .error e, h => exact False.elim h
  | .ok .next, h => exact False.elim h
  | .ok .brk, h => exact False.elim h
  | .ok .cont, h => exact False.elim h
  | .ok (.ret u), h =>
    obtain ⟨v, H', os, bare, un, ok', r', q⟩ := h
    obtain rfl : v = .bl true := q
    obtain rfl : u = Value.bool true := r'
    have kept : ∀ b o, s₁.heap.get? b = some o → s'.heap.get? b = some o := fun b o e => by
      cases z : G b with
      | none => exact un.keep b o e z (fun y => by cases (show b ∈ ([] : List Addr) from y)) (by simp)
      | some u =>
        obtain ⟨rfl, _, rfl⟩ := entry_some z
        obtain ⟨y1, _⟩ := ok' b _ (un.frzs b _ _ z)
        rw [obj] at e
        cases e
        exact y1
    exact ⟨rfl, ⟨fun b o e => .inl (kept b o e), fun b o e => ⟨o, kept b o e⟩⟩, os, bare⟩
end
theorem walk {l : PySem.W.OpenLaw} {q : Program} {loose : List Str} {XP : (Str → Option Value) → Heap → Prop} {YP : World → Heap → Prop} {d : DefRec} {K : Params → PySem.W.Frag} (hn : l.most = some 63) (hdf : d.params.defaults = [])
    (hY : ∀ (w : World) (h : Heap), YP w h → (K w.params).In h)
    (F : ∀ (w : World) (mg : Str → Option Value) (fa : Addr) (h : Heap), (K w.params).In h → h.Ns mainGlobals mg → mg d.name = some (.ref fa) →
      ∃ (fd : FuncData), (∀ (s : Shared) (u : Value), BindsTo s fd ⟨[u], []⟩ [("_law_script", u)]) ∧ ∀ base : Heap, (K w.params).In base → base.Ns mainGlobals mg → RunG l.prog w (K w.params) mg base 9 fa fd ["_law_script"] (spLaw (K w.params))) :
    PySem.W.WalkO q loose XP YP l.row.toRowW d [] (fun f vs => PySem.call f vs) := by
  refine Att.attach_callB hn hdf fun w s₀ s₁ mg mb fa o pm cd doc a us ns G Y ho hd hcd hmg hobj nums hlen _ hg => ?_
  have kin := hY w _ Y
  obtain ⟨fd, q9, run⟩ := F w mg fa _ kin G.T.g hmg
  exact end_of kin G.T.g G.T.b G.T.builtins G.T.nolimit hg hobj nums (Nat.le_trans hlen (by decide)) ⟨rfl, by decide, by decide⟩ run q9 fun H hS => ⟨a, ns, rfl, hS, hlen, fun _ => rfl⟩
end K01

set_option autoImplicit false
set_option maxRecDepth 100000
set_option maxHeartbeats 4000000
namespace K01
open PySem PySem.Spec PyProof.Rows L2 KX
def noB (K : PySem.W.Frag) (C : Addr) : Bool := frN.all fun f => decide (PySem.W.findIn K (.ref C) f = some none)
theorem all_mk {P : Program} {w : World} {K : PySem.W.Frag} {h : Heap} {mg : Str → Option Value} {fa : Addr} (X : K.In h) (G : h.Ns mainGlobals mg) (hfa : mg "law" = some (.ref fa))
    {C CI : Addr}
    {f0 : Addr} {oc0 kV0 dc0 pm0 cd0 ct0 : Value} {od0 an0 : Option Addr} {sl0 : Array (Option Value)}
    {f1 : Addr} {oc1 kV1 dc1 pm1 cd1 ct1 : Value} {od1 an1 : Option Addr} {sl1 : Array (Option Value)}
    {f2 : Addr} {oc2 kV2 dc2 pm2 cd2 ct2 : Value} {od2 an2 : Option Addr} {sl2 : Array (Option Value)}
    {f3 : Addr} {oc3 kV3 dc3 pm3 cd3 ct3 : Value} {od3 an3 : Option Addr} {sl3 : Array (Option Value)}
    {f4 : Addr} {oc4 kV4 dc4 pm4 cd4 ct4 : Value} {od4 an4 : Option Addr} {sl4 : Array (Option Value)}
    {f5 : Addr} {oc5 kV5 dc5 pm5 cd5 ct5 : Value} {od5 an5 : Option Addr} {sl5 : Array (Option Value)}
    {f6 : Addr} {oc6 kV6 dc6 pm6 cd6 ct6 : Value} {od6 an6 : Option Addr} {sl6 : Array (Option Value)}
    {f7 : Addr} {oc7 kV7 dc7 pm7 cd7 ct7 : Value} {od7 an7 : Option Addr} {sl7 : Array (Option Value)}
    {f8 : Addr} {oc8 kV8 dc8 pm8 cd8 ct8 : Value} {od8 an8 : Option Addr} {sl8 : Array (Option Value)}
    {f9 : Addr} {oc9 kV9 dc9 pm9 cd9 ct9 : Value} {od9 an9 : Option Addr} {sl9 : Array (Option Value)}
    {f10 : Addr} {oc10 kV10 dc10 pm10 cd10 ct10 : Value} {od10 an10 : Option Addr} {sl10 : Array (Option Value)}
    {f11 : Addr} {oc11 kV11 dc11 pm11 cd11 ct11 : Value} {od11 an11 : Option Addr} {sl11 : Array (Option Value)}
    {f12 : Addr} {oc12 kV12 dc12 pm12 cd12 ct12 : Value} {od12 an12 : Option Addr} {sl12 : Array (Option Value)}
    {f13 : Addr} {oc13 kV13 dc13 pm13 cd13 ct13 : Value} {od13 an13 : Option Addr} {sl13 : Array (Option Value)}
    {f14 : Addr} {oc14 kV14 dc14 pm14 cd14 ct14 : Value} {od14 an14 : Option Addr} {sl14 : Array (Option Value)}
    {f15 : Addr} {oc15 kV15 dc15 pm15 cd15 ct15 : Value} {od15 an15 : Option Addr} {sl15 : Array (Option Value)}
    {f16 : Addr} {oc16 kV16 dc16 pm16 cd16 ct16 : Value} {od16 an16 : Option Addr} {sl16 : Array (Option Value)}
    {f17 : Addr} {oc17 kV17 dc17 pm17 cd17 ct17 : Value} {od17 an17 : Option Addr} {sl17 : Array (Option Value)}
    {f18 : Addr} {oc18 kV18 dc18 pm18 cd18 ct18 : Value} {od18 an18 : Option Addr} {sl18 : Array (Option Value)}
    {f19 : Addr} {oc19 kV19 dc19 pm19 cd19 ct19 : Value} {od19 an19 : Option Addr} {sl19 : Array (Option Value)}
    {f20 : Addr} {oc20 kV20 dc20 pm20 cd20 ct20 : Value} {od20 an20 : Option Addr} {sl20 : Array (Option Value)}
    {f21 : Addr} {oc21 kV21 dc21 pm21 cd21 ct21 : Value} {od21 an21 : Option Addr} {sl21 : Array (Option Value)}
    {f22 : Addr} {oc22 kV22 dc22 pm22 cd22 ct22 : Value} {od22 an22 : Option Addr} {sl22 : Array (Option Value)}
    {I0 : Addr} {ic0 iV0 idc0 ipm0 icd0 ict0 : Value} {iod0 ian0 : Option Addr} {isl0 : Array (Option Value)}
    {I1 : Addr} {ic1 iV1 idc1 ipm1 icd1 ict1 : Value} {iod1 ian1 : Option Addr} {isl1 : Array (Option Value)}
    {I2 : Addr} {ic2 iV2 idc2 ipm2 icd2 ict2 : Value} {iod2 ian2 : Option Addr} {isl2 : Array (Option Value)}
    {I3 : Addr} {ic3 iV3 idc3 ipm3 icd3 ict3 : Value} {iod3 ian3 : Option Addr} {isl3 : Array (Option Value)}
    {I4 : Addr} {ic4 iV4 idc4 ipm4 icd4 ict4 : Value} {iod4 ian4 : Option Addr} {isl4 : Array (Option Value)}
    {I5 : Addr} {ic5 iV5 idc5 ipm5 icd5 ict5 : Value} {iod5 ian5 : Option Addr} {isl5 : Array (Option Value)}
    {I6 : Addr} {ic6 iV6 idc6 ipm6 icd6 ict6 : Value} {iod6 ian6 : Option Addr} {isl6 : Array (Option Value)}
    {I7 : Addr} {ic7 iV7 idc7 ipm7 icd7 ict7 : Value} {iod7 ian7 : Option Addr} {isl7 : Array (Option Value)}
    {I8 : Addr} {ic8 iV8 idc8 ipm8 icd8 ict8 : Value} {iod8 ian8 : Option Addr} {isl8 : Array (Option Value)}
    {p0 G0 : Addr} {gc0 gV0 gdc0 gpm0 gcd0 gct0 : Value} {god0 gan0 : Option Addr} {gsl0 : Array (Option Value)} {rest0 : List Value}
    {p1 G1 : Addr} {gc1 gV1 gdc1 gpm1 gcd1 gct1 : Value} {god1 gan1 : Option Addr} {gsl1 : Array (Option Value)} {rest1 : List Value}
    {p2 G2 : Addr} {gc2 gV2 gdc2 gpm2 gcd2 gct2 : Value} {god2 gan2 : Option Addr} {gsl2 : Array (Option Value)} {rest2 : List Value}
    {p3 G3 : Addr} {gc3 gV3 gdc3 gpm3 gcd3 gct3 : Value} {god3 gan3 : Option Addr} {gsl3 : Array (Option Value)} {rest3 : List Value}
    {tl tm ta tp tv : Tok}
    (aC : PySem.W.nsIn K mainGlobals "Frame" = some (some (.ref C)))
    (aCI : PySem.W.nsIn K mainGlobals "InvalidFrame" = some (some (.ref CI)))
    (af0 : PySem.W.nsIn K mainGlobals "is_name" = some (some (.ref f0)))
    (lf0 : K.lookup f0 = some ⟨oc0, od0, .func (PySem.W.fnOf "is_name" "is_name" (defArgs sIsName) (defBody sIsName) (defScope sIsName) .none kV0 dc0 pm0 an0 cd0 ct0), sl0⟩)
    (cf0 : PySem.W.codeIn K cd0 "is_name" = true)
    (kf0 : PySem.W.keepIn K (.ref f0) = true)
    (af1 : PySem.W.nsIn K mainGlobals "are_names" = some (some (.ref f1)))
    (lf1 : K.lookup f1 = some ⟨oc1, od1, .func (PySem.W.fnOf "are_names" "are_names" (defArgs sAreNames) (defBody sAreNames) (defScope sAreNames) .none kV1 dc1 pm1 an1 cd1 ct1), sl1⟩)
    (cf1 : PySem.W.codeIn K cd1 "are_names" = true)
    (kf1 : PySem.W.keepIn K (.ref f1) = true)
    (af2 : PySem.W.nsIn K mainGlobals "are_arrays" = some (some (.ref f2)))
    (lf2 : K.lookup f2 = some ⟨oc2, od2, .func (PySem.W.fnOf "are_arrays" "are_arrays" (defArgs sAreArrays) (defBody sAreArrays) (defScope sAreArrays) .none kV2 dc2 pm2 an2 cd2 ct2), sl2⟩)
    (cf2 : PySem.W.codeIn K cd2 "are_arrays" = true)
    (kf2 : PySem.W.keepIn K (.ref f2) = true)
    (af3 : PySem.W.nsIn K mainGlobals "lengths_in" = some (some (.ref f3)))
    (lf3 : K.lookup f3 = some ⟨oc3, od3, .func (PySem.W.fnOf "lengths_in" "lengths_in" (defArgs sLengthsIn) (defBody sLengthsIn) (defScope sLengthsIn) .none kV3 dc3 pm3 an3 cd3 ct3), sl3⟩)
    (cf3 : PySem.W.codeIn K cd3 "lengths_in" = true)
    (kf3 : PySem.W.keepIn K (.ref f3) = true)
    (af4 : PySem.W.nsIn K mainGlobals "words_in" = some (some (.ref f4)))
    (lf4 : K.lookup f4 = some ⟨oc4, od4, .func (PySem.W.fnOf "words_in" "words_in" (defArgs sWordsIn) (defBody sWordsIn) (defScope sWordsIn) .none kV4 dc4 pm4 an4 cd4 ct4), sl4⟩)
    (cf4 : PySem.W.codeIn K cd4 "words_in" = true)
    (kf4 : PySem.W.keepIn K (.ref f4) = true)
    (af5 : PySem.W.nsIn K mainGlobals "is_frame_of" = some (some (.ref f5)))
    (lf5 : K.lookup f5 = some ⟨oc5, od5, .func (PySem.W.fnOf "is_frame_of" "is_frame_of" (defArgs sFrameOf) (defBody sFrameOf) (defScope sFrameOf) .none kV5 dc5 pm5 an5 cd5 ct5), sl5⟩)
    (cf5 : PySem.W.codeIn K cd5 "is_frame_of" = true)
    (kf5 : PySem.W.keepIn K (.ref f5) = true)
    (af6 : PySem.W.nsIn K mainGlobals "words_text" = some (some (.ref f6)))
    (lf6 : K.lookup f6 = some ⟨oc6, od6, .func (PySem.W.fnOf "words_text" "words_text" (defArgs sWT) (defBody sWT) (defScope sWT) .none kV6 dc6 pm6 an6 cd6 ct6), sl6⟩)
    (cf6 : PySem.W.codeIn K cd6 "words_text" = true)
    (kf6 : PySem.W.keepIn K (.ref f6) = true)
    (af7 : PySem.W.nsIn K mainGlobals "arrays_text" = some (some (.ref f7)))
    (lf7 : K.lookup f7 = some ⟨oc7, od7, .func (PySem.W.fnOf "arrays_text" "arrays_text" (defArgs sAT) (defBody sAT) (defScope sAT) .none kV7 dc7 pm7 an7 cd7 ct7), sl7⟩)
    (cf7 : PySem.W.codeIn K cd7 "arrays_text" = true)
    (kf7 : PySem.W.keepIn K (.ref f7) = true)
    (af8 : PySem.W.nsIn K mainGlobals "_law_creel" = some (some (.ref f8)))
    (lf8 : K.lookup f8 = some ⟨oc8, od8, .func (PySem.W.fnOf "_law_creel" "_law_creel" (defArgs sCreel) (defBody sCreel) (defScope sCreel) .none kV8 dc8 pm8 an8 cd8 ct8), sl8⟩)
    (cf8 : PySem.W.codeIn K cd8 "_law_creel" = true)
    (kf8 : PySem.W.keepIn K (.ref f8) = true)
    (af9 : PySem.W.nsIn K mainGlobals "_law_fish" = some (some (.ref f9)))
    (lf9 : K.lookup f9 = some ⟨oc9, od9, .func (PySem.W.fnOf "_law_fish" "_law_fish" (defArgs sFish) (defBody sFish) (defScope sFish) .none kV9 dc9 pm9 an9 cd9 ct9), sl9⟩)
    (cf9 : PySem.W.codeIn K cd9 "_law_fish" = true)
    (kf9 : PySem.W.keepIn K (.ref f9) = true)
    (af10 : PySem.W.nsIn K mainGlobals "_law_one_of" = some (some (.ref f10)))
    (lf10 : K.lookup f10 = some ⟨oc10, od10, .func (PySem.W.fnOf "_law_one_of" "_law_one_of" (defArgs sOne) (defBody sOne) (defScope sOne) .none kV10 dc10 pm10 an10 cd10 ct10), sl10⟩)
    (cf10 : PySem.W.codeIn K cd10 "_law_one_of" = true)
    (kf10 : PySem.W.keepIn K (.ref f10) = true)
    (af11 : PySem.W.nsIn K mainGlobals "_law_few_of" = some (some (.ref f11)))
    (lf11 : K.lookup f11 = some ⟨oc11, od11, .func (PySem.W.fnOf "_law_few_of" "_law_few_of" (defArgs sFew) (defBody sFew) (defScope sFew) .none kV11 dc11 pm11 an11 cd11 ct11), sl11⟩)
    (cf11 : PySem.W.codeIn K cd11 "_law_few_of" = true)
    (kf11 : PySem.W.keepIn K (.ref f11) = true)
    (af12 : PySem.W.nsIn K mainGlobals "_law_parts" = some (some (.ref f12)))
    (lf12 : K.lookup f12 = some ⟨oc12, od12, .func (PySem.W.fnOf "_law_parts" "_law_parts" (defArgs sPts) (defBody sPts) (defScope sPts) .none kV12 dc12 pm12 an12 cd12 ct12), sl12⟩)
    (cf12 : PySem.W.codeIn K cd12 "_law_parts" = true)
    (kf12 : PySem.W.keepIn K (.ref f12) = true)
    (af13 : PySem.W.nsIn K mainGlobals "_law_lengths" = some (some (.ref f13)))
    (lf13 : K.lookup f13 = some ⟨oc13, od13, .func (PySem.W.fnOf "_law_lengths" "_law_lengths" (defArgs sLens) (defBody sLens) (defScope sLens) .none kV13 dc13 pm13 an13 cd13 ct13), sl13⟩)
    (cf13 : PySem.W.codeIn K cd13 "_law_lengths" = true)
    (kf13 : PySem.W.keepIn K (.ref f13) = true)
    (af14 : PySem.W.nsIn K mainGlobals "_law_frame" = some (some (.ref f14)))
    (lf14 : K.lookup f14 = some ⟨oc14, od14, .func (PySem.W.fnOf "_law_frame" "_law_frame" (defArgs sFrame) (defBody sFrame) (defScope sFrame) .none kV14 dc14 pm14 an14 cd14 ct14), sl14⟩)
    (cf14 : PySem.W.codeIn K cd14 "_law_frame" = true)
    (kf14 : PySem.W.keepIn K (.ref f14) = true)
    (af15 : PySem.W.nsIn K mainGlobals "_law_all_of" = some (some (.ref f15)))
    (lf15 : K.lookup f15 = some ⟨oc15, od15, .func (PySem.W.fnOf "_law_all_of" "_law_all_of" (defArgs sAll) (defBody sAll) (defScope sAll) .none kV15 dc15 pm15 an15 cd15 ct15), sl15⟩)
    (cf15 : PySem.W.codeIn K cd15 "_law_all_of" = true)
    (kf15 : PySem.W.keepIn K (.ref f15) = true)
    (af16 : PySem.W.nsIn K mainGlobals "_law_are_names" = some (some (.ref f16)))
    (lf16 : K.lookup f16 = some ⟨oc16, od16, .func (PySem.W.fnOf "_law_are_names" "_law_are_names" (defArgs sLNames) (defBody sLNames) (defScope sLNames) .none kV16 dc16 pm16 an16 cd16 ct16), sl16⟩)
    (cf16 : PySem.W.codeIn K cd16 "_law_are_names" = true)
    (kf16 : PySem.W.keepIn K (.ref f16) = true)
    (af17 : PySem.W.nsIn K mainGlobals "_law_are_parts" = some (some (.ref f17)))
    (lf17 : K.lookup f17 = some ⟨oc17, od17, .func (PySem.W.fnOf "_law_are_parts" "_law_are_parts" (defArgs sLParts) (defBody sLParts) (defScope sLParts) .none kV17 dc17 pm17 an17 cd17 ct17), sl17⟩)
    (cf17 : PySem.W.codeIn K cd17 "_law_are_parts" = true)
    (kf17 : PySem.W.keepIn K (.ref f17) = true)
    (af18 : PySem.W.nsIn K mainGlobals "_law_met" = some (some (.ref f18)))
    (lf18 : K.lookup f18 = some ⟨oc18, od18, .func (PySem.W.fnOf "_law_met" "_law_met" (defArgs sMet) (defBody sMet) (defScope sMet) .none kV18 dc18 pm18 an18 cd18 ct18), sl18⟩)
    (cf18 : PySem.W.codeIn K cd18 "_law_met" = true)
    (kf18 : PySem.W.keepIn K (.ref f18) = true)
    (af19 : PySem.W.nsIn K mainGlobals "_law_is_told" = some (some (.ref f19)))
    (lf19 : K.lookup f19 = some ⟨oc19, od19, .func (PySem.W.fnOf "_law_is_told" "_law_is_told" (defArgs sTold) (defBody sTold) (defScope sTold) .none kV19 dc19 pm19 an19 cd19 ct19), sl19⟩)
    (cf19 : PySem.W.codeIn K cd19 "_law_is_told" = true)
    (kf19 : PySem.W.keepIn K (.ref f19) = true)
    (af20 : PySem.W.nsIn K mainGlobals "_law_near" = some (some (.ref f20)))
    (lf20 : K.lookup f20 = some ⟨oc20, od20, .func (PySem.W.fnOf "_law_near" "_law_near" (defArgs sNear) (defBody sNear) (defScope sNear) .none kV20 dc20 pm20 an20 cd20 ct20), sl20⟩)
    (cf20 : PySem.W.codeIn K cd20 "_law_near" = true)
    (kf20 : PySem.W.keepIn K (.ref f20) = true)
    (af21 : PySem.W.nsIn K mainGlobals "_law_right" = some (some (.ref f21)))
    (lf21 : K.lookup f21 = some ⟨oc21, od21, .func (PySem.W.fnOf "_law_right" "_law_right" (defArgs sRight) (defBody sRight) (defScope sRight) .none kV21 dc21 pm21 an21 cd21 ct21), sl21⟩)
    (cf21 : PySem.W.codeIn K cd21 "_law_right" = true)
    (kf21 : PySem.W.keepIn K (.ref f21) = true)
    (af22 : PySem.W.nsIn K mainGlobals "law" = some (some (.ref f22)))
    (lf22 : K.lookup f22 = some ⟨oc22, od22, .func (PySem.W.fnOf "law" "law" (defArgs sLaw) (defBody sLaw) (defScope sLaw) .none kV22 dc22 pm22 an22 cd22 ct22), sl22⟩)
    (cf22 : PySem.W.codeIn K cd22 "law" = true)
    (kf22 : PySem.W.keepIn K (.ref f22) = true)
    (aI0 : PySem.W.findIn K (.ref C) "__init__" = some (some (.ref I0)))
    (lI0 : K.lookup I0 = some ⟨ic0, iod0, .func (PySem.W.fnOf "__init__" "Frame.__init__" (defArgs sInit) (defBody sInit) (defScope sInit) .none iV0 idc0 ipm0 ian0 icd0 ict0), isl0⟩)
    (cI0 : PySem.W.codeIn K icd0 "Frame.__init__" = true)
    (kI0 : PySem.W.keepIn K (.ref I0) = true)
    (nI0 : PySem.W.isFn K (.ref I0) = true)
    (aI1 : PySem.W.findIn K (.ref C) "has_kind" = some (some (.ref I1)))
    (lI1 : K.lookup I1 = some ⟨ic1, iod1, .func (PySem.W.fnOf "has_kind" "Frame.has_kind" (defArgs sHas) (defBody sHas) (defScope sHas) .none iV1 idc1 ipm1 ian1 icd1 ict1), isl1⟩)
    (cI1 : PySem.W.codeIn K icd1 "Frame.has_kind" = true)
    (kI1 : PySem.W.keepIn K (.ref I1) = true)
    (nI1 : PySem.W.isFn K (.ref I1) = true)
    (aI2 : PySem.W.findIn K (.ref C) "length_of" = some (some (.ref I2)))
    (lI2 : K.lookup I2 = some ⟨ic2, iod2, .func (PySem.W.fnOf "length_of" "Frame.length_of" (defArgs sLenOf) (defBody sLenOf) (defScope sLenOf) .none iV2 idc2 ipm2 ian2 icd2 ict2), isl2⟩)
    (cI2 : PySem.W.codeIn K icd2 "Frame.length_of" = true)
    (kI2 : PySem.W.keepIn K (.ref I2) = true)
    (nI2 : PySem.W.isFn K (.ref I2) = true)
    (aI3 : PySem.W.findIn K (.ref C) "kind_of" = some (some (.ref I3)))
    (lI3 : K.lookup I3 = some ⟨ic3, iod3, .func (PySem.W.fnOf "kind_of" "Frame.kind_of" (defArgs sKind) (defBody sKind) (defScope sKind) .none iV3 idc3 ipm3 ian3 icd3 ict3), isl3⟩)
    (cI3 : PySem.W.codeIn K icd3 "Frame.kind_of" = true)
    (kI3 : PySem.W.keepIn K (.ref I3) = true)
    (nI3 : PySem.W.isFn K (.ref I3) = true)
    (aI4 : PySem.W.findIn K (.ref C) "is_fresh" = some (some (.ref I4)))
    (lI4 : K.lookup I4 = some ⟨ic4, iod4, .func (PySem.W.fnOf "is_fresh" "Frame.is_fresh" (defArgs sFresh) (defBody sFresh) (defScope sFresh) .none iV4 idc4 ipm4 ian4 icd4 ict4), isl4⟩)
    (cI4 : PySem.W.codeIn K icd4 "Frame.is_fresh" = true)
    (kI4 : PySem.W.keepIn K (.ref I4) = true)
    (nI4 : PySem.W.isFn K (.ref I4) = true)
    (aI5 : PySem.W.findIn K (.ref C) "__contains__" = some (some (.ref I5)))
    (lI5 : K.lookup I5 = some ⟨ic5, iod5, .func (PySem.W.fnOf "__contains__" "Frame.__contains__" (defArgs sIn) (defBody sIn) (defScope sIn) .none iV5 idc5 ipm5 ian5 icd5 ict5), isl5⟩)
    (cI5 : PySem.W.codeIn K icd5 "Frame.__contains__" = true)
    (kI5 : PySem.W.keepIn K (.ref I5) = true)
    (nI5 : PySem.W.isFn K (.ref I5) = true)
    (aI6 : PySem.W.findIn K (.ref C) "__len__" = some (some (.ref I6)))
    (lI6 : K.lookup I6 = some ⟨ic6, iod6, .func (PySem.W.fnOf "__len__" "Frame.__len__" (defArgs sLen) (defBody sLen) (defScope sLen) .none iV6 idc6 ipm6 ian6 icd6 ict6), isl6⟩)
    (cI6 : PySem.W.codeIn K icd6 "Frame.__len__" = true)
    (kI6 : PySem.W.keepIn K (.ref I6) = true)
    (nI6 : PySem.W.isFn K (.ref I6) = true)
    (aI7 : PySem.W.findIn K (.ref C) "__eq__" = some (some (.ref I7)))
    (lI7 : K.lookup I7 = some ⟨ic7, iod7, .func (PySem.W.fnOf "__eq__" "Frame.__eq__" (defArgs sEq) (defBody sEq) (defScope sEq) .none iV7 idc7 ipm7 ian7 icd7 ict7), isl7⟩)
    (cI7 : PySem.W.codeIn K icd7 "Frame.__eq__" = true)
    (kI7 : PySem.W.keepIn K (.ref I7) = true)
    (nI7 : PySem.W.isFn K (.ref I7) = true)
    (aI8 : PySem.W.findIn K (.ref C) "__str__" = some (some (.ref I8)))
    (lI8 : K.lookup I8 = some ⟨ic8, iod8, .func (PySem.W.fnOf "__str__" "Frame.__str__" (defArgs sStr) (defBody sStr) (defScope sStr) .none iV8 idc8 ipm8 ian8 icd8 ict8), isl8⟩)
    (cI8 : PySem.W.codeIn K icd8 "Frame.__str__" = true)
    (kI8 : PySem.W.keepIn K (.ref I8) = true)
    (nI8 : PySem.W.isFn K (.ref I8) = true)
    (aP0 : PySem.W.findIn K (.ref C) "arrays" = some (some (.ref p0)))
    (sP0 : PySem.W.specialIn K (.ref p0) "__get__" = some (some (.builtin "property.__get__")))
    (tP0 : PySem.W.takesIn K (.ref p0) = some true)
    (rP0 : PySem.W.recIn K p0 "property" = some (.ref G0 :: rest0))
    (lG0 : K.lookup G0 = some ⟨gc0, god0, .func (PySem.W.fnOf "arrays" "Frame.arrays" (defArgs (inClass (topS 19) 1)) (defBody (inClass (topS 19) 1)) (defScope (inClass (topS 19) 1)) .none gV0 gdc0 gpm0 gan0 gcd0 gct0), gsl0⟩)
    (cG0 : PySem.W.codeIn K gcd0 "Frame.arrays" = true)
    (kG0 : PySem.W.keepIn K (.ref G0) = true)
    (aP1 : PySem.W.findIn K (.ref C) "positions" = some (some (.ref p1)))
    (sP1 : PySem.W.specialIn K (.ref p1) "__get__" = some (some (.builtin "property.__get__")))
    (tP1 : PySem.W.takesIn K (.ref p1) = some true)
    (rP1 : PySem.W.recIn K p1 "property" = some (.ref G1 :: rest1))
    (lG1 : K.lookup G1 = some ⟨gc1, god1, .func (PySem.W.fnOf "positions" "Frame.positions" (defArgs (inClass (topS 19) 2)) (defBody (inClass (topS 19) 2)) (defScope (inClass (topS 19) 2)) .none gV1 gdc1 gpm1 gan1 gcd1 gct1), gsl1⟩)
    (cG1 : PySem.W.codeIn K gcd1 "Frame.positions" = true)
    (kG1 : PySem.W.keepIn K (.ref G1) = true)
    (aP2 : PySem.W.findIn K (.ref C) "amounts" = some (some (.ref p2)))
    (sP2 : PySem.W.specialIn K (.ref p2) "__get__" = some (some (.builtin "property.__get__")))
    (tP2 : PySem.W.takesIn K (.ref p2) = some true)
    (rP2 : PySem.W.recIn K p2 "property" = some (.ref G2 :: rest2))
    (lG2 : K.lookup G2 = some ⟨gc2, god2, .func (PySem.W.fnOf "amounts" "Frame.amounts" (defArgs (inClass (topS 19) 3)) (defBody (inClass (topS 19) 3)) (defScope (inClass (topS 19) 3)) .none gV2 gdc2 gpm2 gan2 gcd2 gct2), gsl2⟩)
    (cG2 : PySem.W.codeIn K gcd2 "Frame.amounts" = true)
    (kG2 : PySem.W.keepIn K (.ref G2) = true)
    (aP3 : PySem.W.findIn K (.ref C) "lengths" = some (some (.ref p3)))
    (sP3 : PySem.W.specialIn K (.ref p3) "__get__" = some (some (.builtin "property.__get__")))
    (tP3 : PySem.W.takesIn K (.ref p3) = some true)
    (rP3 : PySem.W.recIn K p3 "property" = some (.ref G3 :: rest3))
    (lG3 : K.lookup G3 = some ⟨gc3, god3, .func (PySem.W.fnOf "lengths" "Frame.lengths" (defArgs (inClass (topS 19) 4)) (defBody (inClass (topS 19) 4)) (defScope (inClass (topS 19) 4)) .none gV3 gdc3 gpm3 gan3 gcd3 gct3), gsl3⟩)
    (cG3 : PySem.W.codeIn K gcd3 "Frame.lengths" = true)
    (kG3 : PySem.W.keepIn K (.ref G3) = true)
    (cPg : PySem.W.plainGet K C Str.empty = true)
    (cHd : PySem.W.hasDictIn K C = true)
    (cPo : PySem.W.plainOver K C = true)
    (cSa : PySem.W.findIn K (.ref C) "__setattr__" = some (some (.builtin "object.__setattr__")))
    (cNo : noB K C = true)
    (cMk : PySem.W.makesIn K C = true)
    (cKp : PySem.W.keepIn K (.ref C) = true)
    (xOv : PySem.W.excIn K CI [.type "ValueError", .type "Exception", .type "BaseException", .type "object"] "ValueError.__new__" = true)
    (xKp : PySem.W.keepIn K (.ref CI) = true)
    (xBe : PySem.W.subIn K (.ref CI) (.type "BaseException") = some true)
    (xTy : PySem.W.typeIn K (.ref CI) = some (.type "type"))
    (xEx : PySem.W.exmOne K (.ref CI) (.ref CI) = some true)
    (iHa : PySem.W.findIn K (.ref C) "__class__" = some (some (.builtin "object.__class__")))
    (iHn : PySem.W.specialIn K (.builtin "object.__class__") "__get__" = some (some (.builtin "getset_descriptor.__get__")))
    (iHt : PySem.W.takesIn K (.builtin "object.__class__") = some true)
    (iHm : PySem.W.mroIn K C (.type "object") = some true)
    (iKt : PySem.W.kitOne K (.ref C) (.ref C) = some true)
    (iKl : PySem.W.kitOne K (.type "list") (.ref C) = some false)
    (iNe : PySem.W.findIn K (.ref C) "__ne__" = some (some (.builtin "object.__ne__")))
    (iNc : PySem.W.notFirst K C (.ref C) = true)
    (iNl : PySem.W.notFirst K C (.type "list") = true)
    (aL : PySem.W.nsIn K mainGlobals "LETTERS" = some (some (.str "abcdefghijklmnopqrstuvwxyz" tl)))
    (aM : PySem.W.nsIn K mainGlobals "MAX_LETTERS" = some (some (.int 8 tm)))
    (aA : PySem.W.nsIn K mainGlobals "MAX_ARRAYS" = some (some (.int 12 ta)))
    (aP : PySem.W.nsIn K mainGlobals "MAX_POSITIONS" = some (some (.int 6 tp)))
    (aV : PySem.W.nsIn K mainGlobals "MAX_VALUES" = some (some (.int 6 tv)))
    (z_isinstance : PySem.W.nsIn K mainGlobals "isinstance" = some none)
    (z_str : PySem.W.nsIn K mainGlobals "str" = some none)
    (z_tuple : PySem.W.nsIn K mainGlobals "tuple" = some none)
    (z_len : PySem.W.nsIn K mainGlobals "len" = some none)
    (z_all : PySem.W.nsIn K mainGlobals "all" = some none)
    (z_set : PySem.W.nsIn K mainGlobals "set" = some none)
    (z_int : PySem.W.nsIn K mainGlobals "int" = some none)
    (z_list : PySem.W.nsIn K mainGlobals "list" = some none)
    (z_range : PySem.W.nsIn K mainGlobals "range" = some none)
    (z_min : PySem.W.nsIn K mainGlobals "min" = some none)
    (z_max : PySem.W.nsIn K mainGlobals "max" = some none)
    (z_abs : PySem.W.nsIn K mainGlobals "abs" = some none)
    (z_repr : PySem.W.nsIn K mainGlobals "repr" = some none)
    (z_enumerate : PySem.W.nsIn K mainGlobals "enumerate" = some none)
    : ∃ (fd : FuncData), (∀ (s : Shared) (u : Value), BindsTo s fd ⟨[u], []⟩ [("_law_script", u)]) ∧ ∀ base : Heap, K.In base → base.Ns mainGlobals mg → RunG P w K mg base 9 fa fd ["_law_script"] (spLaw K) := by
  have e := hfa.symm.trans (PySem.W.mg_of X G af22)
  cases e
  have gF := PySem.W.mg_of X G aC
  have gI := PySem.W.mg_of X G aCI
  have m_isinstance := PySem.W.mg_none_of X G z_isinstance
  have m_str := PySem.W.mg_none_of X G z_str
  have m_tuple := PySem.W.mg_none_of X G z_tuple
  have m_len := PySem.W.mg_none_of X G z_len
  have m_all := PySem.W.mg_none_of X G z_all
  have m_set := PySem.W.mg_none_of X G z_set
  have m_int := PySem.W.mg_none_of X G z_int
  have m_list := PySem.W.mg_none_of X G z_list
  have m_range := PySem.W.mg_none_of X G z_range
  have m_min := PySem.W.mg_none_of X G z_min
  have m_max := PySem.W.mg_none_of X G z_max
  have m_abs := PySem.W.mg_none_of X G z_abs
  have m_repr := PySem.W.mg_none_of X G z_repr
  have m_enumerate := PySem.W.mg_none_of X G z_enumerate
  have mL := PySem.W.mg_of X G aL
  have mM := PySem.W.mg_of X G aM
  have mA := PySem.W.mg_of X G aA
  have mP := PySem.W.mg_of X G aP
  have mV := PySem.W.mg_of X G aV
  have g0 := PySem.W.mg_of X G af0
  have F0 := fun_mk (st := sIsName) lf0 cf0 kf0
  have b0 := F0.binds (ps := ["value"]) fun _ _ _ _ _ _ us hl => match us, hl with | [_], _ => rfl
  have g1 := PySem.W.mg_of X G af1
  have F1 := fun_mk (st := sAreNames) lf1 cf1 kf1
  have b1 := F1.binds (ps := ["value", "most"]) fun _ _ _ _ _ _ us hl => match us, hl with | [_, _], _ => rfl
  have g2 := PySem.W.mg_of X G af2
  have F2 := fun_mk (st := sAreArrays) lf2 cf2 kf2
  have b2 := F2.binds (ps := ["value"]) fun _ _ _ _ _ _ us hl => match us, hl with | [_], _ => rfl
  have g3 := PySem.W.mg_of X G af3
  have F3 := fun_mk (st := sLengthsIn) lf3 cf3 kf3
  have b3 := F3.binds (ps := ["arrays"]) fun _ _ _ _ _ _ us hl => match us, hl with | [_], _ => rfl
  have g4 := PySem.W.mg_of X G af4
  have F4 := fun_mk (st := sWordsIn) lf4 cf4 kf4
  have b4 := F4.binds (ps := ["arrays", "positions", "values"]) fun _ _ _ _ _ _ us hl => match us, hl with | [_, _, _], _ => rfl
  have g5 := PySem.W.mg_of X G af5
  have F5 := fun_mk (st := sFrameOf) lf5 cf5 kf5
  have b5 := F5.binds (ps := ["arrays", "positions", "values"]) fun _ _ _ _ _ _ us hl => match us, hl with | [_, _, _], _ => rfl
  have g6 := PySem.W.mg_of X G af6
  have F6 := fun_mk (st := sWT) lf6 cf6 kf6
  have b6 := F6.binds (ps := ["words"]) fun _ _ _ _ _ _ us hl => match us, hl with | [_], _ => rfl
  have g7 := PySem.W.mg_of X G af7
  have F7 := fun_mk (st := sAT) lf7 cf7 kf7
  have b7 := F7.binds (ps := ["arrays"]) fun _ _ _ _ _ _ us hl => match us, hl with | [_], _ => rfl
  have g8 := PySem.W.mg_of X G af8
  have F8 := fun_mk (st := sCreel) lf8 cf8 kf8
  have b8 := F8.binds (ps := ["_law_script", "_law_at"]) fun _ _ _ _ _ _ us hl => match us, hl with | [_, _], _ => rfl
  have g9 := PySem.W.mg_of X G af9
  have F9 := fun_mk (st := sFish) lf9 cf9 kf9
  have b9 := F9.binds (ps := ["_law_creel_here", "_law_total"]) fun _ _ _ _ _ _ us hl => match us, hl with | [_, _], _ => rfl
  have g10 := PySem.W.mg_of X G af10
  have F10 := fun_mk (st := sOne) lf10 cf10 kf10
  have b10 := F10.binds (ps := ["_law_creel_here", "_law_items"]) fun _ _ _ _ _ _ us hl => match us, hl with | [_, _], _ => rfl
  have g11 := PySem.W.mg_of X G af11
  have F11 := fun_mk (st := sFew) lf11 cf11 kf11
  have b11 := F11.binds (ps := ["_law_creel_here", "_law_items", "_law_count"]) fun _ _ _ _ _ _ us hl => match us, hl with | [_, _, _], _ => rfl
  have g12 := PySem.W.mg_of X G af12
  have F12 := fun_mk (st := sPts) lf12 cf12 kf12
  have b12 := F12.binds (ps := ["_law_creel_here"]) fun _ _ _ _ _ _ us hl => match us, hl with | [_], _ => rfl
  have g13 := PySem.W.mg_of X G af13
  have F13 := fun_mk (st := sLens) lf13 cf13 kf13
  have b13 := F13.binds (ps := ["_law_parts_here"]) fun _ _ _ _ _ _ us hl => match us, hl with | [_], _ => rfl
  have g14 := PySem.W.mg_of X G af14
  have F14 := fun_mk (st := sFrame) lf14 cf14 kf14
  have b14 := F14.binds (ps := ["_law_parts_here"]) fun _ _ _ _ _ _ us hl => match us, hl with | [_], _ => rfl
  have g15 := PySem.W.mg_of X G af15
  have F15 := fun_mk (st := sAll) lf15 cf15 kf15
  have b15 := F15.binds (ps := ["_law_parts_here"]) fun _ _ _ _ _ _ us hl => match us, hl with | [_], _ => rfl
  have g16 := PySem.W.mg_of X G af16
  have F16 := fun_mk (st := sLNames) lf16 cf16 kf16
  have b16 := F16.binds (ps := ["_law_value"]) fun _ _ _ _ _ _ us hl => match us, hl with | [_], _ => rfl
  have g17 := PySem.W.mg_of X G af17
  have F17 := fun_mk (st := sLParts) lf17 cf17 kf17
  have b17 := F17.binds (ps := ["_law_parts_here"]) fun _ _ _ _ _ _ us hl => match us, hl with | [_], _ => rfl
  have g18 := PySem.W.mg_of X G af18
  have F18 := fun_mk (st := sMet) lf18 cf18 kf18
  have b18 := F18.binds (ps := ["_law_parts_here"]) fun _ _ _ _ _ _ us hl => match us, hl with | [_], _ => rfl
  have g19 := PySem.W.mg_of X G af19
  have F19 := fun_mk (st := sTold) lf19 cf19 kf19
  have b19 := F19.binds (ps := ["_law_frame_here", "_law_parts_here"]) fun _ _ _ _ _ _ us hl => match us, hl with | [_, _], _ => rfl
  have g20 := PySem.W.mg_of X G af20
  have F20 := fun_mk (st := sNear) lf20 cf20 kf20
  have b20 := F20.binds (ps := ["_law_creel_here", "_law_parts_here"]) fun _ _ _ _ _ _ us hl => match us, hl with | [_, _], _ => rfl
  have g21 := PySem.W.mg_of X G af21
  have F21 := fun_mk (st := sRight) lf21 cf21 kf21
  have b21 := F21.binds (ps := ["_law_creel_here"]) fun _ _ _ _ _ _ us hl => match us, hl with | [_], _ => rfl
  have g22 := PySem.W.mg_of X G af22
  have F22 := fun_mk (st := sLaw) lf22 cf22 kf22
  have b22 := F22.binds (ps := ["_law_script"]) fun _ _ _ _ _ _ us hl => match us, hl with | [_], _ => rfl
  have FI0 := fun_mk (st := sInit) lI0 cI0 kI0
  have bI0 := FI0.binds (ps := ["self", "arrays", "positions", "values"]) fun _ _ _ _ _ _ us hl => match us, hl with | [_, _, _, _], _ => rfl
  have FI1 := fun_mk (st := sHas) lI1 cI1 kI1
  have bI1 := FI1.binds (ps := ["self", "value", "kinds"]) fun _ _ _ _ _ _ us hl => match us, hl with | [_, _, _], _ => rfl
  have FI2 := fun_mk (st := sLenOf) lI2 cI2 kI2
  have bI2 := FI2.binds (ps := ["self", "array"]) fun _ _ _ _ _ _ us hl => match us, hl with | [_, _], _ => rfl
  have FI3 := fun_mk (st := sKind) lI3 cI3 kI3
  have bI3 := FI3.binds (ps := ["self", "word"]) fun _ _ _ _ _ _ us hl => match us, hl with | [_, _], _ => rfl
  have FI4 := fun_mk (st := sFresh) lI4 cI4 kI4
  have bI4 := FI4.binds (ps := ["self", "value"]) fun _ _ _ _ _ _ us hl => match us, hl with | [_, _], _ => rfl
  have FI5 := fun_mk (st := sIn) lI5 cI5 kI5
  have bI5 := FI5.binds (ps := ["self", "value"]) fun _ _ _ _ _ _ us hl => match us, hl with | [_, _], _ => rfl
  have FI6 := fun_mk (st := sLen) lI6 cI6 kI6
  have bI6 := FI6.binds (ps := ["self"]) fun _ _ _ _ _ _ us hl => match us, hl with | [_], _ => rfl
  have FI7 := fun_mk (st := sEq) lI7 cI7 kI7
  have bI7 := FI7.binds (ps := ["self", "other"]) fun _ _ _ _ _ _ us hl => match us, hl with | [_, _], _ => rfl
  have FI8 := fun_mk (st := sStr) lI8 cI8 kI8
  have bI8 := FI8.binds (ps := ["self"]) fun _ _ _ _ _ _ us hl => match us, hl with | [_], _ => rfl
  have FG0 := fun_mk (st := inClass (topS 19) 1) lG0 cG0 kG0
  have bG0 := FG0.binds (ps := ["self"]) fun _ _ _ _ _ _ us hl => match us, hl with | [_], _ => rfl
  have FG1 := fun_mk (st := inClass (topS 19) 2) lG1 cG1 kG1
  have bG1 := FG1.binds (ps := ["self"]) fun _ _ _ _ _ _ us hl => match us, hl with | [_], _ => rfl
  have FG2 := fun_mk (st := inClass (topS 19) 3) lG2 cG2 kG2
  have bG2 := FG2.binds (ps := ["self"]) fun _ _ _ _ _ _ us hl => match us, hl with | [_], _ => rfl
  have FG3 := fun_mk (st := inClass (topS 19) 4) lG3 cG3 kG3
  have bG3 := FG3.binds (ps := ["self"]) fun _ _ _ _ _ _ us hl => match us, hl with | [_], _ => rfl
  have B : Free mg := ⟨m_isinstance, m_str, m_tuple, m_len, m_all, m_set, m_int, m_list, m_range⟩
  have T : FrTxt K mg C := ⟨⟨cPg, cHd, cPo, cSa⟩, fun f hf => (show PySem.W.findIn K (.ref C) f = some none from of_decide_eq_true (List.all_eq_true.mp cNo f hf))⟩
  have S : FrIs K mg C := ⟨gF, iHa, iHn, iHt, iHm, iKt, iKl⟩
  have MP : MkP K mg "InvalidFrame" CI := ⟨xOv, gI, xKp, xBe, xTy⟩
  refine ⟨PySem.W.fnOf "law" "law" (defArgs sLaw) (defBody sLaw) (defScope sLaw) .none kV22 dc22 pm22 an22 cd22 ct22, fun s u => .of_eq rfl, fun base _ _ => ?_⟩
  have isn : Fnc P w K mg base CX0 1 "is_name" ["value"] (spName K) := ⟨⟨f0, _, ok_isName F0 m_isinstance m_str m_len m_all mL mM, b0, g0, F0.kp⟩⟩
  have names : Fnc P w K mg base CX0 2 "are_names" ["value", "most"] spNames := ⟨⟨f1, _, ok_names F1 isn B, b1, g1, F1.kp⟩⟩
  have arrs : Fnc P w K mg base CX0 3 "are_arrays" ["value"] spArrays := ⟨⟨f2, _, ok_arrays F2 names B mA, b2, g2, F2.kp⟩⟩
  have lens : Fnc P w K mg base CX0 1 "lengths_in" ["arrays"] spLens := ⟨⟨f3, _, ok_lens F3 B, b3, g3, F3.kp⟩⟩
  have words : Fnc P w K mg base CX0 2 "words_in" ["arrays", "positions", "values"] spWords := ⟨⟨f4, _, ok_words F4 lens B, b4, g4, F4.kp⟩⟩
  have fof : Fnc P w K mg base CX0 4 "is_frame_of" ["arrays", "positions", "values"] spFrameOf := ⟨⟨f5, _, ok_frameOf F5 arrs names words B mP mV, b5, g5, F5.kp⟩⟩
  have wtx : Fnc P w K mg base CX0 1 "words_text" ["words"] (spWT K) := ⟨⟨f6, _, ok_wt F6 B, b6, g6, F6.kp⟩⟩
  have atx : Fnc P w K mg base CX0 2 "arrays_text" ["arrays"] spAT := ⟨⟨f7, _, ok_at F7 wtx, b7, g7, F7.kp⟩⟩
  have creel : Fnc P w K mg base CX0 1 "_law_creel" ["_law_script", "_law_at"] (spCreel K) := ⟨⟨f8, _, ok_creel F8 m_len m_int m_abs m_max, b8, g8, F8.kp⟩⟩
  have fish : Fnc P w K mg base CX0 1 "_law_fish" ["_law_creel_here", "_law_total"] spFish := ⟨⟨f9, _, ok_fish F9 m_int, b9, g9, F9.kp⟩⟩
  have one : Fnc P w K mg base CX0 2 "_law_one_of" ["_law_creel_here", "_law_items"] spOne := ⟨⟨f10, _, ok_one F10 F9 b9 g9 m_int m_len, b10, g10, F10.kp⟩⟩
  have few : Fnc P w K mg base CX0 2 "_law_few_of" ["_law_creel_here", "_law_items", "_law_count"] spFew := ⟨⟨f11, _, ok_few F11 fish B m_min, b11, g11, F11.kp⟩⟩
  have pts : Fnc P w K mg base CX0 3 "_law_parts" ["_law_creel_here"] spPts := ⟨⟨f12, _, ok_pts F12 few fish B, b12, g12, F12.kp⟩⟩
  have lens2 : Fnc P w K mg base CX0 1 "_law_lengths" ["_law_parts_here"] spLens2 := ⟨⟨f13, _, ok_lens2 F13, b13, g13, F13.kp⟩⟩
  have allOf : Fnc P w K mg base CX0 2 "_law_all_of" ["_law_parts_here"] spAll := ⟨⟨f15, _, ok_all F15 lens2 B, b15, g15, F15.kp⟩⟩
  have lnames : Fnc P w K mg base CX0 1 "_law_are_names" ["_law_value"] spLNames := ⟨⟨f16, _, ok_lnames F16 B, b16, g16, F16.kp⟩⟩
  have lparts : Fnc P w K mg base CX0 3 "_law_are_parts" ["_law_parts_here"] spLParts := ⟨⟨f17, _, ok_lparts F17 lnames allOf B, b17, g17, F17.kp⟩⟩
  have o_isIn : OM P w K mg base CX0 1 C "__contains__" ["self", "value"] (spIn C) := ⟨⟨I5, _, ⟨aI5, nI5⟩, kI5, ok_in FI5 T B, bI5⟩⟩
  have o_len : OM P w K mg base CX0 1 C "__len__" ["self"] (spLen C) := ⟨⟨I6, _, ⟨aI6, nI6⟩, kI6, ok_len FI6 T B, bI6⟩⟩
  have o_kind : OM P w K mg base CX0 2 C "kind_of" ["self", "word"] (spKind C) := ⟨⟨I3, _, ⟨aI3, nI3⟩, kI3, ok_kind FI3 T o_isIn, bI3⟩⟩
  have o_fresh : OM P w K mg base CX0 2 C "is_fresh" ["self", "value"] (spFresh C) := ⟨⟨I4, _, ⟨aI4, nI4⟩, kI4, ok_fresh FI4 isn o_isIn, bI4⟩⟩
  have o_has : OM P w K mg base CX0 1 C "has_kind" ["self", "value", "kinds"] (spHas C) := ⟨⟨I1, _, ⟨aI1, nI1⟩, kI1, ok_has FI1 T B, bI1⟩⟩
  have o_lenOf : OM P w K mg base CX0 2 C "length_of" ["self", "array"] (spLenOf C) := ⟨⟨I2, _, ⟨aI2, nI2⟩, kI2, ok_lenOf FI2 T o_has, bI2⟩⟩
  have o_str : OM P w K mg base CX0 3 C "__str__" ["self"] (spStr C) := ⟨⟨I8, _, ⟨aI8, nI8⟩, kI8, ok_str FI8 T atx wtx, bI8⟩⟩
  have o_eq : OM P w K mg base CX0 1 C "__eq__" ["self", "other"] (spEq C) := ⟨⟨I7, _, ⟨aI7, nI7⟩, kI7, ok_eq FI7 T S B, bI7⟩⟩
  have mkf : MkF P w K mg base C CI := ⟨gF, I0, _, ⟨cMk, aI0, nI0, cKp⟩, ok_init FI0 T MP fof lens, bI0⟩
  have frame : Fnc P w K mg base CX0 7 "_law_frame" ["_law_parts_here"] (spFrame C) := ⟨⟨f14, _, ok_frame F14 mkf, b14, g14, F14.kp⟩⟩
  have met : Fnc P w K mg base CX0 7 "_law_met" ["_law_parts_here"] (spMet C) := ⟨⟨f18, _, ok_met F18 mkf gI xEx, b18, g18, F18.kp⟩⟩
  have q0 : Prp P w K mg base C "arrays" (getSp C "_arrays") := ⟨⟨p0, G0, _, ⟨aP0, sP0, tP0, ⟨_, rP0⟩⟩, ok_get0 FG0 T, bG0⟩⟩
  have q1 : Prp P w K mg base C "positions" (getSp C "_positions") := ⟨⟨p1, G1, _, ⟨aP1, sP1, tP1, ⟨_, rP1⟩⟩, ok_get1 FG1 T, bG1⟩⟩
  have q2 : Prp P w K mg base C "amounts" (getSp C "_amounts") := ⟨⟨p2, G2, _, ⟨aP2, sP2, tP2, ⟨_, rP2⟩⟩, ok_get2 FG2 T, bG2⟩⟩
  have q3 : Prp P w K mg base C "lengths" (getSp C "_lengths") := ⟨⟨p3, G3, _, ⟨aP3, sP3, tP3, ⟨_, rP3⟩⟩, ok_get3 FG3 T, bG3⟩⟩
  have tf : TF P w K mg base C := ⟨T, B, m_repr, lens2, allOf, q0, q1, q2, q3, o_kind, o_fresh, o_lenOf, o_isIn, o_len, o_str⟩
  have told : FncG P w K mg base 6 "_law_is_told" ["_law_frame_here", "_law_parts_here"] (spTold C) := ⟨⟨f19, _, ok_told F19 tf, b19, g19, F19.kp⟩⟩
  have near : Fnc P w K mg base CX0 4 "_law_near" ["_law_creel_here", "_law_parts_here"] spNear := ⟨⟨f20, _, ok_near F20 ⟨B, fish, one, allOf⟩, b20, g20, F20.kp⟩⟩
  have rg : RG P w K mg base C := ⟨B, m_repr, pts, near, lparts, met, frame, told, o_eq, iHm, iNe, iNc, iNl⟩
  have right : FncG P w K mg base 8 "_law_right" ["_law_creel_here"] spRight := ⟨⟨f21, _, ok_right F21 rg, b21, g21, F21.kp⟩⟩
  exact ok_law F22 ⟨T, B, m_max, m_min, m_enumerate, creel, right, met, o_len⟩
end K01

open PySem PySem.W PyProof.Rows
set_option maxRecDepth 100000 in
set_option maxHeartbeats 0 in
theorem PySem.Challenge.cw_lentcells_k01_frames_told_and_judged_holds : PySem.Challenge.rw_lentcells_k01_frames_told_and_judged.Holds := by
  w_on; o_law; k_head; (case hw => w_witness2)
  k_fill
  refine K01.walk (l := PySem.Challenge.rw_lentcells_k01_frames_told_and_judged) rfl rfl (fun w h Y => PySem.W.kIn_of Y) ?F
  case F =>
    intro w mg fa h KX G hmg
    refine' K01.all_mk KX G hmg ?aC ?aCI ?af0 ?lf0 ?cf0 ?kf0 ?af1 ?lf1 ?cf1 ?kf1 ?af2 ?lf2 ?cf2 ?kf2 ?af3 ?lf3 ?cf3 ?kf3 ?af4 ?lf4 ?cf4 ?kf4 ?af5 ?lf5 ?cf5 ?kf5 ?af6 ?lf6 ?cf6 ?kf6 ?af7 ?lf7 ?cf7 ?kf7 ?af8 ?lf8 ?cf8 ?kf8 ?af9 ?lf9 ?cf9 ?kf9 ?af10 ?lf10 ?cf10 ?kf10 ?af11 ?lf11 ?cf11 ?kf11 ?af12 ?lf12 ?cf12 ?kf12 ?af13 ?lf13 ?cf13 ?kf13 ?af14 ?lf14 ?cf14 ?kf14 ?af15 ?lf15 ?cf15 ?kf15 ?af16 ?lf16 ?cf16 ?kf16 ?af17 ?lf17 ?cf17 ?kf17 ?af18 ?lf18 ?cf18 ?kf18 ?af19 ?lf19 ?cf19 ?kf19 ?af20 ?lf20 ?cf20 ?kf20 ?af21 ?lf21 ?cf21 ?kf21 ?af22 ?lf22 ?cf22 ?kf22 ?aI0 ?lI0 ?cI0 ?kI0 ?nI0 ?aI1 ?lI1 ?cI1 ?kI1 ?nI1 ?aI2 ?lI2 ?cI2 ?kI2 ?nI2 ?aI3 ?lI3 ?cI3 ?kI3 ?nI3 ?aI4 ?lI4 ?cI4 ?kI4 ?nI4 ?aI5 ?lI5 ?cI5 ?kI5 ?nI5 ?aI6 ?lI6 ?cI6 ?kI6 ?nI6 ?aI7 ?lI7 ?cI7 ?kI7 ?nI7 ?aI8 ?lI8 ?cI8 ?kI8 ?nI8 ?aP0 ?sP0 ?tP0 ?rP0 ?lG0 ?cG0 ?kG0 ?aP1 ?sP1 ?tP1 ?rP1 ?lG1 ?cG1 ?kG1 ?aP2 ?sP2 ?tP2 ?rP2 ?lG2 ?cG2 ?kG2 ?aP3 ?sP3 ?tP3 ?rP3 ?lG3 ?cG3 ?kG3 ?cPg ?cHd ?cPo ?cSa ?cNo ?cMk ?cKp ?xOv ?xKp ?xBe ?xTy ?xEx ?iHa ?iHn ?iHt ?iHm ?iKt ?iKl ?iNe ?iNc ?iNl ?aL ?aM ?aA ?aP ?aV ?z_isinstance ?z_str ?z_tuple ?z_len ?z_all ?z_set ?z_int ?z_list ?z_range ?z_min ?z_max ?z_abs ?z_repr ?z_enumerate
    (case aC => k_is)
    (case aCI => k_is)
    (case af0 => k_is)
    (case lf0 => k_is)
    (case cf0 => k_is)
    (case kf0 => k_is)
    (case af1 => k_is)
    (case lf1 => k_is)
    (case cf1 => k_is)
    (case kf1 => k_is)
    (case af2 => k_is)
    (case lf2 => k_is)
    (case cf2 => k_is)
    (case kf2 => k_is)
    (case af3 => k_is)
    (case lf3 => k_is)
    (case cf3 => k_is)
    (case kf3 => k_is)
    (case af4 => k_is)
    (case lf4 => k_is)
    (case cf4 => k_is)
    (case kf4 => k_is)
    (case af5 => k_is)
    (case lf5 => k_is)
    (case cf5 => k_is)
    (case kf5 => k_is)
    (case af6 => k_is)
    (case lf6 => k_is)
    (case cf6 => k_is)
    (case kf6 => k_is)
    (case af7 => k_is)
    (case lf7 => k_is)
    (case cf7 => k_is)
    (case kf7 => k_is)
    (case af8 => k_is)
    (case lf8 => k_is)
    (case cf8 => k_is)
    (case kf8 => k_is)
    (case af9 => k_is)
    (case lf9 => k_is)
    (case cf9 => k_is)
    (case kf9 => k_is)
    (case af10 => k_is)
    (case lf10 => k_is)
    (case cf10 => k_is)
    (case kf10 => k_is)
    (case af11 => k_is)
    (case lf11 => k_is)
    (case cf11 => k_is)
    (case kf11 => k_is)
    (case af12 => k_is)
    (case lf12 => k_is)
    (case cf12 => k_is)
    (case kf12 => k_is)
    (case af13 => k_is)
    (case lf13 => k_is)
    (case cf13 => k_is)
    (case kf13 => k_is)
    (case af14 => k_is)
    (case lf14 => k_is)
    (case cf14 => k_is)
    (case kf14 => k_is)
    (case af15 => k_is)
    (case lf15 => k_is)
    (case cf15 => k_is)
    (case kf15 => k_is)
    (case af16 => k_is)
    (case lf16 => k_is)
    (case cf16 => k_is)
    (case kf16 => k_is)
    (case af17 => k_is)
    (case lf17 => k_is)
    (case cf17 => k_is)
    (case kf17 => k_is)
    (case af18 => k_is)
    (case lf18 => k_is)
    (case cf18 => k_is)
    (case kf18 => k_is)
    (case af19 => k_is)
    (case lf19 => k_is)
    (case cf19 => k_is)
    (case kf19 => k_is)
    (case af20 => k_is)
    (case lf20 => k_is)
    (case cf20 => k_is)
    (case kf20 => k_is)
    (case af21 => k_is)
    (case lf21 => k_is)
    (case cf21 => k_is)
    (case kf21 => k_is)
    (case af22 => k_is)
    (case lf22 => k_is)
    (case cf22 => k_is)
    (case kf22 => k_is)
    (case aI0 => k_is)
    (case lI0 => k_is)
    (case cI0 => k_is)
    (case kI0 => k_is)
    (case nI0 => k_is)
    (case aI1 => k_is)
    (case lI1 => k_is)
    (case cI1 => k_is)
    (case kI1 => k_is)
    (case nI1 => k_is)
    (case aI2 => k_is)
    (case lI2 => k_is)
    (case cI2 => k_is)
    (case kI2 => k_is)
    (case nI2 => k_is)
    (case aI3 => k_is)
    (case lI3 => k_is)
    (case cI3 => k_is)
    (case kI3 => k_is)
    (case nI3 => k_is)
    (case aI4 => k_is)
    (case lI4 => k_is)
    (case cI4 => k_is)
    (case kI4 => k_is)
    (case nI4 => k_is)
    (case aI5 => k_is)
    (case lI5 => k_is)
    (case cI5 => k_is)
    (case kI5 => k_is)
    (case nI5 => k_is)
    (case aI6 => k_is)
    (case lI6 => k_is)
    (case cI6 => k_is)
    (case kI6 => k_is)
    (case nI6 => k_is)
    (case aI7 => k_is)
    (case lI7 => k_is)
    (case cI7 => k_is)
    (case kI7 => k_is)
    (case nI7 => k_is)
    (case aI8 => k_is)
    (case lI8 => k_is)
    (case cI8 => k_is)
    (case kI8 => k_is)
    (case nI8 => k_is)
    (case aP0 => k_is)
    (case sP0 => k_is)
    (case tP0 => k_is)
    (case rP0 => k_is)
    (case lG0 => k_is)
    (case cG0 => k_is)
    (case kG0 => k_is)
    (case aP1 => k_is)
    (case sP1 => k_is)
    (case tP1 => k_is)
    (case rP1 => k_is)
    (case lG1 => k_is)
    (case cG1 => k_is)
    (case kG1 => k_is)
    (case aP2 => k_is)
    (case sP2 => k_is)
    (case tP2 => k_is)
    (case rP2 => k_is)
    (case lG2 => k_is)
    (case cG2 => k_is)
    (case kG2 => k_is)
    (case aP3 => k_is)
    (case sP3 => k_is)
    (case tP3 => k_is)
    (case rP3 => k_is)
    (case lG3 => k_is)
    (case cG3 => k_is)
    (case kG3 => k_is)
    (case cPg => kernel_rfl)
    (case cHd => kernel_rfl)
    (case cPo => kernel_rfl)
    (case cSa => k_is)
    (case cNo => kernel_rfl)
    (case cMk => kernel_rfl)
    (case cKp => k_is)
    (case xOv => kernel_rfl)
    (case xKp => k_is)
    (case xBe => k_is)
    (case xTy => k_is)
    (case xEx => kernel_rfl)
    (case iHa => k_is)
    (case iHn => k_is)
    (case iHt => k_is)
    (case iHm => k_is)
    (case iKt => kernel_rfl)
    (case iKl => kernel_rfl)
    (case iNe => k_is)
    (case iNc => kernel_rfl)
    (case iNl => kernel_rfl)
    (case aL => k_is)
    (case aM => k_is)
    (case aA => k_is)
    (case aP => k_is)
    (case aV => k_is)
    (case z_isinstance => k_is)
    (case z_str => k_is)
    (case z_tuple => k_is)
    (case z_len => k_is)
    (case z_all => k_is)
    (case z_set => k_is)
    (case z_int => k_is)
    (case z_list => k_is)
    (case z_range => k_is)
    (case z_min => k_is)
    (case z_max => k_is)
    (case z_abs => k_is)
    (case z_repr => k_is)
    (case z_enumerate => k_is)

