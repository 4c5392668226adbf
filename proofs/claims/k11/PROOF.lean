import PyProof.Rows.All
import Wide.All
import OpenK.AllK
import Wide.FinOn
import HandS.Head0
import HandS.Head1
import HandS.Head2
import HandS.HeadEnd
import HandS.HeadHook1
import HandS.HeadHook2
import HandS.Base
import HandS.Call
import HandS.Ends
import HandS.More
import HandS.Words
import HandS.WordsExc
import HandS.Defaults
import HandS.EndBits
import HandS.Codes
import KE.KeyNested
import HandS.Dict
import HandS.ExcOwn
import PyProof.DictRoadsH
import HandS.ForMost
import HandS.Iter
import HandS.Walk
import HandS.DictComp
import KE.KDictWalk
import PyProof.Rows.TupDisplay
import KE.KDictCopyH
import KE.KDictList
import PySem.Challenge.RW_lentcells_k11_near_rings_and_numbers
import KE.SortData
import KE.GoesMore
import HandS.Zip
import HandS.Star
import HandS.TupAny
import HandS.Style
import KE.KRevSl
import HandS.ListItems
import KE.KDictItemsList
import HandS.Lambda
import HandS.EndTab
import HandS.EndOwn
import KE.KStateDown
import HandS.BoundDict
import HandS.Conv
import HandS.DeepEq
import HandS.DictEq
import HandS.ExcCtx
import HandS.FStr
import HandS.IsInst
import HandS.MakeKwOnly
import HandS.New
import HandS.Property
import HandS.RaiseMore
import HandS.Set
import HandS.SetFor
import HandS.SlotsOwn
import HandS.Steps
import HandS.StrMore
import HandS.Strs
import HandS.Text
import HandS.TryOnly
import HandS.TupSets
import HandS.Wide
import HandS.WordsDict
import KE.KEqNest
import PyProof.CallStr
import PyProof.DictDisplay
import PyProof.DictMoreH
import PyProof.DictUpdate
import PyProof.EqKinds
import PyProof.ReprLen
import PyProof.ReprRoads
import PyProof.Rows.SetObj
import PyProof.StrBlockL
import PyProof.StrLaws
import PyProof.StrOps2
import PyProof.TupleCall
import PyProof.TupleOfSeq
set_option Elab.async false
set_option linter.all false
section
set_option maxRecDepth 100000
set_option maxHeartbeats 4000000
/-! a Hook of one's own: facts of the written part by one Bool, functions where one says -/
namespace KX
open PySem PySem.Spec PyProof.Rows L2
def fnA (K : PySem.W.Frag) (a : Addr) : He.FnW := match K.lookup a with
  | some ⟨_, _, .func fd, _⟩ => some (fd.name, fd.qualname, fd.params, fd.body, fd.scope, fd.globals, fd.closure, fd.builtins)
  | _ => none
/-- one def without defaults: where it stands, its name, qualified name, parameters, body, scope -/
structure DefA where
  at_ : PySem.W.Frag → Addr
  name : Str
  qual : Str
  st : Stmt
def DefA.val (d : DefA) : He.FnW := some (d.name, d.qual, defArgs d.st, .stmts (defBody d.st), defScope d.st, mainGlobals, [], builtinsNs)
def noneV : Value → Bool
  | .none => true
  | _ => false
def DefA.ok (K : PySem.W.Frag) (d : DefA) : Bool := PySem.W.keepIn K (.ref (d.at_ K)) && (match K.lookup (d.at_ K) with
  | some ⟨_, _, .func fd, _⟩ => PySem.W.codeIn K fd.code d.qual && noneV fd.defaults
  | _ => false)
def obsA (ex : PySem.W.Frag → Bool) (fn : List DefA) (K : PySem.W.Frag) : He.AlD := (ex K && fn.all fun d => d.ok K, fn.map fun d => fnA K (d.at_ K))
def valA (fn : List DefA) : He.AlD := (true, fn.map DefA.val)
def SaysA (ex : PySem.W.Frag → Bool) (fn : List DefA) (K : PySem.W.Frag) : Prop := obsA ex fn K = valA fn
def obsAG (n : Nat) (ex : PySem.W.Frag → Bool) (fn : List DefA) (g : Addr → Option Obj) : He.AlD := obsA ex fn (He.frG g (List.range n))
def hookA (n : Nat) (ex : PySem.W.Frag → Bool) (fn : List DefA) : PySem.W.Hook where
  α := He.AlD
  obs := fun s => obsAG n ex fn s.heap.get?
  val := fun _ => valA fn
  says := fun _ h => ∃ K : PySem.W.Frag, K.In h ∧ SaysA ex fn K
  of := fun _ _ e => ⟨_, He.frG_in, e⟩
  keeps := fun _ _ _ ⟨K, hK, c⟩ k => ⟨K, PySem.W.Frag.In.keeps hK k, c⟩
section
end
end KX
end
section
set_option maxRecDepth 100000
set_option maxHeartbeats 4000000
namespace K11
open PySem PySem.Spec PyProof.Rows L2
def topS (i : Nat) : Stmt := PySem.Challenge.pw_lentcells_k11_near_rings_and_numbers.main.body.getD i (.Pass ⟨0, 0, 0, 0⟩)
abbrev sIsName : Stmt := topS 11
abbrev sCreel : Stmt := topS 32
abbrev sFish : Stmt := topS 33
abbrev sOne : Stmt := topS 34
section
end
end K11
end
section
set_option autoImplicit false
set_option maxRecDepth 100000
set_option maxHeartbeats 4000000
/-! points and differences -/
namespace KX
open PySem PySem.Spec PyProof.Rows L2
section
end
end KX
namespace K11
open PySem PySem.Spec PyProof.Rows L2 KX
def lim : Int := 1000000000000000000000000000000000000000000000000000000000000
section
end
end K11
end
section
set_option autoImplicit false
set_option maxRecDepth 100000
set_option maxHeartbeats 4000000
/-! what is a point, a difference, differences: right ones -/
namespace K11
open PySem PySem.Spec PyProof.Rows L2 KX
abbrev sWhole : Stmt := topS 5
abbrev sIg : Stmt := topS 6
abbrev sNp : Stmt := topS 15
abbrev sWp : Stmt := topS 16
abbrev sPt : Stmt := topS 17
abbrev sDf : Stmt := topS 18
abbrev sAre : Stmt := topS 19
abbrev sChk : Stmt := topS 23
section
end
end K11
end
section
set_option autoImplicit false
set_option maxRecDepth 100000
set_option maxHeartbeats 4000000
/-! points_of -/
namespace K11
open PySem PySem.Spec PyProof.Rows L2 KX
section
end
abbrev sPo : Stmt := topS 20
section
end
end K11
end
section
set_option autoImplicit false
set_option maxRecDepth 100000
set_option maxHeartbeats 4000000
/-! relax -/
namespace K11
open PySem PySem.Spec PyProof.Rows L2 KX
section
end
abbrev sRx : Stmt := topS 24
section
end
end K11
end
section
set_option autoImplicit false
set_option maxRecDepth 100000
set_option maxHeartbeats 4000000
/-! settle -/
namespace K11
open PySem PySem.Spec PyProof.Rows L2 KX
abbrev sSt : Stmt := topS 25
section
end
end K11
end
section
set_option autoImplicit false
set_option maxRecDepth 100000
set_option maxHeartbeats 4000000
/-! fitting -/
namespace K11
open PySem PySem.Spec PyProof.Rows L2 KX
abbrev sFit : Stmt := topS 26
section
end
section
end
end K11
end
section
set_option autoImplicit false
set_option maxRecDepth 100000
set_option maxHeartbeats 4000000
/-! ring_through -/
namespace K11
open PySem PySem.Spec PyProof.Rows L2 KX
abbrev sRt : Stmt := topS 29
section
end
end K11
end
section
set_option autoImplicit false
set_option maxRecDepth 100000
set_option maxHeartbeats 4000000
/-! ring -/
namespace K11
open PySem PySem.Spec PyProof.Rows L2 KX
abbrev sRing : Stmt := topS 28
section
end
end K11
end
section
set_option autoImplicit false
set_option maxRecDepth 100000
set_option maxHeartbeats 4000000
/-! is_whole of any value, is_index, is_ring_of, is_ring -/
namespace K11
open PySem PySem.Spec PyProof.Rows L2 KX RZ StX
abbrev sIx : Stmt := topS 7
abbrev sRo : Stmt := topS 21
section
end
end K11
end
section
set_option autoImplicit false
set_option maxRecDepth 100000
set_option maxHeartbeats 4000000
/-! is_ring, _law_is_ring of any value -/
namespace K11
open PySem PySem.Spec PyProof.Rows L2 KX RZ StX
abbrev sIrg : Stmt := topS 30
section
end
end K11
end
section
set_option autoImplicit false
set_option maxRecDepth 100000
set_option maxHeartbeats 4000000
/-! _law_is_ring of any value -/
namespace K11
open PySem PySem.Spec PyProof.Rows L2 KX RZ StX
abbrev sIr : Stmt := topS 39
section
end
end K11
end
section
set_option autoImplicit false
set_option maxRecDepth 100000
set_option maxHeartbeats 4000000
/-! is_fitting of any value -/
namespace K11
open PySem PySem.Spec PyProof.Rows L2 KX RZ StX
abbrev sFtg : Stmt := topS 27
section
end
end K11
end
section
set_option autoImplicit false
set_option maxRecDepth 100000
set_option maxHeartbeats 4000000
/-! _law_points, _law_differences -/
namespace K11
open PySem PySem.Spec PyProof.Rows L2 KX
abbrev sPts : Stmt := topS 35
abbrev sDfs : Stmt := topS 36
section
end
end K11
end
section
set_option autoImplicit false
set_option maxRecDepth 100000
set_option maxHeartbeats 4000000
/-! _law_told_points -/
namespace K11
open PySem PySem.Spec PyProof.Rows L2 KX
abbrev sTp : Stmt := topS 37
section
end
end K11
end
section
set_option autoImplicit false
set_option maxRecDepth 100000
set_option maxHeartbeats 4000000
/-! _law_fits, _law_is_fitting of any value -/
namespace K11
open PySem PySem.Spec PyProof.Rows L2 KX RZ StX
abbrev sLf : Stmt := topS 38
abbrev sLif : Stmt := topS 40
section
end
end K11
end
section
set_option autoImplicit false
set_option maxRecDepth 100000
set_option maxHeartbeats 4000000
/-! _law_near_ring -/
namespace K11
open PySem PySem.Spec PyProof.Rows L2 KX RZ StX
abbrev sNr : Stmt := topS 42
section
end
section
end
end K11
end
section
set_option autoImplicit false
set_option maxRecDepth 100000
set_option maxHeartbeats 4000000
/-! _law_near_numbers -/
namespace K11
open PySem PySem.Spec PyProof.Rows L2 KX RZ StX
abbrev sNn : Stmt := topS 41
section
end
end K11
end
section
set_option autoImplicit false
set_option maxRecDepth 100000
set_option maxHeartbeats 4000000
/-! _law_right -/
namespace K11
open PySem PySem.Spec PyProof.Rows L2 KX RZ StX
abbrev sRi : Stmt := topS 43
section
end
end K11
end
section
set_option autoImplicit false
set_option maxRecDepth 100000
set_option maxHeartbeats 4000000
/-! law -/
namespace K11
open PySem PySem.Spec PyProof.Rows L2 KX RZ StX
abbrev sLaw : Stmt := topS 44
section
end
end K11
end
section
set_option maxRecDepth 100000
set_option maxHeartbeats 0
namespace K11
open PySem PySem.Spec PyProof.Rows L2 KX
def dd0 : DefA := ⟨fun K => (He.ga K "is_whole"), "is_whole", "is_whole", sWhole⟩
def dd1 : DefA := ⟨fun K => (He.ga K "is_integer"), "is_integer", "is_integer", sIg⟩
def dd2 : DefA := ⟨fun K => (He.ga K "is_index"), "is_index", "is_index", sIx⟩
def dd3 : DefA := ⟨fun K => (He.ga K "is_name"), "is_name", "is_name", sIsName⟩
def dd4 : DefA := ⟨fun K => (He.ga K "is_new_position"), "is_new_position", "is_new_position", sNp⟩
def dd5 : DefA := ⟨fun K => (He.ga K "is_word_point"), "is_word_point", "is_word_point", sWp⟩
def dd6 : DefA := ⟨fun K => (He.ga K "is_point"), "is_point", "is_point", sPt⟩
def dd7 : DefA := ⟨fun K => (He.ga K "is_difference"), "is_difference", "is_difference", sDf⟩
def dd8 : DefA := ⟨fun K => (He.ga K "are_differences"), "are_differences", "are_differences", sAre⟩
def dd9 : DefA := ⟨fun K => (He.ga K "points_of"), "points_of", "points_of", sPo⟩
def dd10 : DefA := ⟨fun K => (He.ga K "is_ring_of"), "is_ring_of", "is_ring_of", sRo⟩
def dd11 : DefA := ⟨fun K => (He.ga K "check_differences"), "check_differences", "check_differences", sChk⟩
def dd12 : DefA := ⟨fun K => (He.ga K "relax"), "relax", "relax", sRx⟩
def dd13 : DefA := ⟨fun K => (He.ga K "settle"), "settle", "settle", sSt⟩
def dd14 : DefA := ⟨fun K => (He.ga K "fitting"), "fitting", "fitting", sFit⟩
def dd15 : DefA := ⟨fun K => (He.ga K "is_fitting"), "is_fitting", "is_fitting", sFtg⟩
def dd16 : DefA := ⟨fun K => (He.ga K "ring"), "ring", "ring", sRing⟩
def dd17 : DefA := ⟨fun K => (He.ga K "ring_through"), "ring_through", "ring_through", sRt⟩
def dd18 : DefA := ⟨fun K => (He.ga K "is_ring"), "is_ring", "is_ring", sIrg⟩
def dd19 : DefA := ⟨fun K => (He.ga K "_law_tapped"), "_law_tapped", "_law_tapped", sCreel⟩
def dd20 : DefA := ⟨fun K => (He.ga K "_law_tap"), "_law_tap", "_law_tap", sFish⟩
def dd21 : DefA := ⟨fun K => (He.ga K "_law_pick"), "_law_pick", "_law_pick", sOne⟩
def dd22 : DefA := ⟨fun K => (He.ga K "_law_points"), "_law_points", "_law_points", sPts⟩
def dd23 : DefA := ⟨fun K => (He.ga K "_law_differences"), "_law_differences", "_law_differences", sDfs⟩
def dd24 : DefA := ⟨fun K => (He.ga K "_law_told_points"), "_law_told_points", "_law_told_points", sTp⟩
def dd25 : DefA := ⟨fun K => (He.ga K "_law_fits"), "_law_fits", "_law_fits", sLf⟩
def dd26 : DefA := ⟨fun K => (He.ga K "_law_is_ring"), "_law_is_ring", "_law_is_ring", sIr⟩
def dd27 : DefA := ⟨fun K => (He.ga K "_law_is_fitting"), "_law_is_fitting", "_law_is_fitting", sLif⟩
def dd28 : DefA := ⟨fun K => (He.ga K "_law_near_numbers"), "_law_near_numbers", "_law_near_numbers", sNn⟩
def dd29 : DefA := ⟨fun K => (He.ga K "_law_near_ring"), "_law_near_ring", "_law_near_ring", sNr⟩
def dd30 : DefA := ⟨fun K => (He.ga K "_law_right"), "_law_right", "_law_right", sRi⟩
def dd31 : DefA := ⟨fun K => (He.ga K "law"), "law", "law", sLaw⟩
def fn0 : List DefA := [dd0, dd1, dd2, dd3, dd4, dd5, dd6, dd7, dd8, dd9, dd10, dd11, dd12, dd13, dd14, dd15, dd16, dd17, dd18, dd19, dd20, dd21, dd22, dd23, dd24, dd25, dd26, dd27]
def fn1 : List DefA := [dd28, dd29, dd30, dd31]
def fnL : List DefA := fn0 ++ fn1
def ex0 : List (PySem.W.Frag → Bool) := [fun K => decide (PySem.W.nsIn K mainGlobals "is_whole" = some (some (.ref (He.ga K "is_whole")))),
  fun K => decide (PySem.W.nsIn K mainGlobals "is_integer" = some (some (.ref (He.ga K "is_integer")))),
  fun K => decide (PySem.W.nsIn K mainGlobals "is_index" = some (some (.ref (He.ga K "is_index")))),
  fun K => decide (PySem.W.nsIn K mainGlobals "is_name" = some (some (.ref (He.ga K "is_name")))),
  fun K => decide (PySem.W.nsIn K mainGlobals "is_new_position" = some (some (.ref (He.ga K "is_new_position")))),
  fun K => decide (PySem.W.nsIn K mainGlobals "is_word_point" = some (some (.ref (He.ga K "is_word_point")))),
  fun K => decide (PySem.W.nsIn K mainGlobals "is_point" = some (some (.ref (He.ga K "is_point")))),
  fun K => decide (PySem.W.nsIn K mainGlobals "is_difference" = some (some (.ref (He.ga K "is_difference")))),
  fun K => decide (PySem.W.nsIn K mainGlobals "are_differences" = some (some (.ref (He.ga K "are_differences")))),
  fun K => decide (PySem.W.nsIn K mainGlobals "points_of" = some (some (.ref (He.ga K "points_of")))),
  fun K => decide (PySem.W.nsIn K mainGlobals "is_ring_of" = some (some (.ref (He.ga K "is_ring_of")))),
  fun K => decide (PySem.W.nsIn K mainGlobals "check_differences" = some (some (.ref (He.ga K "check_differences")))),
  fun K => decide (PySem.W.nsIn K mainGlobals "relax" = some (some (.ref (He.ga K "relax")))),
  fun K => decide (PySem.W.nsIn K mainGlobals "settle" = some (some (.ref (He.ga K "settle")))),
  fun K => decide (PySem.W.nsIn K mainGlobals "fitting" = some (some (.ref (He.ga K "fitting")))),
  fun K => decide (PySem.W.nsIn K mainGlobals "is_fitting" = some (some (.ref (He.ga K "is_fitting")))),
  fun K => decide (PySem.W.nsIn K mainGlobals "ring" = some (some (.ref (He.ga K "ring")))),
  fun K => decide (PySem.W.nsIn K mainGlobals "ring_through" = some (some (.ref (He.ga K "ring_through")))),
  fun K => decide (PySem.W.nsIn K mainGlobals "is_ring" = some (some (.ref (He.ga K "is_ring")))),
  fun K => decide (PySem.W.nsIn K mainGlobals "_law_tapped" = some (some (.ref (He.ga K "_law_tapped")))),
  fun K => decide (PySem.W.nsIn K mainGlobals "_law_tap" = some (some (.ref (He.ga K "_law_tap")))),
  fun K => decide (PySem.W.nsIn K mainGlobals "_law_pick" = some (some (.ref (He.ga K "_law_pick")))),
  fun K => decide (PySem.W.nsIn K mainGlobals "_law_points" = some (some (.ref (He.ga K "_law_points")))),
  fun K => decide (PySem.W.nsIn K mainGlobals "_law_differences" = some (some (.ref (He.ga K "_law_differences")))),
  fun K => decide (PySem.W.nsIn K mainGlobals "_law_told_points" = some (some (.ref (He.ga K "_law_told_points")))),
  fun K => decide (PySem.W.nsIn K mainGlobals "_law_fits" = some (some (.ref (He.ga K "_law_fits")))),
  fun K => decide (PySem.W.nsIn K mainGlobals "_law_is_ring" = some (some (.ref (He.ga K "_law_is_ring")))),
  fun K => decide (PySem.W.nsIn K mainGlobals "_law_is_fitting" = some (some (.ref (He.ga K "_law_is_fitting")))),
  fun K => decide (PySem.W.nsIn K mainGlobals "_law_near_numbers" = some (some (.ref (He.ga K "_law_near_numbers")))),
  fun K => decide (PySem.W.nsIn K mainGlobals "_law_near_ring" = some (some (.ref (He.ga K "_law_near_ring"))))]
def ex1 : List (PySem.W.Frag → Bool) := [fun K => decide (PySem.W.nsIn K mainGlobals "_law_right" = some (some (.ref (He.ga K "_law_right")))),
  fun K => decide (PySem.W.nsIn K mainGlobals "law" = some (some (.ref (He.ga K "law")))),
  fun K => (He.Fa.str "LETTERS" "abcdefghijklmnopqrstuvwxyz").ok K,
  fun K => (He.Fa.int "MAX_LETTERS" 8).ok K,
  fun K => (He.Fa.int "LIMIT" lim).ok K,
  fun K => (He.Fa.str "DIGITS" "0123456789").ok K,
  fun K => (He.Fa.int "MAX_DIFFERENCES" 60).ok K,
  fun K => decide (PySem.W.nsIn K mainGlobals "isinstance" = some none),
  fun K => decide (PySem.W.nsIn K mainGlobals "str" = some none),
  fun K => decide (PySem.W.nsIn K mainGlobals "tuple" = some none),
  fun K => decide (PySem.W.nsIn K mainGlobals "len" = some none),
  fun K => decide (PySem.W.nsIn K mainGlobals "all" = some none),
  fun K => decide (PySem.W.nsIn K mainGlobals "set" = some none),
  fun K => decide (PySem.W.nsIn K mainGlobals "int" = some none),
  fun K => decide (PySem.W.nsIn K mainGlobals "list" = some none),
  fun K => decide (PySem.W.nsIn K mainGlobals "range" = some none),
  fun K => decide (PySem.W.nsIn K mainGlobals "min" = some none),
  fun K => decide (PySem.W.nsIn K mainGlobals "max" = some none),
  fun K => decide (PySem.W.nsIn K mainGlobals "abs" = some none),
  fun K => decide (PySem.W.nsIn K mainGlobals "bool" = some none),
  fun K => decide (PySem.W.nsIn K mainGlobals "sorted" = some none),
  fun K => decide (PySem.W.nsIn K mainGlobals "dict" = some none),
  fun K => decide (PySem.W.nsIn K mainGlobals "sum" = some none),
  fun K => decide (PySem.W.nsIn K mainGlobals "enumerate" = some none),
  fun K => decide (PySem.W.nsIn K mainGlobals "zip" = some none),
  fun K => decide (PySem.W.nsIn K mainGlobals "repr" = some none)]
def exL : List (PySem.W.Frag → Bool) := ex0 ++ ex1
def exB (K : PySem.W.Frag) : Bool := exL.all fun f => f K
abbrev RR : PySem.W.OpenRow := PySem.W.OpenLaw.row PySem.Challenge.rw_lentcells_k11_near_rings_and_numbers
def names0 : List PySem.Str := ["ClaimError", "InvalidOperation", "LIMIT", "is_whole", "is_integer", "is_index", "LETTERS", "MAX_LETTERS", "is_name", "MAX_DIFFERENCES", "DIGITS", "is_new_position", "is_word_point", "is_point", "is_difference", "are_differences", "points_of", "is_ring_of", "check_differences", "relax", "settle", "fitting", "is_fitting", "ring", "ring_through", "is_ring", "_law_tapped", "_law_tap", "_law_pick", "_law_points"]
def names1 : List PySem.Str := ["_law_differences", "_law_told_points", "_law_fits", "_law_is_ring", "_law_is_fitting", "_law_near_numbers", "_law_near_ring", "_law_right"]
def names : List PySem.Str := names0 ++ names1
abbrev hk : PySem.W.Hook := hookA 1011 exB fnL
def ob (s : PySem.W.SharedT) : He.AlD := obsAG 1011 exB fnL (HandSHeadRun.getT s)
end K11
end
section
set_option maxRecDepth 100000
set_option maxHeartbeats 0
namespace K11
open PySem PySem.Spec PyProof.Rows L2 KX
theorem run (w : World) : HandSHeadRun.RunEq RR (PySem.W.view RR.prog [44]) hk ob 12000 names w := by
  intro os
  kernel_rfl
end K11
end
section
set_option maxRecDepth 100000
set_option maxHeartbeats 4000000
/-! a Hook of one's own: facts of the written part by one Bool, functions where one says -/
namespace KX
open PySem PySem.Spec PyProof.Rows L2
theorem DefA.lk {K : PySem.W.Frag} {d : DefA} (e : fnA K (d.at_ K) = d.val) (c : d.ok K = true) : ∃ (oc : Value) (od : Option Addr) (kV dc pm : Value) (an : Option Addr) (cd ct : Value) (sl : Array (Option Value)),
    K.lookup (d.at_ K) = some ⟨oc, od, .func (PySem.W.fnOf d.name d.qual (defArgs d.st) (defBody d.st) (defScope d.st) .none kV dc pm an cd ct), sl⟩ ∧ PySem.W.codeIn K cd d.qual = true ∧ PySem.W.keepIn K (.ref (d.at_ K)) = true := by
  obtain ⟨kp, c2⟩ := He.ba c
  unfold fnA at e
  cases q : K.lookup (d.at_ K) with
  | none =>
    rw [q] at c2
    cases c2
  | some o =>
    obtain ⟨oc, od, dt, osl⟩ := o
    rw [q] at c2 e
    cases dt with
    | func fd =>
      obtain ⟨n1, n2, n3, n4, n5, n6, n7, n8, n9, n10, n11, n12, n13, n14, n15⟩ := fd
      have e2 : (some (n1, n2, n3, n4, n5, n6, n7, n15) : He.FnW) = some (d.name, d.qual, defArgs d.st, .stmts (defBody d.st), defScope d.st, mainGlobals, [], builtinsNs) := e
      simp only [Option.some.injEq, Prod.mk.injEq] at e2
      obtain ⟨h1, h2, h3, h4, h5, h6, h7, h8⟩ := e2
      subst h1 h2 h3 h4 h5 h6 h7 h8
      have c3 : (PySem.W.codeIn K n13 d.qual && noneV n8) = true := c2
      obtain ⟨k1, k2⟩ := He.ba c3
      have h8 : n8 = .none := by
        cases n8 with
        | none => rfl
        | _ => cases k2
      subst h8
      exact ⟨oc, od, n9, n10, n11, n12, n13, n14, osl, rfl, k1, kp⟩
    | _ => cases c2
theorem obsAG_eq {n : Nat} {ex : PySem.W.Frag → Bool} {fn : List DefA} {g : Addr → Option Obj} {s : Shared} (h : ∀ a, g a = s.heap.get? a) : obsAG n ex fn g = (hookA n ex fn).obs s := by
  have e : g = s.heap.get? := funext h
  rw [e] <;> rfl
section
variable {ex : PySem.W.Frag → Bool} {fn : List DefA} {K : PySem.W.Frag}
theorem SaysA.holds (c : SaysA ex fn K) : ex K = true := (He.ba (show (ex K && fn.all fun d => d.ok K) = true from congrArg (fun z : He.AlD => z.1) c)).1
theorem SaysA.def_ (c : SaysA ex fn K) (i : Nat) {d : DefA} (h : fn[i]? = some d := by rfl) : ∃ (oc : Value) (od : Option Addr) (kV dc pm : Value) (an : Option Addr) (cd ct : Value) (sl : Array (Option Value)),
    K.lookup (d.at_ K) = some ⟨oc, od, .func (PySem.W.fnOf d.name d.qual (defArgs d.st) (defBody d.st) (defScope d.st) .none kV dc pm an cd ct), sl⟩ ∧ PySem.W.codeIn K cd d.qual = true ∧ PySem.W.keepIn K (.ref (d.at_ K)) = true := by
  have c2 := (He.ba (show (ex K && fn.all fun d => d.ok K) = true from congrArg (fun z : He.AlD => z.1) c)).2
  have e : fn.map (fun d => fnA K (d.at_ K)) = fn.map DefA.val := congrArg (fun z : He.AlD => z.2) c
  have e2 : (fn.map fun d => fnA K (d.at_ K))[i]? = (fn.map DefA.val)[i]? := by rw [e]
  rw [List.getElem?_map, List.getElem?_map, h] at e2
  exact DefA.lk (Option.some.inj e2) (List.all_eq_true.mp c2 d (List.mem_of_getElem? h))
end
theorem SaysA.fun_ {ex : PySem.W.Frag → Bool} {fn : List DefA} {K : PySem.W.Frag} (c : SaysA ex fn K) (i : Nat) {d : DefA} (h : fn[i]? = some d) : ∃ fd, L2.Fun K d.name d.qual d.st (d.at_ K) fd := by
  obtain ⟨_, _, _, _, _, _, _, _, _, lf, cf, kf⟩ := c.def_ i h
  exact ⟨_, L2.fun_mk lf cf kf⟩
end KX
end
section
set_option autoImplicit false
set_option maxRecDepth 100000
set_option maxHeartbeats 4000000
/-! dicts with texts, numbers and tuples of such side by side as keys: how a key is found -/
namespace KX
open PySem
/-- entries and their keys -/
structure MixOk (w : World) (h : Heap) (es : Array DictEntry) (ks : List NestedKey) : Prop where
  sz : es.size = ks.length
  at_ : ∀ (i : Nat) (e : DictEntry), es[i]? = some e → ∃ k, ks[i]? = some k ∧ NestedIs h k e.key ∧ k.depth ≤ 8 ∧ e.hash = k.hash w
  nd : ks.Nodup
theorem epsame (ep : Nat) : ¬ (ep != ep) = true := by simp
theorem mem_places {n : Nat} {f : Nat → Option Int} {x : Int} {j : Nat} : j ∈ placesWithHash n f x ↔ j < n ∧ f j = some x := by
  rw [placesWithHash, List.mem_filter, List.mem_range]
  exact and_congr_right fun _ => beq_iff_eq
theorem nd_places {n : Nat} {f : Nat → Option Int} {x : Int} : (placesWithHash n f x).Nodup := by
  rw [placesWithHash]
  exact List.Sublist.nodup List.filter_sublist List.nodup_range
section
variable {P : Program} {w : World} {A : Around} {E : Value → Shared → Prop} {s : Shared}
theorem MixOk.place {h : Heap} {es : Array DictEntry} {ks : List NestedKey} {k : NestedKey} {j : Nat} (m : MixOk w h es ks) (e : ks[j]? = some k) : j ∈ placesWithHash es.size (fun i => es[i]?.map (·.hash)) (k.hash w) := by
  have lt := (List.getElem?_eq_some_iff.mp e).1
  have lt2 : j < es.size := by rw [m.sz]; exact lt
  have ee : es[j]? = some es[j] := Array.getElem?_eq_getElem lt2
  obtain ⟨y, e1, _, _, hh⟩ := m.at_ j _ ee
  rw [e] at e1
  cases e1
  refine mem_places.mpr ⟨lt2, ?_⟩
  show Option.map _ es[j]? = _
  rw [ee]
  exact congrArg some hh
theorem MixOk.one {h : Heap} {es : Array DictEntry} {ks : List NestedKey} {k : NestedKey} {i j : Nat} (m : MixOk w h es ks) (e1 : ks[i]? = some k) (e2 : ks[j]? = some k) : i = j :=
  (List.getElem?_inj (List.getElem?_eq_some_iff.mp e1).1 m.nd).mp (e1.trans e2.symm)
theorem MixOk.there {h : Heap} {es : Array DictEntry} {ks : List NestedKey} {x : Int} {j : Nat} (m : MixOk w h es ks) (hj : j ∈ placesWithHash es.size (fun i => es[i]?.map (·.hash)) x) :
    ∃ e k, es[j]? = some e ∧ ks[j]? = some k ∧ NestedIs h k e.key ∧ k.depth ≤ 8 ∧ e.hash = x := by
  obtain ⟨lt, e1⟩ := mem_places.mp hj
  have ee : es[j]? = some es[j] := Array.getElem?_eq_getElem lt
  have e1 : Option.map _ es[j]? = some x := e1
  rw [ee] at e1
  obtain ⟨k, hk, is, dp, _⟩ := m.at_ j _ ee
  exact ⟨_, k, ee, hk, is, dp, Option.some.inj e1⟩
theorem mix_eq {x y : NestedKey} {u v : Value} {Q : Bool → Shared → Prop} (room : A.units + 8 < cLine) (hx : NestedIs s.heap x u) (dx : x.depth ≤ 8) (hy : NestedIs s.heap y v) (h : Q (decide (x = y)) s) : wpAny (model P w) A (eqBool u v) Q E s :=
  eqAt_key x y A s u v hx hy (by omega) _ _ _ _ (by rw [← NestedKey.decide_eq]; exact h)
theorem mix_plain {d : Addr} {o : Obj} {es : Array DictEntry} {ep : Nat} {ks : List NestedKey} {k : NestedKey} {key : Value} {Q : Option Nat → Shared → Prop} (room : A.units + 8 < cLine) (hk : NestedIs s.heap k key)
    (ho : s.heap.get? d = some o) (hd : o.data = .dict es ep) (m : MixOk w s.heap es ks)
    (no : (∀ j : Nat, ks[j]? ≠ some k) → Q none s) (yes : ∀ j : Nat, ks[j]? = some k → Q (some j) s) :
    wpAny (model P w) A (dictWalkPlain d key (k.hash w) es (placesWithHash es.size (fun i => es[i]?.map (·.hash)) (k.hash w))) Q E s := by
  unfold dictWalkPlain
  refine wpAny_bind ?_
  refine wpAny_forIn_list _ (fun todo b s' => s' = s ∧ b = (none, ()) ∧ ∃ done, done ++ todo = placesWithHash es.size (fun i => es[i]?.map (·.hash)) (k.hash w) ∧ ∀ j ∈ done, ks[j]? ≠ some k) _ ?_ ?_ _ _ ⟨rfl, rfl, [], rfl, fun j hj => nomatch hj⟩
  · rintro j todo b s' ⟨rfl, rfl, done, split, none_yet⟩
    have hj : j ∈ placesWithHash es.size (fun i => es[i]?.map (·.hash)) (k.hash w) := by rw [← split]; exact List.mem_append_right _ List.mem_cons_self
    obtain ⟨e, y, ee, ey, is, dp, eh⟩ := m.there hj
    simp only [ee, eh, beq_self_eq_true, if_true]
    refine wpAny_bind (wpAny_dictEpoch ho hd (wpAny_bind (mix_eq room is dp hk (wpAny_bind (wpAny_dictEpoch ho hd ?_)))))
    rw [if_neg (epsame ep)]
    by_cases same : y = k
    · rw [decide_eq_true same]
      exact wpAny_bind (wpAny_rule (wpAny_pure (wpAny_pure (yes j (by rw [ey, same])))))
    · rw [decide_eq_false same]
      refine wpAny_bind (wpAny_rule (wpAny_pure ⟨rfl, rfl, done ++ [j], by rw [List.append_assoc]; exact split, fun i hi => ?_⟩))
      rcases List.mem_append.mp hi with hi | hi
      · exact none_yet i hi
      · rw [List.mem_singleton] at hi
        rw [hi, ey]
        exact fun q => same (Option.some.inj q)
  · rintro b s' ⟨rfl, rfl, done, split, none_yet⟩
    rw [List.append_nil] at split
    exact wpAny_pure (no fun j e => none_yet j (by rw [split]; exact m.place e) e)
theorem mix_quiet {key : Value} {k : NestedKey} {kept : List Value} {Q : Bool → Shared → Prop} (hk : NestedIs s.heap k key) (dk : k.depth ≤ 8) (hs : ∀ v ∈ kept, ∃ y, NestedIs s.heap y v ∧ y.depth ≤ 8) (h : Q false s) : wpAny (model P w) A (tableMayTell key kept) Q E s := by
  unfold tableMayTell
  split
  · exact wpAny_pure h
  refine wpAny_bind (quiet_key k key 8 s hk dk A E _ ?_)
  rw [if_neg (by decide)]
  refine wpAny_bind ?_
  refine wpAny_forIn_list _ (fun todo b s' => s' = s ∧ b = (none, ()) ∧ ∀ v ∈ todo, ∃ y, NestedIs s.heap y v ∧ y.depth ≤ 8) _ ?_ ?_ _ _ ⟨rfl, rfl, hs⟩
  · rintro v todo b s' ⟨rfl, rfl, all⟩
    obtain ⟨y, is, dp⟩ := all v List.mem_cons_self
    refine wpAny_bind (quiet_key y v 8 s' is dp A E _ ?_)
    rw [if_neg (by decide)]
    exact wpAny_pure ⟨rfl, rfl, fun u hu => all u (List.mem_cons_of_mem _ hu)⟩
  · rintro b s' ⟨rfl, rfl, _⟩
    exact wpAny_pure h
/-- the place of a key in a dict -/
theorem mix_find {d : Addr} {o : Obj} {es : Array DictEntry} {ep : Nat} {ks : List NestedKey} {k : NestedKey} {key : Value} {Q : Option Nat → Shared → Prop} (room : A.units + 8 < cLine) (hk : NestedIs s.heap k key) (dk : k.depth ≤ 8)
    (ho : s.heap.get? d = some o) (hd : o.data = .dict es ep) (m : MixOk w s.heap es ks)
    (no : (∀ j : Nat, ks[j]? ≠ some k) → Q none s) (yes : ∀ j : Nat, ks[j]? = some k → Q (some j) s) :
    wpAny (model P w) A (dictFind d key (k.hash w)) Q E s := by
  have plain := mix_plain (P := P) (E := E) (A := A) room hk ho hd m no yes
  have kept : ∀ v ∈ (placesWithHash es.size (fun i => es[i]?.map (·.hash)) (k.hash w)).filterMap (fun i => es[i]?.map (·.key)), ∃ y, NestedIs s.heap y v ∧ y.depth ≤ 8 := fun v hv => by
    obtain ⟨j, hj, ev⟩ := List.mem_filterMap.mp hv
    obtain ⟨e, y, ee, _, is, dp, _⟩ := m.there hj
    have ev : Option.map _ es[j]? = some v := ev
    rw [ee] at ev
    cases ev
    exact ⟨y, is, dp⟩
  have byStr : ∀ x t, key = .str x t → (es.all fun e => isExactStrKey e.key) = true → wpAny (model P w) A (foundByValue d key es x) Q E s := fun x t ek hall => by
    subst ek
    obtain rfl : k = .text x := by cases hk; rfl
    have isT : ∀ (j : Nat) (e : DictEntry), es[j]? = some e → ∀ y, ks[j]? = some y → (e.key.isStr x = true ↔ y = .text x) := fun j e ee y ey => by
      obtain ⟨y', ey', is, _, _⟩ := m.at_ j e ee
      rw [ey] at ey'
      cases ey'
      have ex : isExactStrKey e.key = true := (Array.all_eq_true_iff_forall_mem.mp hall) e (Array.mem_of_getElem? ee)
      cases ekey : e.key with
      | str z t' =>
        rw [ekey] at is
        cases is
        show (z == x) = true ↔ _
        rw [beq_iff_eq]
        exact ⟨fun q => by rw [q], fun q => NestedKey.text.inj q⟩
      | _ => rw [ekey] at ex; cases ex
    unfold foundByValue
    cases hf : es.findIdx? (fun e => e.key.isStr x) with
    | none =>
      refine wpAny_pure (no fun j ej => ?_)
      have lt : j < es.size := by rw [m.sz]; exact (List.getElem?_eq_some_iff.mp ej).1
      have h1 := Array.findIdx?_eq_none_iff.mp hf es[j] (Array.getElem_mem lt)
      have h2 := (isT j _ (Array.getElem?_eq_getElem lt) _ ej).mpr rfl
      rw [h2] at h1
      cases h1
    | some i =>
      obtain ⟨lt, h1, _⟩ := Array.findIdx?_eq_some_iff_getElem.mp hf
      have ee : es[i]? = some es[i] := Array.getElem?_eq_getElem lt
      obtain ⟨y, ey, is, dp, _⟩ := m.at_ i _ ee
      have ey2 := (isT i _ ee y ey).mp h1
      simp only [ee]
      refine wpAny_bind (wpAny_dictEpoch ho hd (wpAny_bind (mix_eq room is dp hk (wpAny_bind (wpAny_dictEpoch ho hd ?_)))))
      rw [if_neg (show ¬ (ep != ep) = true by simp), decide_eq_true ey2]
      exact wpAny_bind (wpAny_rule (wpAny_pure (yes i (by rw [ey, ey2]))))
  unfold dictFind
  try with_reducible refine wpAny_holding ?_
  refine wpAny_bind (wpAny_dictEntries ho hd ?_)
  dsimp only
  by_cases hall : ((key :: (placesWithHash es.size (fun i => es[i]?.map (·.hash)) (k.hash w)).filterMap (fun i => es[i]?.map (·.key))).all carriedByValue) = true
  · rw [if_pos hall]
    split
    · rename_i x t
      split
      · rename_i hs
        exact byStr x t rfl hs
      · exact plain
    · exact plain
  rw [if_neg hall]
  have notS : ∀ x t, key = .str x t → ¬ (es.all fun e => isExactStrKey e.key) = true := fun x t ek hs => hall (by
    rw [List.all_cons, ek, Bool.and_eq_true]
    refine ⟨rfl, List.all_eq_true.mpr fun v hv => ?_⟩
    obtain ⟨j, hj, ev⟩ := List.mem_filterMap.mp hv
    obtain ⟨e, y, ee, _, is, dp, _⟩ := m.there hj
    have ev : Option.map _ es[j]? = some v := ev
    rw [ee] at ev
    cases ev
    have ex : isExactStrKey e.key = true := (Array.all_eq_true_iff_forall_mem.mp hs) e (Array.mem_of_getElem? ee)
    cases ekey : e.key with
    | ref b => rw [ekey] at ex; cases ex
    | _ =>
      show carriedByValue e.key = true
      rw [ekey]
      rfl)
  have notC : ∀ b, key = .ref b → ¬ (es.any fun e => e.key == Value.ref b && e.hash != k.hash w) = true := fun b ek hs => by
    rw [← Array.any_toList, List.any_eq_true] at hs
    obtain ⟨e, he, h2⟩ := hs
    rw [Bool.and_eq_true, beq_iff_eq] at h2
    obtain ⟨j, ej⟩ := List.mem_iff_getElem?.mp he
    rw [Array.getElem?_toList] at ej
    obtain ⟨y, _, is, _, eh⟩ := m.at_ j e ej
    rw [h2.1, ← ek] at is
    have := NestedIs.inj _ _ _ is hk
    rw [eh, this] at h2
    simp at h2
  clear byStr plain hall
  have nd := nd_places (n := es.size) (f := fun i => es[i]?.map (·.hash)) (x := k.hash w)
  have hk0 := hk
  obtain ⟨isK, hisK⟩ : ∃ p : Nat → Prop, ∀ j, p j ↔ ks[j]? = some k := ⟨_, fun _ => Iff.rfl⟩
  have no2 : (∀ j, ¬ isK j) → Q none s := fun h => no fun j e => h j ((hisK j).mpr e)
  have yes2 : ∀ j, isK j → Q (some j) s := fun j h => yes j ((hisK j).mp h)
  have in2 : ∀ j, isK j → j ∈ placesWithHash es.size (fun i => es[i]?.map (·.hash)) (k.hash w) := fun j h => m.place ((hisK j).mp h)
  have one : ∀ i j, isK i → isK j → i = j := fun i j h1 h2 => m.one ((hisK i).mp h1) ((hisK j).mp h2)
  have dec : ∀ (j : Nat) (y : NestedKey), ks[j]? = some y → (y = k ↔ isK j) := fun j y e => by
    rw [hisK j, e]
    exact ⟨fun q => by rw [q], fun q => Option.some.inj q⟩
  clear hisK no yes
  obtain ⟨len, hlen⟩ : ∃ n, ((placesWithHash es.size (fun i => es[i]?.map (·.hash)) (k.hash w)).filterMap (fun i => es[i]?.map (·.key))).length = n := ⟨_, rfl⟩
  by_cases hone : (((placesWithHash es.size (fun i => es[i]?.map (·.hash)) (k.hash w)).filterMap (fun i => es[i]?.map (·.key))) == [key]) = true
  · cases hk
    case text x t => (
      dsimp only
      (rw [if_neg (notS x t rfl)])
      first
        | (rw [if_pos hone]; refine wpAny_bind (wpAny_pure ?_))
        | (rw [if_neg hone]; refine wpAny_bind (mix_quiet hk0 dk kept ?_))
      rw [if_neg (c := (false && _) = true) Bool.false_ne_true]
      refine wpAny_bind ?_
      refine wpAny_forIn_list _ (fun todo b s' => s' = s ∧ b.1 = none ∧ ∃ done, done ++ todo = placesWithHash es.size (fun i => es[i]?.map (·.hash)) _ ∧ ((b.2 = none ∧ ∀ j ∈ done, ¬ isK j) ∨ ∃ j ∈ done, b.2 = some j ∧ isK j)) _ ?_ ?_ _ _ ⟨rfl, rfl, [], rfl, .inl ⟨rfl, fun j hj => nomatch hj⟩⟩
      · rintro j todo ⟨b1, hit⟩ s' ⟨rfl, rfl, done, cut, inv⟩
        have hj := List.mem_append_right done (List.mem_cons_self (a := j) (l := todo))
        rw [cut] at hj
        obtain ⟨e, y, ee, ey, is, dp, eh⟩ := m.there hj
        have cut2 : (done ++ [j]) ++ todo = _ := (List.append_assoc done [j] todo).trans cut
        rw [ee]
        dsimp only
        rw [if_pos (beq_iff_eq.mpr eh)]
        refine wpAny_bind (wpAny_dictEpoch ho hd (wpAny_bind (mix_eq room is dp hk0 (wpAny_bind (wpAny_dictEpoch ho hd ?_)))))
        rw [if_neg (epsame ep)]
        by_cases same : isK j
        · rw [decide_eq_true ((dec j y ey).mpr same)]
          have new : hit = none := by
            rcases inv with ⟨h, _⟩ | ⟨i, hi, _, h⟩
            · exact h
            · exfalso
              rw [← cut] at nd
              rw [one i j h same] at hi
              exact (List.nodup_append.mp nd).2.2 j hi j List.mem_cons_self rfl
          subst new
          rw [if_pos rfl, if_neg (c := (Option.isSome none) = true) Bool.false_ne_true]
          refine wpAny_bind (wpAny_rule ?_)
          rw [hlen]
          by_cases few : len < 2
          · rw [if_pos few]
            exact wpAny_pure (wpAny_pure (yes2 j same))
          · rw [if_neg few]
            exact wpAny_pure ⟨rfl, rfl, done ++ [j], cut2, .inr ⟨j, List.mem_append_right _ List.mem_cons_self, rfl, same⟩⟩
        · rw [decide_eq_false (fun q => same ((dec j y ey).mp q)), if_neg Bool.false_ne_true]
          refine wpAny_bind (wpAny_rule ?_)
          rw [if_neg (c := (false && _) = true) Bool.false_ne_true]
          refine wpAny_pure ⟨rfl, rfl, done ++ [j], cut2, ?_⟩
          rcases inv with ⟨h1, h2⟩ | ⟨i, hi, h1, h2⟩
          · refine .inl ⟨h1, fun i hi => ?_⟩
            rcases List.mem_append.mp hi with hi | hi
            · exact h2 i hi
            · rw [List.mem_singleton] at hi
              rw [hi]
              exact same
          · exact .inr ⟨i, List.mem_append_left _ hi, h1, h2⟩
      · rintro ⟨b1, hit⟩ s' ⟨rfl, rfl, done, cut, inv⟩
        rw [List.append_nil] at cut
        rcases inv with ⟨rfl, h2⟩ | ⟨i, _, rfl, h2⟩
        · exact wpAny_pure (no2 fun j h => h2 j (by rw [cut]; exact in2 j h) h)
        · exact wpAny_pure (yes2 i h2))
    case tup => (
      dsimp only
      (rw [if_neg (notC _ rfl)])
      first
        | (rw [if_pos hone]; refine wpAny_bind (wpAny_pure ?_))
        | (rw [if_neg hone]; refine wpAny_bind (mix_quiet hk0 dk kept ?_))
      rw [if_neg (c := (false && _) = true) Bool.false_ne_true]
      refine wpAny_bind ?_
      refine wpAny_forIn_list _ (fun todo b s' => s' = s ∧ b.1 = none ∧ ∃ done, done ++ todo = placesWithHash es.size (fun i => es[i]?.map (·.hash)) _ ∧ ((b.2 = none ∧ ∀ j ∈ done, ¬ isK j) ∨ ∃ j ∈ done, b.2 = some j ∧ isK j)) _ ?_ ?_ _ _ ⟨rfl, rfl, [], rfl, .inl ⟨rfl, fun j hj => nomatch hj⟩⟩
      · rintro j todo ⟨b1, hit⟩ s' ⟨rfl, rfl, done, cut, inv⟩
        have hj := List.mem_append_right done (List.mem_cons_self (a := j) (l := todo))
        rw [cut] at hj
        obtain ⟨e, y, ee, ey, is, dp, eh⟩ := m.there hj
        have cut2 : (done ++ [j]) ++ todo = _ := (List.append_assoc done [j] todo).trans cut
        rw [ee]
        dsimp only
        rw [if_pos (beq_iff_eq.mpr eh)]
        refine wpAny_bind (wpAny_dictEpoch ho hd (wpAny_bind (mix_eq room is dp hk0 (wpAny_bind (wpAny_dictEpoch ho hd ?_)))))
        rw [if_neg (epsame ep)]
        by_cases same : isK j
        · rw [decide_eq_true ((dec j y ey).mpr same)]
          have new : hit = none := by
            rcases inv with ⟨h, _⟩ | ⟨i, hi, _, h⟩
            · exact h
            · exfalso
              rw [← cut] at nd
              rw [one i j h same] at hi
              exact (List.nodup_append.mp nd).2.2 j hi j List.mem_cons_self rfl
          subst new
          rw [if_pos rfl, if_neg (c := (Option.isSome none) = true) Bool.false_ne_true]
          refine wpAny_bind (wpAny_rule ?_)
          rw [hlen]
          by_cases few : len < 2
          · rw [if_pos few]
            exact wpAny_pure (wpAny_pure (yes2 j same))
          · rw [if_neg few]
            exact wpAny_pure ⟨rfl, rfl, done ++ [j], cut2, .inr ⟨j, List.mem_append_right _ List.mem_cons_self, rfl, same⟩⟩
        · rw [decide_eq_false (fun q => same ((dec j y ey).mp q)), if_neg Bool.false_ne_true]
          refine wpAny_bind (wpAny_rule ?_)
          rw [if_neg (c := (false && _) = true) Bool.false_ne_true]
          refine wpAny_pure ⟨rfl, rfl, done ++ [j], cut2, ?_⟩
          rcases inv with ⟨h1, h2⟩ | ⟨i, hi, h1, h2⟩
          · refine .inl ⟨h1, fun i hi => ?_⟩
            rcases List.mem_append.mp hi with hi | hi
            · exact h2 i hi
            · rw [List.mem_singleton] at hi
              rw [hi]
              exact same
          · exact .inr ⟨i, List.mem_append_left _ hi, h1, h2⟩
      · rintro ⟨b1, hit⟩ s' ⟨rfl, rfl, done, cut, inv⟩
        rw [List.append_nil] at cut
        rcases inv with ⟨rfl, h2⟩ | ⟨i, _, rfl, h2⟩
        · exact wpAny_pure (no2 fun j h => h2 j (by rw [cut]; exact in2 j h) h)
        · exact wpAny_pure (yes2 i h2))
    all_goals (
      dsimp only
      skip
      first
        | (rw [if_pos hone]; refine wpAny_bind (wpAny_pure ?_))
        | (rw [if_neg hone]; refine wpAny_bind (mix_quiet hk0 dk kept ?_))
      rw [if_neg (c := (false && _) = true) Bool.false_ne_true]
      refine wpAny_bind ?_
      refine wpAny_forIn_list _ (fun todo b s' => s' = s ∧ b.1 = none ∧ ∃ done, done ++ todo = placesWithHash es.size (fun i => es[i]?.map (·.hash)) _ ∧ ((b.2 = none ∧ ∀ j ∈ done, ¬ isK j) ∨ ∃ j ∈ done, b.2 = some j ∧ isK j)) _ ?_ ?_ _ _ ⟨rfl, rfl, [], rfl, .inl ⟨rfl, fun j hj => nomatch hj⟩⟩
      · rintro j todo ⟨b1, hit⟩ s' ⟨rfl, rfl, done, cut, inv⟩
        have hj := List.mem_append_right done (List.mem_cons_self (a := j) (l := todo))
        rw [cut] at hj
        obtain ⟨e, y, ee, ey, is, dp, eh⟩ := m.there hj
        have cut2 : (done ++ [j]) ++ todo = _ := (List.append_assoc done [j] todo).trans cut
        rw [ee]
        dsimp only
        rw [if_pos (beq_iff_eq.mpr eh)]
        refine wpAny_bind (wpAny_dictEpoch ho hd (wpAny_bind (mix_eq room is dp hk0 (wpAny_bind (wpAny_dictEpoch ho hd ?_)))))
        rw [if_neg (epsame ep)]
        by_cases same : isK j
        · rw [decide_eq_true ((dec j y ey).mpr same)]
          have new : hit = none := by
            rcases inv with ⟨h, _⟩ | ⟨i, hi, _, h⟩
            · exact h
            · exfalso
              rw [← cut] at nd
              rw [one i j h same] at hi
              exact (List.nodup_append.mp nd).2.2 j hi j List.mem_cons_self rfl
          subst new
          rw [if_pos rfl, if_neg (c := (Option.isSome none) = true) Bool.false_ne_true]
          refine wpAny_bind (wpAny_rule ?_)
          rw [hlen]
          by_cases few : len < 2
          · rw [if_pos few]
            exact wpAny_pure (wpAny_pure (yes2 j same))
          · rw [if_neg few]
            exact wpAny_pure ⟨rfl, rfl, done ++ [j], cut2, .inr ⟨j, List.mem_append_right _ List.mem_cons_self, rfl, same⟩⟩
        · rw [decide_eq_false (fun q => same ((dec j y ey).mp q)), if_neg Bool.false_ne_true]
          refine wpAny_bind (wpAny_rule ?_)
          rw [if_neg (c := (false && _) = true) Bool.false_ne_true]
          refine wpAny_pure ⟨rfl, rfl, done ++ [j], cut2, ?_⟩
          rcases inv with ⟨h1, h2⟩ | ⟨i, hi, h1, h2⟩
          · refine .inl ⟨h1, fun i hi => ?_⟩
            rcases List.mem_append.mp hi with hi | hi
            · exact h2 i hi
            · rw [List.mem_singleton] at hi
              rw [hi]
              exact same
          · exact .inr ⟨i, List.mem_append_left _ hi, h1, h2⟩
      · rintro ⟨b1, hit⟩ s' ⟨rfl, rfl, done, cut, inv⟩
        rw [List.append_nil] at cut
        rcases inv with ⟨rfl, h2⟩ | ⟨i, _, rfl, h2⟩
        · exact wpAny_pure (no2 fun j h => h2 j (by rw [cut]; exact in2 j h) h)
        · exact wpAny_pure (yes2 i h2))
  · cases hk
    case text x t => (
      dsimp only
      (rw [if_neg (notS x t rfl)])
      first
        | (rw [if_pos hone]; refine wpAny_bind (wpAny_pure ?_))
        | (rw [if_neg hone]; refine wpAny_bind (mix_quiet hk0 dk kept ?_))
      rw [if_neg (c := (false && _) = true) Bool.false_ne_true]
      refine wpAny_bind ?_
      refine wpAny_forIn_list _ (fun todo b s' => s' = s ∧ b.1 = none ∧ ∃ done, done ++ todo = placesWithHash es.size (fun i => es[i]?.map (·.hash)) _ ∧ ((b.2 = none ∧ ∀ j ∈ done, ¬ isK j) ∨ ∃ j ∈ done, b.2 = some j ∧ isK j)) _ ?_ ?_ _ _ ⟨rfl, rfl, [], rfl, .inl ⟨rfl, fun j hj => nomatch hj⟩⟩
      · rintro j todo ⟨b1, hit⟩ s' ⟨rfl, rfl, done, cut, inv⟩
        have hj := List.mem_append_right done (List.mem_cons_self (a := j) (l := todo))
        rw [cut] at hj
        obtain ⟨e, y, ee, ey, is, dp, eh⟩ := m.there hj
        have cut2 : (done ++ [j]) ++ todo = _ := (List.append_assoc done [j] todo).trans cut
        rw [ee]
        dsimp only
        rw [if_pos (beq_iff_eq.mpr eh)]
        refine wpAny_bind (wpAny_dictEpoch ho hd (wpAny_bind (mix_eq room is dp hk0 (wpAny_bind (wpAny_dictEpoch ho hd ?_)))))
        rw [if_neg (epsame ep)]
        by_cases same : isK j
        · rw [decide_eq_true ((dec j y ey).mpr same)]
          have new : hit = none := by
            rcases inv with ⟨h, _⟩ | ⟨i, hi, _, h⟩
            · exact h
            · exfalso
              rw [← cut] at nd
              rw [one i j h same] at hi
              exact (List.nodup_append.mp nd).2.2 j hi j List.mem_cons_self rfl
          subst new
          rw [if_pos rfl, if_neg (c := (Option.isSome none) = true) Bool.false_ne_true]
          refine wpAny_bind (wpAny_rule ?_)
          rw [hlen]
          by_cases few : len < 2
          · rw [if_pos few]
            exact wpAny_pure (wpAny_pure (yes2 j same))
          · rw [if_neg few]
            exact wpAny_pure ⟨rfl, rfl, done ++ [j], cut2, .inr ⟨j, List.mem_append_right _ List.mem_cons_self, rfl, same⟩⟩
        · rw [decide_eq_false (fun q => same ((dec j y ey).mp q)), if_neg Bool.false_ne_true]
          refine wpAny_bind (wpAny_rule ?_)
          rw [if_neg (c := (false && _) = true) Bool.false_ne_true]
          refine wpAny_pure ⟨rfl, rfl, done ++ [j], cut2, ?_⟩
          rcases inv with ⟨h1, h2⟩ | ⟨i, hi, h1, h2⟩
          · refine .inl ⟨h1, fun i hi => ?_⟩
            rcases List.mem_append.mp hi with hi | hi
            · exact h2 i hi
            · rw [List.mem_singleton] at hi
              rw [hi]
              exact same
          · exact .inr ⟨i, List.mem_append_left _ hi, h1, h2⟩
      · rintro ⟨b1, hit⟩ s' ⟨rfl, rfl, done, cut, inv⟩
        rw [List.append_nil] at cut
        rcases inv with ⟨rfl, h2⟩ | ⟨i, _, rfl, h2⟩
        · exact wpAny_pure (no2 fun j h => h2 j (by rw [cut]; exact in2 j h) h)
        · exact wpAny_pure (yes2 i h2))
    case tup => (
      dsimp only
      (rw [if_neg (notC _ rfl)])
      first
        | (rw [if_pos hone]; refine wpAny_bind (wpAny_pure ?_))
        | (rw [if_neg hone]; refine wpAny_bind (mix_quiet hk0 dk kept ?_))
      rw [if_neg (c := (false && _) = true) Bool.false_ne_true]
      refine wpAny_bind ?_
      refine wpAny_forIn_list _ (fun todo b s' => s' = s ∧ b.1 = none ∧ ∃ done, done ++ todo = placesWithHash es.size (fun i => es[i]?.map (·.hash)) _ ∧ ((b.2 = none ∧ ∀ j ∈ done, ¬ isK j) ∨ ∃ j ∈ done, b.2 = some j ∧ isK j)) _ ?_ ?_ _ _ ⟨rfl, rfl, [], rfl, .inl ⟨rfl, fun j hj => nomatch hj⟩⟩
      · rintro j todo ⟨b1, hit⟩ s' ⟨rfl, rfl, done, cut, inv⟩
        have hj := List.mem_append_right done (List.mem_cons_self (a := j) (l := todo))
        rw [cut] at hj
        obtain ⟨e, y, ee, ey, is, dp, eh⟩ := m.there hj
        have cut2 : (done ++ [j]) ++ todo = _ := (List.append_assoc done [j] todo).trans cut
        rw [ee]
        dsimp only
        rw [if_pos (beq_iff_eq.mpr eh)]
        refine wpAny_bind (wpAny_dictEpoch ho hd (wpAny_bind (mix_eq room is dp hk0 (wpAny_bind (wpAny_dictEpoch ho hd ?_)))))
        rw [if_neg (epsame ep)]
        by_cases same : isK j
        · rw [decide_eq_true ((dec j y ey).mpr same)]
          have new : hit = none := by
            rcases inv with ⟨h, _⟩ | ⟨i, hi, _, h⟩
            · exact h
            · exfalso
              rw [← cut] at nd
              rw [one i j h same] at hi
              exact (List.nodup_append.mp nd).2.2 j hi j List.mem_cons_self rfl
          subst new
          rw [if_pos rfl, if_neg (c := (Option.isSome none) = true) Bool.false_ne_true]
          refine wpAny_bind (wpAny_rule ?_)
          rw [hlen]
          by_cases few : len < 2
          · rw [if_pos few]
            exact wpAny_pure (wpAny_pure (yes2 j same))
          · rw [if_neg few]
            exact wpAny_pure ⟨rfl, rfl, done ++ [j], cut2, .inr ⟨j, List.mem_append_right _ List.mem_cons_self, rfl, same⟩⟩
        · rw [decide_eq_false (fun q => same ((dec j y ey).mp q)), if_neg Bool.false_ne_true]
          refine wpAny_bind (wpAny_rule ?_)
          rw [if_neg (c := (false && _) = true) Bool.false_ne_true]
          refine wpAny_pure ⟨rfl, rfl, done ++ [j], cut2, ?_⟩
          rcases inv with ⟨h1, h2⟩ | ⟨i, hi, h1, h2⟩
          · refine .inl ⟨h1, fun i hi => ?_⟩
            rcases List.mem_append.mp hi with hi | hi
            · exact h2 i hi
            · rw [List.mem_singleton] at hi
              rw [hi]
              exact same
          · exact .inr ⟨i, List.mem_append_left _ hi, h1, h2⟩
      · rintro ⟨b1, hit⟩ s' ⟨rfl, rfl, done, cut, inv⟩
        rw [List.append_nil] at cut
        rcases inv with ⟨rfl, h2⟩ | ⟨i, _, rfl, h2⟩
        · exact wpAny_pure (no2 fun j h => h2 j (by rw [cut]; exact in2 j h) h)
        · exact wpAny_pure (yes2 i h2))
    all_goals (
      dsimp only
      skip
      first
        | (rw [if_pos hone]; refine wpAny_bind (wpAny_pure ?_))
        | (rw [if_neg hone]; refine wpAny_bind (mix_quiet hk0 dk kept ?_))
      rw [if_neg (c := (false && _) = true) Bool.false_ne_true]
      refine wpAny_bind ?_
      refine wpAny_forIn_list _ (fun todo b s' => s' = s ∧ b.1 = none ∧ ∃ done, done ++ todo = placesWithHash es.size (fun i => es[i]?.map (·.hash)) _ ∧ ((b.2 = none ∧ ∀ j ∈ done, ¬ isK j) ∨ ∃ j ∈ done, b.2 = some j ∧ isK j)) _ ?_ ?_ _ _ ⟨rfl, rfl, [], rfl, .inl ⟨rfl, fun j hj => nomatch hj⟩⟩
      · rintro j todo ⟨b1, hit⟩ s' ⟨rfl, rfl, done, cut, inv⟩
        have hj := List.mem_append_right done (List.mem_cons_self (a := j) (l := todo))
        rw [cut] at hj
        obtain ⟨e, y, ee, ey, is, dp, eh⟩ := m.there hj
        have cut2 : (done ++ [j]) ++ todo = _ := (List.append_assoc done [j] todo).trans cut
        rw [ee]
        dsimp only
        rw [if_pos (beq_iff_eq.mpr eh)]
        refine wpAny_bind (wpAny_dictEpoch ho hd (wpAny_bind (mix_eq room is dp hk0 (wpAny_bind (wpAny_dictEpoch ho hd ?_)))))
        rw [if_neg (epsame ep)]
        by_cases same : isK j
        · rw [decide_eq_true ((dec j y ey).mpr same)]
          have new : hit = none := by
            rcases inv with ⟨h, _⟩ | ⟨i, hi, _, h⟩
            · exact h
            · exfalso
              rw [← cut] at nd
              rw [one i j h same] at hi
              exact (List.nodup_append.mp nd).2.2 j hi j List.mem_cons_self rfl
          subst new
          rw [if_pos rfl, if_neg (c := (Option.isSome none) = true) Bool.false_ne_true]
          refine wpAny_bind (wpAny_rule ?_)
          rw [hlen]
          by_cases few : len < 2
          · rw [if_pos few]
            exact wpAny_pure (wpAny_pure (yes2 j same))
          · rw [if_neg few]
            exact wpAny_pure ⟨rfl, rfl, done ++ [j], cut2, .inr ⟨j, List.mem_append_right _ List.mem_cons_self, rfl, same⟩⟩
        · rw [decide_eq_false (fun q => same ((dec j y ey).mp q)), if_neg Bool.false_ne_true]
          refine wpAny_bind (wpAny_rule ?_)
          rw [if_neg (c := (false && _) = true) Bool.false_ne_true]
          refine wpAny_pure ⟨rfl, rfl, done ++ [j], cut2, ?_⟩
          rcases inv with ⟨h1, h2⟩ | ⟨i, hi, h1, h2⟩
          · refine .inl ⟨h1, fun i hi => ?_⟩
            rcases List.mem_append.mp hi with hi | hi
            · exact h2 i hi
            · rw [List.mem_singleton] at hi
              rw [hi]
              exact same
          · exact .inr ⟨i, List.mem_append_left _ hi, h1, h2⟩
      · rintro ⟨b1, hit⟩ s' ⟨rfl, rfl, done, cut, inv⟩
        rw [List.append_nil] at cut
        rcases inv with ⟨rfl, h2⟩ | ⟨i, _, rfl, h2⟩
        · exact wpAny_pure (no2 fun j h => h2 j (by rw [cut]; exact in2 j h) h)
        · exact wpAny_pure (yes2 i h2))
end
end KX
end
section
set_option autoImplicit false
set_option maxRecDepth 100000
set_option maxHeartbeats 4000000
/-! dicts with texts, numbers and tuples of such side by side as keys: d[k], k in d, d.get(k, ..), d[k] = v -/
namespace KX
open PySem PySem.Spec PyProof.Rows L2
theorem Paired.atL {α β : Type} {R : α → β → Prop} : ∀ {xs : List α} {ys : List β} {i : Nat} {x : α}, Paired R xs ys → xs[i]? = some x → ∃ y, ys[i]? = some y ∧ R x y
  | _, _, 0, _, .cons r _, e => by cases e; exact ⟨_, rfl, r⟩
  | _, _, i + 1, _, .cons _ t, e => Paired.atL (i := i) t e
theorem Paired.atR {α β : Type} {R : α → β → Prop} : ∀ {xs : List α} {ys : List β} {i : Nat} {y : β}, Paired R xs ys → ys[i]? = some y → ∃ x, xs[i]? = some x ∧ R x y
  | _, _, 0, _, .cons r _, e => by cases e; exact ⟨_, rfl, r⟩
  | _, _, i + 1, _, .cons _ t, e => Paired.atR (i := i) t e
/-- key, the key's value, what stands there -/
abbrev MRow := NestedKey × V × V
mutual
inductive MKeyAt (H : Hp) : NestedKey → V → Prop
  | non : MKeyAt H .none .non
  | num (i : Int) : MKeyAt H (.num i) (.int i)
  | text (z : Str) : MKeyAt H (.text z) (.str z)
  | tup {b : Addr} {ks : List NestedKey} {vs : List V} : H b = some (.tup vs) → MKeysAt H ks vs → MKeyAt H (.tup ks) (.ref b)
inductive MKeysAt (H : Hp) : List NestedKey → List V → Prop
  | nil : MKeysAt H [] []
  | cons {k : NestedKey} {v : V} {ks : List NestedKey} {vs : List V} : MKeyAt H k v → MKeysAt H ks vs → MKeysAt H (k :: ks) (v :: vs)
end
mutual
theorem MKeyAt.tupd {H H' : Hp} (t : ∀ b ys, H b = some (.tup ys) → H' b = some (.tup ys)) : ∀ {k : NestedKey} {v : V}, MKeyAt H k v → MKeyAt H' k v
  | _, _, .non => .non
  | _, _, .num i => .num i
  | _, _, .text z => .text z
  | _, _, .tup e r => .tup (t _ _ e) (MKeysAt.tupd t r)
theorem MKeysAt.tupd {H H' : Hp} (t : ∀ b ys, H b = some (.tup ys) → H' b = some (.tup ys)) : ∀ {ks : List NestedKey} {vs : List V}, MKeysAt H ks vs → MKeysAt H' ks vs
  | _, _, .nil => .nil
  | _, _, .cons r rr => .cons (MKeyAt.tupd t r) (MKeysAt.tupd t rr)
end
mutual
theorem mkey_of {P : Program} {w : World} {H : Hp} {h : Heap} (ok : HOk P w H h) : ∀ {k : NestedKey} {v : V}, MKeyAt H k v → ∀ {u : Value}, RelV v u → NestedIs h k u
  | _, _, .non, u, r => by
    cases (show u = Value.none from r)
    exact .none
  | _, _, .num i, u, r => by
    obtain ⟨t, rfl⟩ := (show ∃ t, u = Value.int i t from r)
    exact .int i t
  | _, _, .text z, u, r => by
    obtain ⟨t, rfl⟩ := (show ∃ t, u = Value.str z t from r)
    exact .text z t
  | _, _, .tup e rr, u, r => by
    cases (show u = Value.ref _ from r)
    obtain ⟨_, its, rs, o, h1, h2, n, h3⟩ := (show ObjOk P w H h _ (.tup _) from ok _ _ e)
    exact .tup h1 h2 h3 (by rw [List.toList_toArray]; exact mkeys_of ok rr rs)
theorem mkeys_of {P : Program} {w : World} {H : Hp} {h : Heap} (ok : HOk P w H h) : ∀ {ks : List NestedKey} {vs : List V}, MKeysAt H ks vs → ∀ {us : List Value}, Vals vs us → NestedAll h ks us
  | _, _, .nil, _, .nil => .nil
  | _, _, .cons r rr, _, .cons q qq => .cons (mkey_of ok r q) (mkeys_of ok rr qq)
end
def MRel (w : World) (x : MRow) (e : DictEntry) : Prop := e.hash = x.1.hash w ∧ RelV x.2.1 e.key ∧ RelV x.2.2 e.val
structure MDOk (w : World) (h : Heap) (a : Addr) (xs : List MRow) : Prop where
  ob : ∃ o es ep, h.get? a = some o ∧ o.ExactDict ∧ o.data = .dict es ep ∧ Paired (MRel w) xs es.toList
  nd : (xs.map (·.1)).Nodup
  dp : ∀ x ∈ xs, x.1.depth ≤ 8
  lo : (a == sysModules) = false
  few : xs.length ≤ sizeLine
def mDict (w : World) (a : Addr) (xs : List MRow) : HO := .ext fun h => MDOk w h a xs
structure MD (w : World) (H : Hp) (a : Addr) (xs : List MRow) : Prop where
  at_ : H a = some (mDict w a xs)
  ks : ∀ x ∈ xs, MKeyAt H x.1 x.2.1
def mGet (xs : List MRow) (k : NestedKey) : Option V := (xs.find? fun x => decide (x.1 = k)).map (·.2.2)
section
variable {P : Program} {w : World} {H H' : Hp} {h : Heap} {a b : Addr} {xs : List MRow} {k : NestedKey}
theorem MD.ok (ok : HOk P w H h) (D : MD w H a xs) : MDOk w h a xs := (show ObjOk P w H h a (mDict w a xs) from ok a _ D.at_).1
theorem MD.mix {es : Array DictEntry} (ok : HOk P w H h) (D : MD w H a xs) (r : Paired (MRel w) xs es.toList) : MixOk w h es (xs.map (·.1)) := by
  have m := D.ok ok
  refine ⟨by rw [List.length_map, Paired.length r, Array.length_toList], fun i e he => ?_, m.nd⟩
  obtain ⟨x, hx, e1, e2, _⟩ := Paired.atR r (by rw [Array.getElem?_toList]; exact he)
  have mx := List.mem_of_getElem? hx
  exact ⟨x.1, by rw [List.getElem?_map, hx]; rfl, mkey_of ok (D.ks x mx) e2, m.dp x mx, e1⟩
theorem mGet_none (n : ∀ j : Nat, (xs.map (·.1))[j]? ≠ some k) : mGet xs k = none := by
  unfold mGet
  rw [List.find?_eq_none.mpr fun x hx => ?_]
  · rfl
  · obtain ⟨j, hj⟩ := List.mem_iff_getElem?.mp hx
    intro q
    exact n j (by rw [List.getElem?_map, hj, ← of_decide_eq_true q]; rfl)
theorem mGet_at {j : Nat} {x : MRow} (nd : (xs.map (·.1)).Nodup) (e : xs[j]? = some x) : mGet xs x.1 = some x.2.2 := by
  unfold mGet
  have : xs.find? (fun y => decide (y.1 = x.1)) = some x := by
    induction xs generalizing j with
    | nil => cases e
    | cons y ys ih =>
      rw [List.map_cons, List.nodup_cons] at nd
      rw [List.find?_cons]
      cases j with
      | zero =>
        cases e
        rw [decide_eq_true rfl]
      | succ j =>
        have mm : x ∈ ys := List.mem_of_getElem? e
        rw [decide_eq_false (fun q => nd.1 (by rw [q]; exact List.mem_map.mpr ⟨x, mm, rfl⟩))]
        exact ih nd.2 e
  rw [this]
  rfl
theorem mObj {h' : Heap} (ok : MDOk w h' a xs) : ObjOk P w H h' a (mDict w a xs) := by
  refine ⟨ok, ?_, fun h1 h2 f kp => ?_⟩
  · obtain ⟨⟨o, es, ep, e1, _⟩, _⟩ := ok
    exact ⟨o, e1⟩
  · obtain ⟨⟨o, es, ep, e1, e2, e3, e4⟩, nd, dp, lo, few⟩ := f
    exact ⟨⟨o, es, ep, kp _ e1, e2, e3, e4⟩, nd, dp, lo, few⟩
theorem mDict_mut (D : MD w H a xs) : Mut (H a) := by
  rw [D.at_]
  exact True.intro
end
section
variable {X : Cx} {pins : List (Addr × Obj)} {σ : L2.St} {H : Hp} {s : Shared} {a : Addr} {A : Around} {E : Value → Shared → Prop} {xs : List MRow} {k : NestedKey} {y : V} {u : Value}
theorem m_dictGet {Q : Option Value → Shared → Prop} (hu : A.units + 16 < cLine) (I : Inv X pins σ H s) (D : MD X.w H a xs) (hk : MKeyAt H k y) (dk : k.depth ≤ 8) (ry : RelV y u)
    (h : ∀ s' r, Inv X pins σ H s' → RelO (mGet xs k) r → Q r s') : wpAny (model X.prog X.w) A (dictGet a u) Q E s := by
  obtain ⟨⟨o, es, ep, ho, _, hd, r⟩, nd, _⟩ := D.ok I.hok
  have is := mkey_of I.hok hk ry
  have m := D.mix I.hok r
  unfold dictGet
  try with_reducible refine wpAny_holding ?_
  refine wpAny_bind (pyHash_key k u A s _ is (by omega) (wpAny_bind ?_))
  have I1 := I.tok (s.toks + k.draws)
  refine mix_find (s := { s with toks := s.toks + k.draws }) (by omega) is dk ho hd m (fun n => ?_) (fun j e => ?_)
  · refine wpAny_pure (h _ none I1 ?_)
    rw [mGet_none n]
    exact True.intro
  · rw [List.getElem?_map] at e
    obtain ⟨x, hx, rfl⟩ := Option.map_eq_some_iff.mp e
    obtain ⟨e2, he, _, _, rv⟩ := Paired.atL r hx
    rw [Array.getElem?_toList] at he
    refine wpAny_bind (wpAny_dictEntries (s := { s with toks := s.toks + x.1.draws }) ho hd (wpAny_pure (h _ _ I1 ?_)))
    rw [he, mGet_at nd hx]
    exact rv
end
end KX
end
section
set_option autoImplicit false
set_option maxRecDepth 100000
set_option maxHeartbeats 4000000
/-! k in d, d[k], d[k] = v of dicts with texts and tuples as keys -/
namespace KX
open PySem PySem.Spec PyProof.Rows L2
section
variable {X : Cx} {pins : List (Addr × Obj)} {σ : L2.St} {H : Hp} {s : Shared} {a : Addr} {A : Around} {E : Value → Shared → Prop} {xs : List MRow} {k : NestedKey} {y : V} {u : Value}
theorem MD.ty (I : Inv X pins σ H s) (D : MD X.w H a xs) : s.TypeIs (.ref a) "dict" := by
  obtain ⟨o, _, _, ho, hc, _⟩ := (D.ok I.hok).ob
  exact ⟨o, ho, hc.1⟩
theorem m_contains {Q : Bool → Shared → Prop} (hu : A.units + 32 < cLine) (I : Inv X pins σ H s) (D : MD X.w H a xs) (hk : MKeyAt H k y) (dk : k.depth ≤ 8) (ry : RelV y u)
    (h : ∀ s', Inv X pins σ H s' → Q (mGet xs k).isSome s') : wpAny (model X.prog X.w) A (contains (.ref a) u) Q E s := by
  have ty := D.ty I
  have lo := (D.ok I.hok).lo
  unfold contains
  try with_reducible refine wpAny_holding ?_
  refine wpAny_bind (wpAny_specialOf ty F.slot_dict_contains.lookup ?_)
  show wpAny _ _ (if (some (Value.builtin "dict.__contains__") == some Value.none) = true then _ else _) Q E s
  rw [if_neg (fun q => by rw [beq_builtin_none] at q; cases q)]
  refine wpAny_bind (wpAny_callSpecialUnlessNone?_slot (name := Str.ofString "__contains__") ty F.slot_dict_contains (wpAny_call_entry F.slot_dict_contains ty F.entry_dict_contains ?_ (F.args_dict_contains_2 _ _)))
  show wpAny (model X.prog X.w) _ (dictGet a u >>= fun _ => _) _ _ s
  refine wpAny_bind (m_dictGet (by show A.units + 1 + 16 < cLine; omega) I D hk dk ry fun s' r I' rel => ?_)
  cases g : mGet xs k with
  | some v =>
    rw [g] at rel
    cases r with
    | none => cases rel
    | some z =>
      have q := h s' I'
      rw [g] at q
      show wpAny _ _ (ret (.bool true)) _ _ s'
      exact wpAny_pure ⟨_, rfl, wpAny_truthy_bool q⟩
  | none =>
    rw [g] at rel
    cases r with
    | some z => cases rel
    | none =>
      have q := h s' I'
      rw [g] at q
      show wpAny (model X.prog X.w) _ (Builtin.Dict.pendingKey? a u >>= fun _ => _) _ _ s'
      exact wpAny_bind (wpAny_pendingKey_other lo (wpAny_pure ⟨_, rfl, wpAny_truthy_bool q⟩))
theorem m_in {Q : Value → Shared → Prop} (hu : A.units + 32 < cLine) (I : Inv X pins σ H s) (D : MD X.w H a xs) (hk : MKeyAt H k y) (dk : k.depth ≤ 8) (ry : RelV y u)
    (h : ∀ s', Inv X pins σ H s' → Q (.bool (mGet xs k).isSome) s') : wpAny (model X.prog X.w) A (compareOp .In u (.ref a)) Q E s := by
  show wpAny _ _ (contains (.ref a) u >>= fun b => pure (Value.bool b)) Q E s
  exact wpAny_bind (m_contains hu I D hk dk ry fun s' I' => wpAny_pure (h s' I'))
theorem m_notIn {Q : Value → Shared → Prop} (hu : A.units + 32 < cLine) (I : Inv X pins σ H s) (D : MD X.w H a xs) (hk : MKeyAt H k y) (dk : k.depth ≤ 8) (ry : RelV y u)
    (h : ∀ s', Inv X pins σ H s' → Q (.bool (!(mGet xs k).isSome)) s') : wpAny (model X.prog X.w) A (compareOp .NotIn u (.ref a)) Q E s := by
  show wpAny _ _ (contains (.ref a) u >>= fun b => pure (Value.bool (!b))) Q E s
  exact wpAny_bind (m_contains hu I D hk dk ry fun s' I' => wpAny_pure (h s' I'))
theorem m_getItem {v : V} {Q : Value → Shared → Prop} (hu : A.units + 32 < cLine) (I : Inv X pins σ H s) (D : MD X.w H a xs) (hk : MKeyAt H k y) (dk : k.depth ≤ 8) (ry : RelV y u) (g : mGet xs k = some v)
    (h : ∀ s' z, Inv X pins σ H s' → RelV v z → Q z s') : wpAny (model X.prog X.w) A (getItem (.ref a) u) Q E s := by
  have ty := D.ty I
  unfold getItem
  try with_reducible refine wpAny_holding ?_
  refine wpAny_bind (wpAny_sequenceKey ty (by decide) (wpAny_bind (wpAny_callSpecial?_slot (name := Str.ofString "__getitem__") ty F.slot_dict_getitem (wpAny_call_entry F.slot_dict_getitem ty F.entry_dict_getitem ?_ (F.args_dict_getitem_2 _ _)))))
  show wpAny (model X.prog X.w) _ (dictGet a u >>= fun _ => _) _ _ s
  refine wpAny_bind (m_dictGet (by show A.units + 1 + 16 < cLine; omega) I D hk dk ry fun s' r I' rel => ?_)
  rw [g] at rel
  cases r with
  | none => cases rel
  | some z => exact wpAny_pure ⟨z, rfl, wpAny_pure (h s' z I' rel)⟩
end
end KX
end
section
set_option autoImplicit false
set_option maxRecDepth 100000
set_option maxHeartbeats 4000000
/-! d[k] = v of dicts with texts and tuples as keys -/
namespace KX
open PySem PySem.Spec PyProof.Rows L2
theorem Paired.app {α β : Type} {R : α → β → Prop} : ∀ {xs xs2 : List α} {ys ys2 : List β}, Paired R xs ys → Paired R xs2 ys2 → Paired R (xs ++ xs2) (ys ++ ys2)
  | _, _, _, _, .nil, h => h
  | _, _, _, _, .cons r t, h => .cons r (Paired.app t h)
theorem Paired.mod {α β : Type} {R : α → β → Prop} {f : α → α} {g : β → β} (fg : ∀ x y, R x y → R (f x) (g y)) : ∀ {xs : List α} {ys : List β} (j : Nat), Paired R xs ys → Paired R (xs.modify j f) (ys.modify j g)
  | _, _, _, .nil => by
    rw [List.modify_nil, List.modify_nil]
    exact .nil
  | _, _, 0, .cons r t => .cons (fg _ _ r) t
  | _, _, j + 1, .cons r t => .cons r (Paired.mod fg j t)
def mPut (xs : List MRow) (k : NestedKey) (y v : V) : List MRow := if (mGet xs k).isSome then xs.map (fun x => if x.1 = k then (x.1, x.2.1, v) else x) else xs ++ [(k, y, v)]
theorem map_mod {k : NestedKey} {v : V} : ∀ {xs : List MRow} {j : Nat} {x : MRow}, (xs.map (·.1)).Nodup → xs[j]? = some x → x.1 = k → xs.map (fun x => if x.1 = k then (x.1, x.2.1, v) else x) = xs.modify j fun x => (x.1, x.2.1, v)
  | [], _, _, _, e, _ => by cases e
  | z :: zs, j, x, n, e, q => by
    rw [List.map_cons, List.nodup_cons] at n
    cases j with
    | zero =>
      cases e
      rw [List.map_cons, if_pos q]
      show _ :: _ = _ :: zs
      congr 1
      refine (List.map_congr_left fun w hw => ?_).trans (List.map_id zs)
      rw [if_neg (fun p => n.1 (by rw [q, ← p]; exact List.mem_map.mpr ⟨w, hw, rfl⟩))]
      rfl
    | succ j =>
      have mm : x ∈ zs := List.mem_of_getElem? e
      rw [List.map_cons, if_neg (fun p => n.1 (by rw [p, ← q]; exact List.mem_map.mpr ⟨x, mm, rfl⟩))]
      show _ :: _ = z :: zs.modify j _
      rw [map_mod n.2 e q]
theorem mPut_keys {k : NestedKey} {v : V} (xs : List MRow) : (xs.map (fun x => if x.1 = k then (x.1, x.2.1, v) else x)).map (·.1) = xs.map (·.1) := by
  rw [List.map_map]
  refine List.map_congr_left fun x _ => ?_
  show (if x.1 = k then (x.1, x.2.1, v) else x).1 = x.1
  split <;> rfl
section
variable {X : Cx} {pins : List (Addr × Obj)} {σ : L2.St} {H : Hp} {s : Shared} {a : Addr} {A : Around} {E : Value → Shared → Prop} {xs : List MRow} {k : NestedKey} {y v : V} {u z : Value}
theorem MD.put {w : World} {H' : Hp} (D : MD w H a xs) (hk : MKeyAt H k y) (e : H' = upd H a (mDict w a (mPut xs k y v))) : MD w H' a (mPut xs k y v) := by
  subst e
  have t : ∀ b ys, H b = some (.tup ys) → (upd H a (mDict w a (mPut xs k y v))) b = some (.tup ys) := fun b ys e => by
    rw [upd_ne (fun q => by rw [q, D.at_] at e; cases e)]
    exact e
  refine ⟨upd_same, fun x hx => ?_⟩
  unfold mPut at hx
  split at hx
  · obtain ⟨x0, h0, rfl⟩ := List.mem_map.mp hx
    have := MKeyAt.tupd t (D.ks x0 h0)
    split <;> exact this
  · rcases List.mem_append.mp hx with hx | hx
    · exact MKeyAt.tupd t (D.ks x hx)
    · rw [List.mem_singleton] at hx
      subst hx
      exact MKeyAt.tupd t hk
theorem m_dictSet {Q : Unit → Shared → Prop} (hu : A.units + 16 < cLine) (I : Inv X pins σ H s) (D : MD X.w H a xs) (hk : MKeyAt H k y) (dk : k.depth ≤ 8) (ry : RelV y u) (rv : RelV v z) (few : xs.length < sizeLine)
    (h : ∀ s', Inv X pins σ (upd H a (mDict X.w a (mPut xs k y v))) s' → Q () s') : wpAny (model X.prog X.w) A (dictSet a u z) Q E s := by
  have ok := D.ok I.hok
  obtain ⟨⟨o, es, ep, ho, hc, hd, r⟩, nd, dp, lo, le⟩ := ok
  have is := mkey_of I.hok hk ry
  have m := D.mix I.hok r
  have sz : es.size = xs.length := by rw [Paired.length r, Array.length_toList]
  unfold dictSet
  try with_reducible refine wpAny_holding ?_
  refine wpAny_bind (pyHash_key k u A s _ is (by omega) ?_)
  unfold dictSetHashed
  try with_reducible refine wpAny_holding ?_
  refine wpAny_bind (mix_find (s := { s with toks := s.toks + k.draws }) (by omega) is dk ho hd m (fun n => ?_) fun j e => ?_)
  · have g := mGet_none n
    have ep' : mPut xs k y v = xs ++ [(k, y, v)] := by
      unfold mPut
      rw [g]
      rfl
    rw [ep'] at h
    refine wpAny_bind (wpAny_rule (wpAny_updateDictKeys (hz := by omega) (s := { s with toks := s.toks + k.draws }) ho hd (h _ ?_)))
    have hg := Heap.get?_update_self (Obj.mapDictKeys (·.push ⟨k.hash X.w, u, z⟩)) ho (Obj.isFreed_of_dict (Obj.data_mapDictKeys hd _))
    refine d_write (I.tok (s.toks + k.draws)) (mDict_mut D) (Heap.SameBut.update ..) ⟨_, hg⟩ (mObj ⟨⟨_, _, _, hg, hc.mapDictKeys _, Obj.data_mapDictKeys hd _, ?_⟩, ?_, ?_, lo, ?_⟩)
    · rw [Array.toList_push]
      exact Paired.app r (.cons ⟨rfl, ry, rv⟩ .nil)
    · rw [List.map_append, List.nodup_append]
      refine ⟨nd, by simp, fun p hp q hq => ?_⟩
      simp only [List.map_cons, List.map_nil, List.mem_singleton] at hq
      rw [hq]
      intro c
      rw [c] at hp
      obtain ⟨j, hj⟩ := List.mem_iff_getElem?.mp hp
      exact n j hj
    · intro x hx
      rcases List.mem_append.mp hx with hx | hx
      · exact dp x hx
      · rw [List.mem_singleton] at hx
        rw [hx]
        exact dk
    · rw [List.length_append, List.length_singleton]
      exact few
  · rw [List.getElem?_map] at e
    obtain ⟨x, hx, rfl⟩ := Option.map_eq_some_iff.mp e
    have ep' : mPut xs x.1 y v = xs.modify j fun x => (x.1, x.2.1, v) := by
      unfold mPut
      rw [mGet_at nd hx]
      exact map_mod nd hx rfl
    have ek : (mPut xs x.1 y v).map (·.1) = xs.map (·.1) := by
      unfold mPut
      rw [mGet_at nd hx]
      exact mPut_keys xs
    refine wpAny_bind (wpAny_rule (wpAny_bind (wpAny_updateDict (s := { s with toks := s.toks + x.1.draws }) ho hd (wpAny_point (h _ ?_)))))
    have hg := Heap.get?_update_self (Obj.mapDict (·.modify j fun e => { e with val := z })) ho (Obj.isFreed_of_dict (Obj.data_mapDict hd _))
    refine d_write (I.tok (s.toks + x.1.draws)) (mDict_mut D) (Heap.SameBut.update ..) ⟨_, hg⟩ (mObj ⟨⟨_, _, _, hg, hc.mapDict _, Obj.data_mapDict hd _, ?_⟩, ?_, ?_, lo, ?_⟩)
    · rw [ep']
      have := Paired.mod (f := fun x : MRow => (x.1, x.2.1, v)) (g := fun e : DictEntry => { e with val := z }) (fun p q rr => ⟨rr.1, rr.2.1, rv⟩) j r
      obtain ⟨l⟩ := es
      simpa using this
    · rw [ek]
      exact nd
    · intro p hp
      have : p.1 ∈ (mPut xs x.1 y v).map (·.1) := List.mem_map.mpr ⟨p, hp, rfl⟩
      rw [ek] at this
      obtain ⟨q, hq, eq⟩ := List.mem_map.mp this
      rw [← eq]
      exact dp q hq
    · have := congrArg List.length ek
      rw [List.length_map, List.length_map] at this
      omega
end
end KX
end
section
set_option autoImplicit false
set_option maxRecDepth 100000
set_option maxHeartbeats 4000000
/-! rules: k in d, d[k], d[k] = v, {} of dicts with texts and tuples as keys -/
namespace KX
open PySem PySem.Spec PyProof.Rows L2
section
variable {X : Cx} {pins : List (Addr × Obj)} {σ : L2.St} {H : Hp} {s : Shared} {a : Addr} {A : Around} {E : Value → Shared → Prop} {xs : List MRow} {k : NestedKey} {y v : V} {u z : Value}
theorem m_setItem {Q : Unit → Shared → Prop} (hu : A.units + 32 < cLine) (I : Inv X pins σ H s) (D : MD X.w H a xs) (hk : MKeyAt H k y) (dk : k.depth ≤ 8) (ry : RelV y u) (rv : RelV v z) (few : xs.length < sizeLine)
    (h : ∀ s', Inv X pins σ (upd H a (mDict X.w a (mPut xs k y v))) s' → Q () s') : wpAny (model X.prog X.w) A (setItem (.ref a) u z) Q E s := by
  have ty := D.ty I
  unfold setItem
  try with_reducible refine wpAny_holding ?_
  refine wpAny_bind (wpAny_sequenceKey ty (by decide) (wpAny_bind (wpAny_callSpecial?_slot (name := Str.ofString "__setitem__") ty F.slot_dict_setitem (wpAny_call_entry F.slot_dict_setitem ty F.entry_dict_setitem ?_ (F.args_dict_setitem_3 _ _ _)))))
  show wpAny (model X.prog X.w) _ (Builtin.Dict.notOrdered "__setitem__" ⟨[.ref a, u, z], []⟩ >>= fun _ => _) _ _ s
  refine wpAny_bind (wpAny_notOrdered_dict ty ?_)
  show wpAny (model X.prog X.w) _ (dictSet a u z >>= fun _ => _) _ _ s
  exact wpAny_bind (m_dictSet (by show A.units + 1 + 16 < cLine; omega) I D hk dk ry rv few fun s' I' => wpAny_pure ⟨.none, rfl, wpAny_pure (h s' I')⟩)
end
def tMIn (w : World) (ty td : TE) : TE := fun σ H Q => ty σ H fun y H1 => td σ H1 fun x H2 => ∃ a xs k, x = .ref a ∧ MD w H2 a xs ∧ MKeyAt H2 k y ∧ k.depth ≤ 8 ∧ Q (.bl (mGet xs k).isSome) H2
def tMNotIn (w : World) (ty td : TE) : TE := fun σ H Q => ty σ H fun y H1 => td σ H1 fun x H2 => ∃ a xs k, x = .ref a ∧ MD w H2 a xs ∧ MKeyAt H2 k y ∧ k.depth ≤ 8 ∧ Q (.bl (!(mGet xs k).isSome)) H2
def tMGet (w : World) (td ty : TE) : TE := fun σ H Q => td σ H fun x H1 => ty σ H1 fun y H2 => ∃ a xs k v, x = .ref a ∧ MD w H2 a xs ∧ MKeyAt H2 k y ∧ k.depth ≤ 8 ∧ mGet xs k = some v ∧ Q v H2
def sMPut (w : World) (td ty tv : TE) : TS := fun D σ H => tv σ H fun v H1 => td σ H1 fun x H2 => ty σ H2 fun y H3 => ∃ a xs k, x = .ref a ∧ MD w H3 a xs ∧ MKeyAt H3 k y ∧ k.depth ≤ 8 ∧ xs.length < sizeLine ∧ D.nx σ (upd H3 a (mDict w a (mPut xs k y v)))
def tMNew (w : World) : TE := fun _ H Q => ∀ p, H p = none → Q (.ref p) (upd H p (mDict w p []))
section
variable {X : Cx} {o i value : Expr} {pos pos' : Pos} {td ty tv : TE}
theorem pc_min (hu : X.A.units + 64 < cLine) (hi : PE X i ty) (ho : PE X o td) : PC X .In i o (tMIn X.w ty td) := by
  refine ⟨fun pins s σ H Q I h => ?_⟩
  refine thn (hi.run pins s σ H _ I h) fun iv s1 ⟨y, H1, I1, ry, q1⟩ => thn (ho.run pins s1 σ H1 _ I1 q1) fun u s2 ⟨x, H2, I2, rx, a, xs, k, ex, D, hk, dk, q2⟩ => ?_
  subst ex
  obtain rfl : u = Value.ref a := rx
  exact m_in (by omega) I2 D hk dk ry fun s3 I3 => ⟨.bl (mGet xs k).isSome, H2, I3, rfl, q2⟩
theorem pc_mnotin (hu : X.A.units + 64 < cLine) (hi : PE X i ty) (ho : PE X o td) : PC X .NotIn i o (tMNotIn X.w ty td) := by
  refine ⟨fun pins s σ H Q I h => ?_⟩
  refine thn (hi.run pins s σ H _ I h) fun iv s1 ⟨y, H1, I1, ry, q1⟩ => thn (ho.run pins s1 σ H1 _ I1 q1) fun u s2 ⟨x, H2, I2, rx, a, xs, k, ex, D, hk, dk, q2⟩ => ?_
  subst ex
  obtain rfl : u = Value.ref a := rx
  exact m_notIn (by omega) I2 D hk dk ry fun s3 I3 => ⟨.bl (!(mGet xs k).isSome), H2, I3, rfl, q2⟩
theorem pe_mget (hu : X.A.units + 64 < cLine) (ho : PE X o td) (hi : PE X i ty) (hs : ∀ u w, subscripted i false u w = operate [u, w] (getItem u w)) : PE X (.Subscript o i pos) (tMGet X.w td ty) := by
  refine ⟨fun pins s σ H Q I h => ?_⟩
  refine subD_of PySem.F.slot_dict_getitem.lookup hs (thn (ho.run pins s σ H _ I h) fun u s1 ⟨x, H1, I1, rx, q1⟩ => thn (hi.run pins s1 σ H1 _ I1 q1) fun iv s2 ⟨y, H2, I2, ry, a, xs, k, v, ex, D, hk, dk, g, q2⟩ => ?_)
  subst ex
  obtain rfl : u = Value.ref a := rx
  exact ⟨D.ty I2, m_getItem (by omega) I2 D hk dk ry g fun s3 z I3 rz => ⟨v, H2, I3, rz, q2⟩⟩
theorem ps_mput (hu : X.A.units + 64 < cLine) (ho : PE X o td) (hi : PE X i ty) (hv : PE X value tv) (hs : swapsWith value (some (.Subscript o i pos')) pos.line X.env = pure false) :
    PS X (.Assign [.Subscript o i pos'] value pos) (sMPut X.w td ty tv) := by
  refine ⟨fun pins s σ H D I h => ?_⟩
  refine wpAny_Assign_Subscript (thn (hv.run pins s σ H _ I h) fun r s1 ⟨v, H1, I1, rv, q1⟩ => thn (ho.run pins s1 σ H1 _ I1 q1) fun u s2 ⟨x, H2, I2, rx, q2⟩ => thn (hi.run pins s2 σ H2 _ I2 q2) fun iv s3 ⟨y, H3, I3, ry, a, xs, k, ex, M, hk, dk, few, q3⟩ => ?_) hs
  subst ex
  obtain rfl : u = Value.ref a := rx
  exact m_setItem (by omega) I3 M hk dk ry rv few fun s4 I4 => ⟨σ, _, I4, q3⟩
theorem pe_mnew : PE X (.Dict [] [] pos) (tMNew X.w) := ⟨fun pins s σ H Q I h =>
  wpAny_Dict_empty ⟨.ref s.heap.objs.size, _, I.laid (a := s.heap.objs.size) (o := mDict X.w s.heap.objs.size []) (t' := s.toks) (fun _ _ q => Heap.get?_push_of_some _ q) (Nat.le_refl _) (mObj ⟨⟨_, #[], 0, Heap.get?_push_size _ rfl, ⟨rfl, rfl, rfl⟩, rfl, .nil⟩, List.nodup_nil, fun _ h => (nomatch h), beq_eq_false_iff_ne.mpr (Ne.symm (Nat.ne_of_lt I.big)), Nat.zero_le _⟩), rfl, h _ (I.hok.fresh (Nat.le_refl _))⟩⟩
end
end KX
end
section
set_option autoImplicit false
set_option maxRecDepth 100000
set_option maxHeartbeats 4000000
/-! for k in d of dicts with texts and tuples as keys (d locked while it is walked) -/
namespace KX
open PySem PySem.Spec PyProof.Rows L2
/-- the key values, in order -/
def Itm (w : World) (d : Addr) (o : Obj) (xs : List MRow) : It :=
  ⟨fun i H => H d = some (.frz o (mDict w d xs)) ∧ i < xs.length, fun i H x H' => H' = H ∧ ∃ row, xs[i]? = some row ∧ x = row.2.1, fun i H => H d = some (.frz o (mDict w d xs)) ∧ xs.length ≤ i⟩
theorem walk_m {w : World} {d : Addr} {o : Obj} {xs : List MRow} : Walk (Itm w d o xs) xs.length (fun H => H d = some (.frz o (mDict w d xs))) (fun i H x H' => H' = H ∧ ∃ row, xs[i]? = some row ∧ x = row.2.1) :=
  ⟨fun _ _ hi q => ⟨q, hi⟩, fun _ q => ⟨q, Nat.le_refl _⟩, fun _ _ _ _ _ _ y => y⟩
section
variable {X : Cx} {pins : List (Addr × Obj)} {σ : L2.St} {H : Hp} {s : Shared} {d : Addr} {o : Obj} {xs : List MRow}
theorem frz_m (I : Inv X pins σ H s) (h : H d = some (.frz o (mDict X.w d xs))) : s.heap.get? d = some o ∧ (d == sysModules) = false ∧ o.ExactDict ∧ ∃ (es : Array DictEntry) (ep : Nat), o.data = .dict es ep ∧ es.size = xs.length ∧ Paired (MRel X.w) xs es.toList := by
  obtain ⟨hd, ⟨⟨⟨o', es, ep, e1, e2, e3, e4⟩, nd, dp, lo, few⟩, _⟩⟩ := (show ObjOk X.prog X.w H s.heap d (.frz o (mDict X.w d xs)) from I.hok d _ h)
  rw [hd] at e1
  cases e1
  exact ⟨hd, lo, e2, es, ep, e3, by rw [Paired.length e4, Array.length_toList], e4⟩
end
section
variable {P : Program} {w : World} {K : PySem.W.Frag} {tg : Expr} {d : Addr} {o : Obj} {es : Array DictEntry} {ep : Nat} {xs : List MRow}
theorem turn_m (it : Addr) (hod : o.data = .dict es ep) : Turn P w K tg (Itm w d o xs) [it] it (fun i h => h.IsKeyIter it d i xs.length ep) where
  mem := List.mem_singleton.mpr rfl
  obj := fun i h st b hb => by
    cases List.mem_singleton.mp hb
    obtain ⟨oi, e, c, dd⟩ := st
    exact ⟨oi, e, fun v z => by rw [dd] at z; cases z⟩
  keep := fun i h h' st k => st.at fun oi e => k it (List.mem_singleton.mpr rfl) oi e
  item := by
    intro X hP hw hK hc i pins s σ H E I hf st hg
    cases hP
    cases hw
    cases hK
    obtain ⟨hd, hi⟩ := hg
    have hit := hf it (List.mem_singleton.mpr rfl)
    obtain ⟨hgd, _, _, es2, ep2, hdt, sz, pr⟩ := frz_m I hd
    rw [hod] at hdt
    cases hdt
    obtain ⟨row, hrow⟩ : ∃ p, xs[i]? = some p := ⟨xs[i], List.getElem?_eq_getElem hi⟩
    obtain ⟨en, hen, _, rk, _⟩ := Paired.atL pr hrow
    rw [Array.getElem?_toList] at hen
    refine next_key_item st hgd hod sz hen fun h' st' sb => ?_
    have I1 : Inv X pins σ H { s with heap := h' } := I.turned (t' := s.toks) (fun b ob hb e => (sb.2 b hb).trans e) hit.1 hit.2.1 hit.2.2.2.1 hit.2.2.2.2.1 hit.2.2.2.2.2
    obtain ⟨oi, e, c, dd⟩ := id st'
    exact ⟨en.key, rfl, go_of (s := { s with heap := h' }) e c dd (by decide) ⟨row.2.1, H, I1, rk, ⟨rfl, row, hrow, rfl⟩, st', fun b hb => (hf b hb).1⟩⟩
  done := by
    intro X hP hw hK hc i pins s σ H E I hf st hg
    cases hP
    cases hw
    cases hK
    obtain ⟨hd, hi⟩ := hg
    have hit := hf it (List.mem_singleton.mpr rfl)
    obtain ⟨hgd, _, _, es2, ep2, hdt, sz, pr⟩ := frz_m I hd
    rw [hod] at hdt
    cases hdt
    exact next_key_end (I.ok.hd hc) st hgd hod sz hi fun h' eb => ⟨rfl, I.turned (t' := s.toks) (fun b ob hb e => eb b ob hb e) hit.1 hit.2.1 hit.2.2.2.1 hit.2.2.2.2.1 hit.2.2.2.2.2⟩
  self := fun A i s Q E st h => wpAny_pyIter_keyiter st h
end
def iMKeys (w : World) (td : TE) : TI := fun σ H R => td σ H fun x H1 => ∃ d o xs, x = .ref d ∧ H1 d = some (.frz o (mDict w d xs)) ∧ R (Itm w d o xs) H1
/-- for k in d -/
theorem pi_mkeys {X : Cx} {tg e : Expr} {td : TE} (he : PE X e td) : PI X tg e (iMKeys X.w td) := by
  refine ⟨fun pins s σ H R I h => ?_⟩
  refine thn (he.run pins s σ H _ I h) fun u s1 ⟨x, H1, I1, rx, d, o, xs, ex, hd, q⟩ => ?_
  subst ex
  cases (show u = Value.ref d from rx)
  obtain ⟨hgd, lo, hx, es, ep, hdt, sz, pr⟩ := frz_m I1 hd
  refine iter_keys lo hgd hx hdt (pi_one (tk := s1.toks) I1 _ (turn_m _ hdt) ⟨_, Heap.get?_push_size _ rfl, rfl, ?_⟩ q)
  rw [sz] <;> rfl
end KX
end
section
set_option autoImplicit false
set_option maxRecDepth 100000
set_option maxHeartbeats 4000000
/-! {k: v for ..} where the new dict is of any kind: nw what it is at first, put what one d[k] = v asks -/
namespace KX
open PySem PySem.Spec PyProof.Rows L2
abbrev PutR := Hp → Addr → V → V → (Hp → Prop) → Prop
def tGDc (nw : Addr → HO) (put : PutR) (wi : TI) (g : TG) (tt : TT) (tk tv : TE) (vs : List Nat) : TE := fun σ H Q => wi σ H fun J H1 => ∀ D, H1 D = none → ∃ W : Nat → Nat → Hp → Prop, (∃ m, W 0 m (upd H1 D (nw D))) ∧ ∀ i m H, W i m H →
  (J.stop i H ∧ Q (.ref D) H) ∨ (J.go i H ∧ ∃ Nx : Hp → Prop, (∀ H', Nx H' → ∃ m', m' < m ∧ W (i + 1) m' H') ∧ ∀ x H', J.yld i H x H' → g x (wipe σ vs) H' fun σ2 H2 => wipe σ2 vs = wipe σ vs ∧ tt σ2 H2 fun b H3 =>
    if b = true then tk σ2 H3 fun y H4 => tv σ2 H4 fun z H5 => put H5 D y z Nx else Nx H3)
/-- a kind of new dict -/
structure GKind (X : Cx) (nw : Addr → HO) (put : PutR) : Prop where
  fresh : ∀ (h : Heap) (H : Hp), sysModules < h.objs.size → ObjOk X.prog X.w H (h.push { cls := .type "dict", data := .dict #[] }) h.objs.size (nw h.objs.size)
  wr : ∀ (Y : Cx), Y.prog = X.prog → Y.w = X.w → Y.A = X.A → ∀ (pins : List (Addr × Obj)) (s : Shared) (σ : L2.St) (H : Hp) (D : Addr) (y v : V) (u r : Value) (Nx : Hp → Prop) (Q : Unit → Shared → Prop) (E : Value → Shared → Prop),
    Inv Y pins σ H s → put H D y v Nx → RelV y u → RelV v r → (∀ s' H', Inv Y pins σ H' s' → Nx H' → Q () s') → wpAny (model Y.prog Y.w) Y.A (dictSet D u r) Q E s
section
variable {X : Cx} {nw : Addr → HO} {put : PutR}
theorem gdc_core {pins : List (Addr × Obj)} {s : Shared} {σ : L2.St} {H : Hp} {Q : VK} {ek ev tg it0 : Expr} {ifs : List Expr} {sc : Scope} {own : List (Str × Nat)} {p1 p2 : Pos} {wi : TI} {g : TG} {tt : TT} {tk tv : TE} {use : Option (Value → Sem Unit)} {Qf : Value → Shared → Prop}
    (G : GKind X nw put) (calm : X.calm = true) (nd : X.N.Nodup) (I : Inv X pins σ H s) (hi : PI X tg it0 wi) (blk : BlkOk X.N X.env.scope sc own)
    (hg : ∀ (s : Shared) (H : Hp) (C : Addr) (cl : List (Str × Addr)) (fp : List Addr), PG (X.blk s H sc (compEnvC sc cl C X.env) fp) tg g)
    (ht : ∀ (s : Shared) (H : Hp) (C : Addr) (cl : List (Str × Addr)) (fp : List Addr), PTs (X.blk s H sc (compEnvC sc cl C X.env) fp) ifs tt)
    (hk : ∀ (s : Shared) (H : Hp) (C : Addr) (cl : List (Str × Addr)) (fp : List Addr), PE (X.blk s H sc (compEnvC sc cl C X.env) fp) ek tk)
    (hv : ∀ (s : Shared) (H : Hp) (C : Addr) (cl : List (Str × Addr)) (fp : List Addr), PE (X.blk s H sc (compEnvC sc cl C X.env) fp) ev tv) (hs : ∀ x, foldedSetIterable it0 X.env x = pure x)
    (h : tGDc nw put wi g tt tk tv (own.map (·.2)) σ H Q)
    (out : ∀ D C s' m H', Inv X pins σ H' s' → Q (.ref D) H' → s'.heap.Ns C m → FpOk X pins H' C → compPost (model X.prog X.w) X.A X.xe use Qf (.ref D) C (.ok .next) s') :
    wpAny (model X.prog X.w) X.A (comprehension (.DictComp ek ev [⟨tg, it0, ifs, 0⟩] sc p1) sc X.env p2 newDict false (eval it0 X.env) use) Qf X.xe s := by
  have cells : ∀ z ∈ sc.names, z.2 = .free → ∃ c, X.env.cells.lookup z.1 = some c := fun z hz q => (blk.free z hz q).elim (fun q => I.ok.has _ (.inl q)) fun q => I.ok.has _ (.inr q)
  refine wpAny_comprehension_free (use := use) rfl hs (closure_ok cells) blk.kind (fun z hz q => by rw [blk.uniq z hz, q]) (thn (hi.run pins s σ H _ I h) fun _ sA hx => thn hx fun _ sB ⟨it, fp, tn, J, HB, e, IB, T, stB, fB, q⟩ => ?_)
  subst e
  refine wpAny_newObj_type (newEnv_comp ?_)
  obtain ⟨D, eD⟩ : ∃ D, sB.heap.objs.size = D := ⟨_, rfl⟩
  rw [eD]
  obtain ⟨W, ⟨m0, w0⟩, turn⟩ := q D (IB.hok.fresh (Nat.le_of_eq eD))
  obtain ⟨sC, eC⟩ : ∃ sC : Shared, sC = { sB with heap := sB.heap.push { cls := .type "dict", data := .dict #[] } } := ⟨_, rfl⟩
  have IC : Inv X pins σ (upd HB D (nw D)) sC := by
    rw [eC, ← eD]
    exact IB.laid (t' := sB.toks) (fun b o e => Heap.get?_push_of_some _ e) (Nat.le_refl _) (G.fresh _ _ IB.big)
  have grow : ∀ b o, sB.heap.get? b = some o → sC.heap.get? b = some o := fun b o e => by rw [eC]; exact Heap.get?_push_of_some _ e
  have low : ∀ b ∈ fp, b < D := fun b hb => by
    obtain ⟨o, e, _⟩ := T.obj _ _ stB b hb
    rw [← eD]
    exact Heap.lt_size e
  have fC : ∀ b ∈ fp, FpOk X pins (upd HB D (nw D)) b ∧ b < sC.heap.objs.size := fun b hb => by
    have l := low b hb
    refine ⟨⟨by rw [upd_ne (Nat.ne_of_lt l)]; exact (fB b hb).1, (fB b hb).2⟩, ?_⟩
    rw [eC]
    show b < (sB.heap.push _).objs.size
    rw [Heap.size_push, eD]
    exact Nat.lt_succ_of_lt l
  have stC : tn 0 sC.heap := T.keep _ _ _ stB fun b _ o e => grow b o e
  have IE := block_start IC blk nd fC
  have pg := hg sC (upd HB D (nw D)) sC.heap.objs.size (cellsFrom (sC.heap.objs.size + 1) sc.names (cloFrom X.env.cells sc.names [])) fp
  have pt := ht sC (upd HB D (nw D)) sC.heap.objs.size (cellsFrom (sC.heap.objs.size + 1) sc.names (cloFrom X.env.cells sc.names [])) fp
  have pk := hk sC (upd HB D (nw D)) sC.heap.objs.size (cellsFrom (sC.heap.objs.size + 1) sc.names (cloFrom X.env.cells sc.names [])) fp
  have pv := hv sC (upd HB D (nw D)) sC.heap.objs.size (cellsFrom (sC.heap.objs.size + 1) sc.names (cloFrom X.env.cells sc.names [])) fp
  rw [← eC]
  obtain ⟨env, eE⟩ : ∃ env, env = compEnvC sc (cellsFrom (sC.heap.objs.size + 1) sc.names (cloFrom X.env.cells sc.names [])) sC.heap.objs.size X.env := ⟨_, rfl⟩
  rw [← eE] at IE pg pt pk pv
  have cL : env.locals = sC.heap.objs.size := by rw [eE]; rfl
  obtain ⟨sE, eS⟩ : ∃ sE : Shared, sE = { sC with heap := pushCells (sC.heap.push { cls := .type "dict", data := .dict #[] }) sc.names } := ⟨_, rfl⟩
  rw [← eS] at IE
  show codeAny _ _ (.compStart (.DictComp ek ev [⟨tg, it0, ifs, 0⟩] sc p1) 0 (.ref it) (.ref D) (compEnvC sc (cellsFrom (sC.heap.objs.size + 1) sc.names (cloFrom X.env.cells sc.names [])) sC.heap.objs.size X.env)) (compPost (model X.prog X.w) X.A X.xe use Qf (.ref D) sC.heap.objs.size) { sC with heap := pushCells (sC.heap.push { cls := .type "dict", data := .dict #[] }) sc.names }
  rw [← eS, ← eE]
  have stE : tn 0 sE.heap := T.keep _ _ _ stC fun b _ o e => by
    rw [eS]
    exact pushCells_keeps _ _ _ _ (Heap.get?_push_of_some _ e)
  have clean : ∀ b ∈ fp, (upd HB D (nw D)) b = none := fun b hb => (fC b hb).1.1
  obtain ⟨HC, eH⟩ : ∃ HC, HC = upd HB D (nw D) := ⟨_, rfl⟩
  rw [← eH] at IC IE pg pt pk pv w0 clean fC
  have stat : ∀ {τ : L2.St} {H' : Hp} {s' : Shared}, Inv (X.blk sC HC sc env fp) [] τ H' s' → (∀ b ∈ fp, H' b = none) → ∀ b ∈ fp, FpOk (X.blk sC HC sc env fp) [] H' b := fun {τ H' s'} J n b hb =>
    ⟨n b hb, (J.ok.exf b hb).1, J.ok.exfs b hb, .inl hb, fun x c e => (J.ok.exf b hb).2 x c e, fun p hp => (List.not_mem_nil (show p ∈ ([] : List (Addr × Obj)) from hp)).elim⟩
  refine codeAny_compStart_dict ?loop (T.self X.A 0 _ _ _ stE ?loop)
  refine compLoop_anyD (fun n s' => ∃ i H', Inv (X.blk sC HC sc env fp) [] (wipe σ (own.map (·.2))) H' s' ∧ tn i s'.heap ∧ (∀ b ∈ fp, H' b = none) ∧ W i n H') ?_ m0 ⟨0, HC, IE, stE, clean, w0⟩
  rintro n sF ⟨i, HF, IF, stF, nF, wF⟩
  rcases turn i n HF wF with ⟨stop, fin⟩ | ⟨go, Nx, more, step⟩
  · refine thnF (T.done (X.blk sC HC sc env fp) rfl rfl rfl calm i [] sF _ HF (fun _ _ => False) IF (stat IF nF) stF stop) fun r sG ⟨hr, IG⟩ => ?_
    subst hr
    have back : Inv X pins σ HF sG := IC.call' (ch := fp) IG.os IG.base IG.hok IG.bare fun b hb => by
      obtain ⟨⟨_, a1, _, a3, a4, a5⟩, _⟩ := fC b hb
      exact ⟨a3, a1, a4, a5⟩
    have gone : HF env.locals = none := IG.free
    obtain ⟨m, hn, _⟩ := IG.loc
    have hn : sG.heap.Ns env.locals m := hn
    rw [cL] at gone hn
    exact out D _ sG m HF back fin hn (IC.fpOk (Nat.le_refl _) gone)
  · refine thnF (T.item (X.blk sC HC sc env fp) rfl rfl rfl calm i [] sF _ HF (fun _ _ => False) IF (stat IF nF) stF go) fun r sG ⟨u, hr, hG⟩ => ?_
    subst hr
    refine thnF hG fun _ sI ⟨x, HI, II, rI, yI, stI, nI⟩ => ?_
    have IP := II.pinned (stat II nI) (T.obj _ _ stI)
    refine thnF (pg.run _ sI _ HI x u _ IP rI (step x HI yI)) fun _ sJ ⟨τ, HJ, IJ, same, qJ⟩ => ?_
    refine thnF (pt.run _ sJ τ HJ _ IJ qJ) fun b sK ⟨HK, IK, qK⟩ => ?_
    have ends : ∀ {s' : Shared} {H' : Hp}, Inv (X.blk sC HC sc env fp) ([] ++ pinsAt fp sI.heap) τ H' s' → Nx H' → ∃ m, m < n ∧ ∃ i H', Inv (X.blk sC HC sc env fp) [] (wipe σ (own.map (·.2))) H' s' ∧ tn i s'.heap ∧ (∀ b ∈ fp, H' b = none) ∧ W i m H' := fun {s' H'} J nx => by
      obtain ⟨m', lt, w'⟩ := more H' nx
      have held : ∀ b ∈ fp, ∀ o, sI.heap.get? b = some o → s'.heap.get? b = some o ∧ H' b = none := fun b hb o e => by
        have z := J.pin (b, o) (List.mem_append_right _ (List.mem_append_right _ (mem_pinsAt hb e)))
        exact ⟨z.1, z.2.1⟩
      refine ⟨m', lt, i + 1, H', J.unpinned.weak (by rw [← same, wipe_length]) (fun j v e => by rw [← same] at e; exact (wipe_some e).1), T.keep _ _ _ stI fun b hb o e => (held b hb o e).1, fun b hb => ?_, w'⟩
      obtain ⟨o, e, _⟩ := T.obj _ _ stI b hb
      exact (held b hb o e).2
    cases b with
    | false => exact ends IK qK
    | true =>
      refine thnF (pk.run _ sK τ HK _ IK qK) fun z sL ⟨yk, HL, IL, rL, qL⟩ => ?_
      refine thnF (pv.run _ sL τ HL _ IL qL) fun z2 sM ⟨yv, HM, IM, rM, qM⟩ => ?_
      exact G.wr (X.blk sC HC sc env fp) rfl rfl rfl _ sM τ HM D yk yv z z2 Nx _ _ IM qM rL rM fun s' H' J nx => ends J nx
end
end KX
end
section
set_option autoImplicit false
set_option maxRecDepth 100000
set_option maxHeartbeats 4000000
/-! {k: v for ..} as a value and kept under a name; its dict with texts and tuples as keys -/
namespace KX
open PySem PySem.Spec PyProof.Rows L2
section
variable {X : Cx} {nw : Addr → HO} {put : PutR}
theorem pe_gdc {ek ev tg it0 : Expr} {ifs : List Expr} {sc : Scope} {own : List (Str × Nat)} {p1 : Pos} {wi : TI} {g : TG} {tt : TT} {tk tv : TE} (G : GKind X nw put) (calm : X.calm = true) (nd : X.N.Nodup) (hi : PI X tg it0 wi) (blk : BlkOk X.N X.env.scope sc own)
    (hg : ∀ (s : Shared) (H : Hp) (C : Addr) (cl : List (Str × Addr)) (fp : List Addr), PG (X.blk s H sc (compEnvC sc cl C X.env) fp) tg g)
    (ht : ∀ (s : Shared) (H : Hp) (C : Addr) (cl : List (Str × Addr)) (fp : List Addr), PTs (X.blk s H sc (compEnvC sc cl C X.env) fp) ifs tt)
    (hk : ∀ (s : Shared) (H : Hp) (C : Addr) (cl : List (Str × Addr)) (fp : List Addr), PE (X.blk s H sc (compEnvC sc cl C X.env) fp) ek tk)
    (hv : ∀ (s : Shared) (H : Hp) (C : Addr) (cl : List (Str × Addr)) (fp : List Addr), PE (X.blk s H sc (compEnvC sc cl C X.env) fp) ev tv) (hs : ∀ x, foldedSetIterable it0 X.env x = pure x := by intro _; rfl) :
    PE X (.DictComp ek ev [⟨tg, it0, ifs, 0⟩] sc p1) (tGDc nw put wi g tt tk tv (own.map (·.2))) := by
  refine ⟨fun pins s σ H Q I h => ?_⟩
  rw [arm_eval_DictComp]
  refine gdc_core G calm nd I hi blk hg ht hk hv hs h fun D C s' m H' J q hn f => ⟨m, hn, fun h2 sb => ⟨.ref D, H', ?_, rfl, q⟩⟩
  exact J.turned (t' := s'.toks) (fun b o hb e => (sb.2 b hb).trans e) f.1 f.2.1 f.2.2.2.1 f.2.2.2.2.1 f.2.2.2.2.2
theorem ps_setGdc {i : Nat} {y : Str} {py : Pos} {ek ev tg it0 : Expr} {ifs : List Expr} {sc : Scope} {own : List (Str × Nat)} {p1 sp : Pos} {wi : TI} {g : TG} {tt : TT} {tk tv : TE} (G : GKind X nw put) (calm : X.calm = true) (nd : X.N.Nodup) (hy : X.N[i]? = some y) (hyl : X.env.scope.names.lookup y = some .local)
    (hsw : swapsWith (.DictComp ek ev [⟨tg, it0, ifs, 0⟩] sc p1) (some (.Name y py)) sp.line X.env = pure true) (hi : PI X tg it0 wi) (blk : BlkOk X.N X.env.scope sc own)
    (hg : ∀ (s : Shared) (H : Hp) (C : Addr) (cl : List (Str × Addr)) (fp : List Addr), PG (X.blk s H sc (compEnvC sc cl C X.env) fp) tg g)
    (ht : ∀ (s : Shared) (H : Hp) (C : Addr) (cl : List (Str × Addr)) (fp : List Addr), PTs (X.blk s H sc (compEnvC sc cl C X.env) fp) ifs tt)
    (hk : ∀ (s : Shared) (H : Hp) (C : Addr) (cl : List (Str × Addr)) (fp : List Addr), PE (X.blk s H sc (compEnvC sc cl C X.env) fp) ek tk)
    (hv : ∀ (s : Shared) (H : Hp) (C : Addr) (cl : List (Str × Addr)) (fp : List Addr), PE (X.blk s H sc (compEnvC sc cl C X.env) fp) ev tv) (hs : ∀ x, foldedSetIterable it0 X.env x = pure x := by intro _; rfl) :
    PS X (.Assign [.Name y py] (.DictComp ek ev [⟨tg, it0, ifs, 0⟩] sc p1) sp) (tAsg (tGDc nw put wi g tt tk tv (own.map (·.2))) (gName i)) := by
  refine ⟨fun pins s σ H D I h => ?_⟩
  rw [exec_Assign_Name_used _ _ _ _ hsw]
  refine wpAny_bind (wpAny_standAt (wpAny_bind ?_))
  show wpAny _ X.A (comprehension (.DictComp ek ev [⟨tg, it0, ifs, 0⟩] sc p1) sc X.env (firstIterPos [⟨tg, it0, ifs, 0⟩] p1) newDict false (eval it0 X.env) (some (assign (.Name y py) X.env)) >>= fun _ => _) _ _ s
  have h2 : tGDc nw put wi g tt tk tv (own.map (·.2)) σ H (fun x H1 => gName i x σ H1 D.nx) := h
  refine wpAny_bind (thn (gdc_core (Qf := fun _ s' => SP X pins D .next s') G calm nd I hi blk hg ht hk hv hs h2 fun L C s' m H' J q hn f => ?_) fun _ s' hq => wpAny_pure (wpAny_pure hq))
  show wpAny _ _ (assign (.Name y py) X.env (.ref L)) _ _ _
  refine wpAny_assign_Name (store_ok2 (v := V.ref L) J nd hy (.inl hyl) rfl (fun s2 J2 ⟨a, sb, ha⟩ => ?_) (.inr hyl))
  have off : C ≠ a := ha.elim (fun z => by rw [z]; exact f.2.1) (fun z e => f.2.2.2.2.1 y a z e.symm)
  exact ⟨m, hn.sameBut sb off, fun h3 sb3 => ⟨_, H', J2.turned (t' := s2.toks) (fun b o hb e => (sb3.2 b hb).trans e) f.1 f.2.1 f.2.2.2.1 f.2.2.2.2.1 f.2.2.2.2.2, q⟩⟩
end
/-- d[k] = v of a dict with texts and tuples as keys -/
def mPutR (w : World) : PutR := fun H D y v Nx => ∃ xs k, MD w H D xs ∧ MKeyAt H k y ∧ k.depth ≤ 8 ∧ xs.length < sizeLine ∧ Nx (upd H D (mDict w D (mPut xs k y v)))
theorem m_kind {X : Cx} (hu : X.A.units + 16 < cLine) : GKind X (fun D => mDict X.w D []) (mPutR X.w) where
  fresh := fun h H big => mObj ⟨⟨_, #[], 0, Heap.get?_push_size _ rfl, ⟨rfl, rfl, rfl⟩, rfl, .nil⟩, List.nodup_nil, fun _ h => (nomatch h), beq_eq_false_iff_ne.mpr (Ne.symm (Nat.ne_of_lt big)), Nat.zero_le _⟩
  wr := fun Y eP ew eA pins s σ H D y v u r Nx Q E I p ry rv k => by
    obtain ⟨xs, key, M, hk, dk, few, nx⟩ := p
    rw [← ew] at M nx
    exact m_dictSet (by rw [eA]; exact hu) I M hk dk ry rv few fun s' J => k s' _ J nx
end KX
end
section
set_option autoImplicit false
set_option maxRecDepth 100000
set_option maxHeartbeats 4000000
/-! for k, v in d.items() of dicts with texts and tuples as keys -/
namespace KX
open PySem PySem.Spec PyProof.Rows L2
def Itmi (w : World) (d : Addr) (o : Obj) (xs : List MRow) : It :=
  ⟨fun i H => H d = some (.frz o (mDict w d xs)) ∧ i < xs.length, fun i H x H' => ∃ T row, x = .ref T ∧ xs[i]? = some row ∧ H T = none ∧ H' = upd H T (.tup [row.2.1, row.2.2]), fun i H => H d = some (.frz o (mDict w d xs)) ∧ xs.length ≤ i⟩
theorem walk_mi {w : World} {d : Addr} {o : Obj} {xs : List MRow} : Walk (Itmi w d o xs) xs.length (fun H => H d = some (.frz o (mDict w d xs))) (fun i H x H' => ∃ T row, x = .ref T ∧ xs[i]? = some row ∧ H T = none ∧ H' = upd H T (.tup [row.2.1, row.2.2])) :=
  ⟨fun _ _ hi q => ⟨q, hi⟩, fun _ q => ⟨q, Nat.le_refl _⟩, fun _ _ _ _ _ _ y => y⟩
section
variable {P : Program} {w : World} {K : PySem.W.Frag} {tg : Expr} {d : Addr} {o : Obj} {es : Array DictEntry} {ep : Nat} {xs : List MRow}
theorem turn_mi {elts : List Expr} {kk : Nat} {tp : Pos} (it : Addr) (hod : o.data = .dict es ep) : Turn P w K (.Tuple elts kk tp) (Itmi w d o xs) [it] it (fun i h => ∃ ok ov, IsItemIter h it d i xs.length ep ok ov) where
  mem := List.mem_singleton.mpr rfl
  obj := fun i h st b hb => by
    cases List.mem_singleton.mp hb
    obtain ⟨ok, ov, e⟩ := st
    exact ⟨_, e, fun v z => (nomatch z)⟩
  keep := fun i h h' st k => by
    obtain ⟨ok, ov, e⟩ := st
    exact ⟨ok, ov, k it (List.mem_singleton.mpr rfl) _ e⟩
  item := by
    intro X hP hw hK hc i pins s σ H E I hf st hg
    cases hP
    cases hw
    cases hK
    obtain ⟨hd, hi⟩ := hg
    obtain ⟨hgd, _, hx, es2, ep2, hdt, sz, pr⟩ := frz_m I hd
    rw [hod] at hdt
    cases hdt
    obtain ⟨row, hrow⟩ : ∃ p, xs[i]? = some p := ⟨xs[i], List.getElem?_eq_getElem hi⟩
    obtain ⟨en, hen, _, rk, rv⟩ := Paired.atL pr hrow
    rw [Array.getElem?_toList] at hen
    have lt : i < es.size := by omega
    have ee : es[i] = en := by
      rw [Array.getElem?_eq_getElem lt] at hen
      exact Option.some.inj hen
    obtain ⟨ok, ov, he⟩ := st
    rw [← sz] at he
    have low : it < s.heap.objs.size := Heap.lt_size he
    refine wpAny_pyNext_items_item_raw he ⟨o, hgd, hx, hod⟩ lt fun h' ho hT hz hk => ?_
    rw [ee] at ho hT
    refine ⟨_, rfl, wpAny_letOwnedTupleGo_items (s := { s with heap := h' }) ho fun h2 he2 sb => ?_⟩
    have hT2 : h2.get? s.heap.objs.size = some { cls := .type "tuple", data := .seq #[en.key, en.val] } := (sb.2 _ (Nat.ne_of_gt low)).trans hT
    have pair : ObjOk X.prog X.w (upd H s.heap.objs.size (.tup [row.2.1, row.2.2])) h2 s.heap.objs.size (.tup [row.2.1, row.2.2]) := by
      refine ⟨?_, [en.key, en.val], .cons rk (.cons rv .nil), ⟨_, hT2, rfl, _, rfl⟩⟩
      rw [sizeLine_eq]
      show 2 ≤ 16777216
      decide
    have J : Inv X pins σ (upd H s.heap.objs.size (.tup [row.2.1, row.2.2])) { s with heap := h2 } :=
      I.turnedNew (t' := s.toks) (ch := [it]) (fun b ob hb e => by
        have n : b ≠ it := fun q => hb (List.mem_singleton.mpr q)
        exact (sb.2 b n).trans (hk b ob n e)) hf (Nat.le_refl _) pair
    refine ⟨.ref s.heap.objs.size, _, J, rfl, ⟨_, row, rfl, hrow, I.hok.fresh (Nat.le_refl _), rfl⟩, ⟨en.key, en.val, ?_⟩, fun b hb => ?_⟩
    · rw [← sz]
      exact he2
    · cases List.mem_singleton.mp hb
      rw [upd_ne (Nat.ne_of_lt low)]
      exact (hf it (List.mem_singleton.mpr rfl)).1
  done := by
    intro X hP hw hK hc i pins s σ H E I hf st hg
    cases hP
    cases hw
    cases hK
    obtain ⟨hd, hi⟩ := hg
    have hit := hf it (List.mem_singleton.mpr rfl)
    obtain ⟨hgd, _, hx, es2, ep2, hdt, sz, pr⟩ := frz_m I hd
    rw [hod] at hdt
    cases hdt
    obtain ⟨ok, ov, he⟩ := st
    rw [← sz] at he
    exact wpAny_pyNext_items_end_raw (I.ok.hd hc) he ⟨o, hgd, hx, hod⟩ (by omega) fun h' eb => ⟨rfl, I.turned (t' := s.toks) (fun b ob hb e => eb b ob hb e) hit.1 hit.2.1 hit.2.2.2.1 hit.2.2.2.2.1 hit.2.2.2.2.2⟩
  self := fun A i s Q E st h => by
    obtain ⟨_, _, e⟩ := st
    exact PySem.W.kcp_self e h
end
def iMItems (w : World) (td : TE) : TI := fun σ H R => td σ H fun x H1 => ∃ d o xs, x = .ref d ∧ H1 d = some (.frz o (mDict w d xs)) ∧ R (Itmi w d o xs) H1
/-- for k, v in d.items() -/
theorem pi_mitems {X : Cx} {e : Expr} {td : TE} {elts : List Expr} {kk : Nat} {tp apos cpos : Pos} (he : PE X e td) (hb : attributeBase e "items" X.env (eval e X.env) = eval e X.env := by rfl) (hl : (apos.endLine == cpos.line) = true := by rfl) :
    PI X (.Tuple elts kk tp) (.Call (.Attribute e "items" apos) [] [] cpos) (iMItems X.w td) := by
  refine ⟨fun pins s σ H R I h => ?_⟩
  refine wpAny_Call_method (T := "dict") (id := "dict.items") hb rfl hl F.plainAttrs_dict F.slot_dict_items F.type_dict_items (thn (he.run pins s σ H _ I h) fun u s1 ⟨x, H1, I1, rx, d, o, xs, ex, hd, q⟩ => ?_)
  subst ex
  cases (show u = Value.ref d from rx)
  obtain ⟨hgd, lo, hx, es, ep, hdt, sz, pr⟩ := frz_m I1 hd
  have raw : s1.heap.DictRaw d es ep := ⟨o, hgd, hx, hdt⟩
  refine ⟨raw.typeIs, fun b q => by cases q; exact ⟨o, hgd, hx.2.1⟩, ?_⟩
  have I2 : Inv X pins σ H1 { s1 with heap := s1.heap.push { cls := .type "dict_items", data := .fields #[.ref d] } } := I1.kept (t' := s1.toks) fun b ob q => Heap.get?_push_of_some _ q
  have fin : wpAny (model X.prog X.w) X.A (pyIter (.ref s1.heap.objs.size)) (PIE X pins σ (.Tuple elts kk tp) R) X.xe { s1 with heap := s1.heap.push { cls := .type "dict_items", data := .fields #[.ref d] } } := by
    refine wpAny_pyIter_items_raw (d := d) ⟨_, Heap.get?_push_size _ rfl, rfl, rfl⟩ (Heap.DictRaw.at raw fun _ e => Heap.get?_push_of_some _ e) (pi_one (tk := s1.toks) I2 _ (turn_mi _ hdt) ⟨.none, .none, ?_⟩ q)
    rw [← sz]
    exact Heap.get?_push_size _ rfl
  show wpAny _ _ (callWith cpos (.builtin "dict.items") [.ref d] [] []) _ X.xe s1
  exact method_meetsIn F.slot_dict_items F.entry_dict_items rfl (PySem.evalArgs_none ⟨rfl, raw.typeIs, F.args_dict_items_1 _, _, meets_dict_items_raw d lo, ⟨es, ep, raw⟩, fin⟩)
end KX
end
section
set_option autoImplicit false
set_option maxRecDepth 100000
set_option maxHeartbeats 4000000
/-! d[k] of a locked dict with texts and tuples as keys; rows of a new dict one by one -/
namespace KX
open PySem PySem.Spec PyProof.Rows L2
section
variable {X : Cx} {pins : List (Addr × Obj)} {σ : L2.St} {H : Hp} {s : Shared} {a : Addr} {A : Around} {E : Value → Shared → Prop} {xs : List MRow} {k : NestedKey} {y : V} {u : Value}
/-- a dict that is locked -/
structure MF (w : World) (H : Hp) (a : Addr) (o : Obj) (xs : List MRow) : Prop where
  at_ : H a = some (.frz o (mDict w a xs))
  ks : ∀ x ∈ xs, MKeyAt H x.1 x.2.1
theorem MF.ok {P : Program} {w : World} {h : Heap} {o : Obj} (ok : HOk P w H h) (D : MF w H a o xs) : MDOk w h a xs := by
  obtain ⟨_, m⟩ := (show ObjOk P w H h a (.frz o (mDict w a xs)) from ok a _ D.at_)
  exact (show ObjOk P w H h a (mDict w a xs) from m).1
theorem mf_mix {P : Program} {w : World} {h : Heap} {es : Array DictEntry} (ok : HOk P w H h) (m : MDOk w h a xs) (ks : ∀ x ∈ xs, MKeyAt H x.1 x.2.1) (r : Paired (MRel w) xs es.toList) : MixOk w h es (xs.map (·.1)) := by
  refine ⟨by rw [List.length_map, Paired.length r, Array.length_toList], fun i e he => ?_, m.nd⟩
  obtain ⟨x, hx, e1, e2, _⟩ := Paired.atR r (by rw [Array.getElem?_toList]; exact he)
  have mx := List.mem_of_getElem? hx
  exact ⟨x.1, by rw [List.getElem?_map, hx]; rfl, mkey_of ok (ks x mx) e2, m.dp x mx, e1⟩
theorem mf_dictGet {Q : Option Value → Shared → Prop} (hu : A.units + 16 < cLine) (I : Inv X pins σ H s) (M : MDOk X.w s.heap a xs) (ks : ∀ x ∈ xs, MKeyAt H x.1 x.2.1) (hk : MKeyAt H k y) (dk : k.depth ≤ 8) (ry : RelV y u)
    (h : ∀ s' r, Inv X pins σ H s' → RelO (mGet xs k) r → Q r s') : wpAny (model X.prog X.w) A (dictGet a u) Q E s := by
  obtain ⟨⟨o, es, ep, ho, _, hd, r⟩, nd, _⟩ := id M
  have is := mkey_of I.hok hk ry
  have m := mf_mix I.hok M ks r
  unfold dictGet
  try with_reducible refine wpAny_holding ?_
  refine wpAny_bind (pyHash_key k u A s _ is (by omega) (wpAny_bind ?_))
  have I1 := I.tok (s.toks + k.draws)
  refine mix_find (s := { s with toks := s.toks + k.draws }) (by omega) is dk ho hd m (fun n => ?_) (fun j e => ?_)
  · refine wpAny_pure (h _ none I1 ?_)
    rw [mGet_none n]
    exact True.intro
  · rw [List.getElem?_map] at e
    obtain ⟨x, hx, rfl⟩ := Option.map_eq_some_iff.mp e
    obtain ⟨e2, he, _, _, rv⟩ := Paired.atL r hx
    rw [Array.getElem?_toList] at he
    refine wpAny_bind (wpAny_dictEntries (s := { s with toks := s.toks + x.1.draws }) ho hd (wpAny_pure (h _ _ I1 ?_)))
    rw [he, mGet_at nd hx]
    exact rv
theorem mf_getItem {v : V} {Q : Value → Shared → Prop} (hu : A.units + 32 < cLine) (I : Inv X pins σ H s) (M : MDOk X.w s.heap a xs) (ks : ∀ x ∈ xs, MKeyAt H x.1 x.2.1) (hk : MKeyAt H k y) (dk : k.depth ≤ 8) (ry : RelV y u) (g : mGet xs k = some v)
    (h : ∀ s' z, Inv X pins σ H s' → RelV v z → Q z s') : wpAny (model X.prog X.w) A (getItem (.ref a) u) Q E s := by
  have ty : s.TypeIs (.ref a) "dict" := by
    obtain ⟨o, _, _, ho, hc, _⟩ := M.ob
    exact ⟨o, ho, hc.1⟩
  unfold getItem
  try with_reducible refine wpAny_holding ?_
  refine wpAny_bind (wpAny_sequenceKey ty (by decide) (wpAny_bind (wpAny_callSpecial?_slot (name := Str.ofString "__getitem__") ty F.slot_dict_getitem (wpAny_call_entry F.slot_dict_getitem ty F.entry_dict_getitem ?_ (F.args_dict_getitem_2 _ _)))))
  show wpAny (model X.prog X.w) _ (dictGet a u >>= fun _ => _) _ _ s
  refine wpAny_bind (mf_dictGet (by show A.units + 1 + 16 < cLine; omega) I M ks hk dk ry fun s' r I' rel => ?_)
  rw [g] at rel
  cases r with
  | none => cases rel
  | some z => exact wpAny_pure ⟨z, rfl, wpAny_pure (h s' z I' rel)⟩
end
def tMGetF (w : World) (td ty : TE) : TE := fun σ H Q => td σ H fun x H1 => ty σ H1 fun y H2 => ∃ a o xs k v, x = .ref a ∧ MF w H2 a o xs ∧ MKeyAt H2 k y ∧ k.depth ≤ 8 ∧ mGet xs k = some v ∧ Q v H2
theorem pe_mgetF {X : Cx} {o i : Expr} {pos : Pos} {td ty : TE} (hu : X.A.units + 64 < cLine) (ho : PE X o td) (hi : PE X i ty) (hs : ∀ u w, subscripted i false u w = operate [u, w] (getItem u w)) : PE X (.Subscript o i pos) (tMGetF X.w td ty) := by
  refine ⟨fun pins s σ H Q I h => ?_⟩
  refine subD_of PySem.F.slot_dict_getitem.lookup hs (thn (ho.run pins s σ H _ I h) fun u s1 ⟨x, H1, I1, rx, q1⟩ => thn (hi.run pins s1 σ H1 _ I1 q1) fun iv s2 ⟨y, H2, I2, ry, a, o, xs, k, v, ex, D, hk, dk, g, q2⟩ => ?_)
  subst ex
  obtain rfl : u = Value.ref a := rx
  have M := D.ok I2.hok
  have ty : s2.TypeIs (.ref a) "dict" := by
    obtain ⟨o, _, _, ho, hc, _⟩ := M.ob
    exact ⟨o, ho, hc.1⟩
  exact ⟨ty, mf_getItem (by omega) I2 M D.ks hk dk ry g fun s3 z I3 rz => ⟨v, H2, I3, rz, q2⟩⟩
/-- the turns of {k: v for ..} -/
theorem dcW {J : It} {n : Nat} {Ok : Hp → Prop} {Y : Nat → Hp → V → Hp → Prop} {g : TG} {tt : TT} {tk tv : TE} {vs : List Nat} {σ : L2.St} {H1 : Hp} {D : Addr} {o0 : HO} {put : PutR} {Qd : Hp → Prop} (S : Walk J n Ok Y) (Pv : Nat → Hp → Prop) (ok : ∀ j H, j ≤ n → Pv j H → Ok H) (h0 : Pv 0 (upd H1 D o0))
    (hs : ∀ i x H H', i < n → Y i H x H' → Pv i H → g x (wipe σ vs) H' fun σ2 H2 => wipe σ2 vs = wipe σ vs ∧ tt σ2 H2 fun b H3 => if b = true then tk σ2 H3 fun y H4 => tv σ2 H4 fun z H5 => put H5 D y z (Pv (i + 1)) else Pv (i + 1) H3)
    (hd : ∀ H, Pv n H → Qd H) :
    ∃ W : Nat → Nat → Hp → Prop, (∃ m, W 0 m (upd H1 D o0)) ∧ ∀ i m H, W i m H →
      (J.stop i H ∧ Qd H) ∨ (J.go i H ∧ ∃ Nx : Hp → Prop, (∀ H', Nx H' → ∃ m', m' < m ∧ W (i + 1) m' H') ∧ ∀ x H', J.yld i H x H' → g x (wipe σ vs) H' fun σ2 H2 => wipe σ2 vs = wipe σ vs ∧ tt σ2 H2 fun b H3 =>
        if b = true then tk σ2 H3 fun y H4 => tv σ2 H4 fun z H5 => put H5 D y z Nx else Nx H3) := by
  refine ⟨fun j k H => k = n - j ∧ j ≤ n ∧ Pv j H, ⟨n, by simp, Nat.zero_le _, h0⟩, ?_⟩
  rintro j k H ⟨rfl, hj, p⟩
  have o := ok j H hj p
  by_cases lt : j < n
  · refine .inr ⟨S.goes j H lt o, Pv (j + 1), fun H' p' => ⟨n - (j + 1), by omega, rfl, lt, p'⟩, fun x H' y => ?_⟩
    exact hs j x H H' lt (S.yields j H x H' lt o y) p
  · have e : j = n := by omega
    subst e
    exact .inl ⟨S.stops H o, hd H p⟩
theorem walk_l (K : PySem.W.Frag) (a : Addr) (xs : List V) : Walk (Itl K a) xs.length (fun H => SqL K H a xs) (fun i H x H' => H' = H ∧ xs[i]? = some x) :=
  ⟨fun i H h q => ⟨xs, xs[i], q, by simp [h]⟩, fun H q => ⟨xs, q, Nat.le_refl _⟩, fun i H x H' h q y => ⟨y.1, y.2 xs q⟩⟩
end KX
end
section
set_option autoImplicit false
set_option maxRecDepth 100000
set_option maxHeartbeats 4000000
/-! == and in of keys: texts, integers, None and tuples of such -/
namespace KX
open PySem PySem.Spec PyProof.Rows L2
mutual
theorem key_data {H : Hp} {P : Program} {w : World} {h : Heap} (ok : HOk P w H h) : ∀ {k : NestedKey} {v : V}, MKeyAt H k v → ∀ {u : Value}, RelV v u → Reads h u k.data []
  | _, _, .non, u, r => by
    cases (show u = Value.none from r)
    exact .none
  | _, _, .num i, u, r => by
    obtain ⟨t, rfl⟩ := (show ∃ t, u = Value.int i t from r)
    exact .int i t
  | _, _, .text z, u, r => by
    obtain ⟨t, rfl⟩ := (show ∃ t, u = Value.str z t from r)
    exact .str z t
  | _, _, .tup e rr, u, r => by
    cases (show u = Value.ref _ from r)
    obtain ⟨_, its, rs, o, h1, h2, n, h3⟩ := (show ObjOk P w H h _ (.tup _) from ok _ _ e)
    exact .tuple h1 h2 h3 (by rw [List.toList_toArray]; exact keys_data ok rr rs)
theorem keys_data {H : Hp} {P : Program} {w : World} {h : Heap} (ok : HOk P w H h) : ∀ {ks : List NestedKey} {vs : List V}, MKeysAt H ks vs → ∀ {us : List Value}, Vals vs us → ReadsAll h us (NestedKey.datas ks) []
  | _, _, .nil, _, .nil => .nil
  | _, _, .cons r rr, _, .cons q qq => ReadsAll.cons (as := []) (bs := []) (key_data ok r q) (keys_data ok rr qq)
end
mutual
theorem data_depth : ∀ k : NestedKey, k.data.depth = k.depth
  | .none => rfl
  | .num _ => rfl
  | .text _ => rfl
  | .tup ks => by
    show PyData.depth (.tuple (NestedKey.datas ks)) = NestedKey.depthAll ks + 1
    rw [← datas_depth ks]
    simp only [PyData.depth]
    try omega
theorem datas_depth : ∀ ks : List NestedKey, PyData.depthAll (NestedKey.datas ks) = NestedKey.depthAll ks
  | [] => rfl
  | k :: ks => by
    show PyData.depthAll (k.data :: NestedKey.datas ks) = max k.depth (NestedKey.depthAll ks)
    rw [← data_depth k, ← datas_depth ks]
    simp only [PyData.depthAll]
end
mutual
theorem data_eqv : ∀ a b : NestedKey, PyData.eqv a.data b.data = NestedKey.beq a b
  | .none, b => by cases b <;> rfl
  | .num i, b => by
    cases b with
    | num j =>
      show (i == j) = decide (i = j)
      by_cases e : i = j <;> simp [e]
    | _ => rfl
  | .text x, b => by
    cases b with
    | text y =>
      show (x == y) = decide (x = y)
      by_cases e : x = y <;> simp [e]
    | _ => rfl
  | .tup as, b => by
    cases b with
    | tup bs => exact datas_eqv as bs
    | _ => rfl
theorem datas_eqv : ∀ as bs : List NestedKey, PyData.eqvAll (NestedKey.datas as) (NestedKey.datas bs) = NestedKey.beqAll as bs
  | [], [] => rfl
  | [], _ :: _ => rfl
  | _ :: _, [] => rfl
  | a :: as, b :: bs => by
    show (PyData.eqv a.data b.data && PyData.eqvAll (NestedKey.datas as) (NestedKey.datas bs)) = (NestedKey.beq a b && NestedKey.beqAll as bs)
    rw [data_eqv a b, datas_eqv as bs]
end
/-- a key that can be compared -/
def okK (k : NestedKey) : Bool := k.data.canLay0 && decide (k.depth ≤ 8)
theorem okK_lay {k : NestedKey} (h : okK k = true) : k.data.canLay0 = true := (Bool.and_eq_true_iff.mp h).1
theorem okK_dep {k : NestedKey} (h : okK k = true) : k.depth ≤ 8 := of_decide_eq_true (Bool.and_eq_true_iff.mp h).2
section
variable {X : Cx}
def rEqM : R2 := fun x y H Q => ∃ k1 k2, MKeyAt H k1 x ∧ MKeyAt H k2 y ∧ okK k1 = true ∧ okK k2 = true ∧ Q (.bl (decide (k1 = k2))) H
def rNeM : R2 := fun x y H Q => ∃ k1 k2, MKeyAt H k1 x ∧ MKeyAt H k2 y ∧ okK k1 = true ∧ okK k2 = true ∧ Q (.bl (!decide (k1 = k2))) H
theorem op_eqM (hu : X.A.units + 64 < cLine) : OpR X (compareOp .Eq) rEqM := by
  intro pins s σ H x y v u Q I rx ry h
  obtain ⟨k1, k2, h1, h2, o1, o2, q⟩ := h
  rw [NestedKey.decide_eq, ← data_eqv] at q
  have := okK_dep o1
  exact SeqAt.compareEq_reads (key_data I.hok h1 rx) (key_data I.hok h2 ry) (okK_lay o1) (okK_lay o2) (by rw [data_depth]; have := Nat.min_le_left k1.depth k2.data.depth; omega) ⟨.bl _, H, I, rfl, q⟩
theorem op_neM (hu : X.A.units + 64 < cLine) : OpR X (compareOp .NotEq) rNeM := by
  intro pins s σ H x y v u Q I rx ry h
  obtain ⟨k1, k2, h1, h2, o1, o2, q⟩ := h
  rw [NestedKey.decide_eq, ← data_eqv] at q
  have := okK_dep o1
  exact SeqAt.compareNe_reads (key_data I.hok h1 rx) (key_data I.hok h2 ry) (okK_lay o1) (okK_lay o2) (by rw [data_depth]; have := Nat.min_le_left k1.depth k2.data.depth; omega) ⟨.bl _, H, I, rfl, q⟩
theorem all_lay : ∀ {ks : List NestedKey}, ks.all okK = true → PyData.canLayAll0 (NestedKey.datas ks) = true
  | [], _ => rfl
  | k :: ks, h => by
    rw [List.all_cons, Bool.and_eq_true] at h
    show (k.data.canLay0 && PyData.canLayAll0 (NestedKey.datas ks)) = true
    rw [okK_lay h.1, all_lay h.2]
    rfl
theorem all_dep : ∀ {ks : List NestedKey}, ks.all okK = true → NestedKey.depthAll ks ≤ 8
  | [], _ => Nat.zero_le _
  | k :: ks, h => by
    rw [List.all_cons, Bool.and_eq_true] at h
    exact Nat.max_le.mpr ⟨okK_dep h.1, all_dep h.2⟩
/-- which items are it -/
noncomputable def hitM (k : NestedKey) (ks : List NestedKey) (us : List Value) (h : Heap) (u : Value) : Bool := @decide (∃ j, NestedIs h j u ∧ j = k) (Classical.propDecidable _)
theorem hit_eq {A : Around} {s : Shared} {k j : NestedKey} {v u : Value} {ks : List NestedKey} {us : List Value} (hu : A.units + 8 < cLine) (hj : NestedIs s.heap j u) (hk : NestedIs s.heap k v) (dj : j.depth ≤ 8) : SeqAt.EqAt A s u v (hitM k ks us s.heap u) := by
  have e := eqAt_key j k A s u v hj hk (by have := Nat.min_le_left j.depth k.depth; omega)
  have e2 : NestedKey.beq j k = hitM k ks us s.heap u := by
    rw [← NestedKey.decide_eq]
    unfold hitM
    by_cases q : j = k
    · rw [decide_eq_true q]
      exact (@decide_eq_true _ (Classical.propDecidable _) (⟨j, hj, q⟩ : ∃ i, NestedIs s.heap i u ∧ i = k)).symm
    · rw [decide_eq_false q]
      exact (@decide_eq_false _ (Classical.propDecidable _) (fun (⟨i, hi, p⟩ : ∃ i, NestedIs s.heap i u ∧ i = k) => q ((NestedIs.inj j i u hj hi).trans p))).symm
  rw [e2] at e
  exact e
theorem hits_all {h : Heap} {k : NestedKey} {ks0 : List NestedKey} {us0 : List Value} : ∀ {ks : List NestedKey} {us : List Value}, NestedAll h ks us → us.any (hitM k ks0 us0 h) = decide (k ∈ ks)
  | [], _, .nil => by simp
  | j :: ks, u :: us, .cons r t => by
    rw [List.any_cons, hits_all t]
    have : hitM k ks0 us0 h u = decide (j = k) := by
      unfold hitM
      by_cases q : j = k
      · rw [decide_eq_true q]
        exact @decide_eq_true _ (Classical.propDecidable _) (⟨j, r, q⟩ : ∃ i, NestedIs h i u ∧ i = k)
      · rw [decide_eq_false q]
        exact @decide_eq_false _ (Classical.propDecidable _) (fun (⟨i, hi, p⟩ : ∃ i, NestedIs h i u ∧ i = k) => q ((NestedIs.inj j i u r hi).trans p))
    rw [this]
    by_cases q : j = k
    · simp [q]
    · have : ¬ k = j := fun e => q e.symm
      simp [q, this]
theorem nested_mem {h : Heap} : ∀ {ks : List NestedKey} {us : List Value} {u : Value}, NestedAll h ks us → u ∈ us → ∃ j ∈ ks, NestedIs h j u
  | _, _, _, .nil, m => nomatch m
  | _, _, _, .cons r t, m => by
    rcases List.mem_cons.mp m with rfl | m
    · exact ⟨_, List.mem_cons_self, r⟩
    · obtain ⟨j, hj, q⟩ := nested_mem t m
      exact ⟨j, List.mem_cons_of_mem _ hj, q⟩
/-- a key in a list or tuple of keys -/
def rInM (K : PySem.W.Frag) (neg : Bool) : R2 := fun x y H Q => ∃ p ks vs k, y = .ref p ∧ (SqL K H p vs ∨ SqT K H p vs) ∧ MKeysAt H ks vs ∧ MKeyAt H k x ∧ NestedKey.depthAll ks ≤ 8 ∧ Q (.bl (if neg then !decide (k ∈ ks) else decide (k ∈ ks))) H
theorem dep_mem : ∀ {ks : List NestedKey} {j : NestedKey} {n : Nat}, NestedKey.depthAll ks ≤ n → j ∈ ks → j.depth ≤ n
  | k :: ks, j, n, h, m => by
    have h : max k.depth (NestedKey.depthAll ks) ≤ n := h
    obtain ⟨h1, h2⟩ := Nat.max_le.mp h
    rcases List.mem_cons.mp m with rfl | m
    · exact h1
    · exact dep_mem h2 m
theorem op_inM (hu : X.A.units + 64 < cLine) : OpR X (compareOp .In) (rInM X.K false) := by
  intro pins s σ H x y v u Q I rx ry h
  obtain ⟨p, ks, vs, k, rfl, hq, hks, hk, dd, q⟩ := h
  cases ry
  have ik := mkey_of I.hok hk rx
  have hu1 : X.A.in1.units + 8 < cLine := by show X.A.units + 1 + 8 < cLine; omega
  rcases hq with hq | hq
  · obtain ⟨its, r, pl, hz⟩ := I.list hq
    have al := mkeys_of I.hok hks r
    refine SeqAt.in_listAt (hitM k ks its s.heap) pl.isList (fun w hw => ?_) ⟨.bl _, H, I, rfl, ?_⟩
    · obtain ⟨j, hj, ij⟩ := nested_mem al (show w ∈ its by simpa using hw)
      exact hit_eq hu1 ij ik (dep_mem dd hj)
    · rw [show its.toArray.any (hitM k ks its s.heap) = its.any (hitM k ks its s.heap) by simp, hits_all al]
      exact q
  · obtain ⟨its, r, pl, hz⟩ := I.tuple hq
    have al := mkeys_of I.hok hks r
    refine SeqAt.in_tupleAt (hitM k ks its s.heap) pl (fun w hw => ?_) ⟨.bl _, H, I, rfl, ?_⟩
    · obtain ⟨j, hj, ij⟩ := nested_mem al (show w ∈ its by simpa using hw)
      exact hit_eq hu1 ij ik (dep_mem dd hj)
    · rw [show its.toArray.any (hitM k ks its s.heap) = its.any (hitM k ks its s.heap) by simp, hits_all al]
      exact q
theorem op_niM (hu : X.A.units + 64 < cLine) : OpR X (compareOp .NotIn) (rInM X.K true) := by
  intro pins s σ H x y v u Q I rx ry h
  obtain ⟨p, ks, vs, k, rfl, hq, hks, hk, dd, q⟩ := h
  cases ry
  have ik := mkey_of I.hok hk rx
  have hu1 : X.A.in1.units + 8 < cLine := by show X.A.units + 1 + 8 < cLine; omega
  rcases hq with hq | hq
  · obtain ⟨its, r, pl, hz⟩ := I.list hq
    have al := mkeys_of I.hok hks r
    refine SeqAt.notIn_listAt (hitM k ks its s.heap) pl.isList (fun w hw => ?_) ⟨.bl _, H, I, rfl, ?_⟩
    · obtain ⟨j, hj, ij⟩ := nested_mem al (show w ∈ its by simpa using hw)
      exact hit_eq hu1 ij ik (dep_mem dd hj)
    · rw [show its.toArray.any (hitM k ks its s.heap) = its.any (hitM k ks its s.heap) by simp, hits_all al]
      exact q
  · obtain ⟨its, r, pl, hz⟩ := I.tuple hq
    have al := mkeys_of I.hok hks r
    refine SeqAt.notIn_tupleAt (hitM k ks its s.heap) pl (fun w hw => ?_) ⟨.bl _, H, I, rfl, ?_⟩
    · obtain ⟨j, hj, ij⟩ := nested_mem al (show w ∈ its by simpa using hw)
      exact hit_eq hu1 ij ik (dep_mem dd hj)
    · rw [show its.toArray.any (hitM k ks its s.heap) = its.any (hitM k ks its s.heap) by simp, hits_all al]
      exact q
end
end KX
end
section
set_option autoImplicit false
set_option maxRecDepth 100000
set_option maxHeartbeats 4000000
/-! dicts with texts and tuples as keys: len(d), isinstance(d, dict), list(d), list(d.values()); != of lists of keys -/
namespace KX
open PySem PySem.Spec PyProof.Rows L2
section
variable {X : Cx} {pins : List (Addr × Obj)} {σ : L2.St} {H : Hp} {s : Shared} {a : Addr} {xs : List MRow}
theorem MD.raw (I : Inv X pins σ H s) (D : MD X.w H a xs) : (a == sysModules) = false ∧ xs.length ≤ sizeLine ∧ ∃ es ep, s.heap.DictRaw a es ep ∧ es.size = xs.length ∧ Paired (MRel X.w) xs es.toList := by
  obtain ⟨⟨o, es, ep, h1, h2, h3, h4⟩, _, _, lo, few⟩ := D.ok I.hok
  exact ⟨lo, few, es, ep, ⟨o, h1, h2, h3⟩, by rw [Paired.length h4, Array.length_toList], h4⟩
end
section
variable {X : Cx}
def rLenM (w : World) : List V → Hp → VK → Prop := fun vs H Q => ∃ a xs, vs = [.ref a] ∧ MD w H a xs ∧ Q (.int (xs.length : Nat)) H
theorem call_lenM : CallR X (.builtin "len") (rLenM X.w) := by
  intro pins s σ H vs us Q I r h
  obtain ⟨a, xs, rfl, D, q⟩ := h
  obtain ⟨u, rfl, ru⟩ := vals1 r
  obtain rfl : u = Value.ref a := ru
  obtain ⟨lo, few, es, ep, raw, sz, _⟩ := D.raw I
  rw [sizeLine_eq] at few
  refine call_len_slot (n := (es.size : Int)) (D.ty I) F.slot_dict_len (fun Q' h => call_len_raw lo raw h) (by omega) (by omega) ⟨.int (xs.length : Nat), H, I.tok _, ⟨_, by rw [sz]⟩, q⟩
theorem items_keys {w : World} {xs : List MRow} {es : Array DictEntry} {acc : Array Value} (pr : Paired (MRel w) xs es.toList) (sz : es.size = xs.length) (it : ItemsOf (fun i v => ∃ hi : i < es.size, v = es[i].key) acc es.size) : Vals (xs.map (·.2.1)) acc.toList := by
  refine vals_of_at (by rw [List.length_map, show acc.toList.length = acc.size from (by simp), it.1, sz]) fun j y z h1 h2 => ?_
  rw [List.getElem?_map] at h1
  obtain ⟨row, hrow, rfl⟩ := Option.map_eq_some_iff.mp h1
  obtain ⟨hi, e⟩ := it.2 j z (by rw [← Array.getElem?_toList]; exact h2)
  obtain ⟨en, hen, _, rk, _⟩ := Paired.atL pr hrow
  rw [Array.getElem?_toList, Array.getElem?_eq_getElem hi] at hen
  cases hen
  rw [e]
  exact rk
theorem items_vals {w : World} {xs : List MRow} {es : Array DictEntry} {acc : Array Value} (pr : Paired (MRel w) xs es.toList) (sz : es.size = xs.length) (it : ItemsOf (fun i v => ∃ hi : i < es.size, v = es[i].val) acc es.size) : Vals (xs.map (·.2.2)) acc.toList := by
  refine vals_of_at (by rw [List.length_map, show acc.toList.length = acc.size from (by simp), it.1, sz]) fun j y z h1 h2 => ?_
  rw [List.getElem?_map] at h1
  obtain ⟨row, hrow, rfl⟩ := Option.map_eq_some_iff.mp h1
  obtain ⟨hi, e⟩ := it.2 j z (by rw [← Array.getElem?_toList]; exact h2)
  obtain ⟨en, hen, _, _, rv⟩ := Paired.atL pr hrow
  rw [Array.getElem?_toList, Array.getElem?_eq_getElem hi] at hen
  cases hen
  rw [e]
  exact rv
/-- list(d) -/
def rListM (w : World) : List V → Hp → VK → Prop := fun vs H Q => ∃ a xs, vs = [.ref a] ∧ MD w H a xs ∧ ∀ p, H p = none → Q (.ref p) (upd H p (.lst (xs.map (·.2.1))))
theorem call_listM (hc : X.calm = true) : CallR X (.type "list") (rListM X.w) := by
  intro pins s σ H vs us Q I r h
  obtain ⟨a, xs, rfl, D, q⟩ := h
  obtain ⟨u, rfl, ru⟩ := vals1 r
  obtain rfl : u = Value.ref a := ru
  obtain ⟨lo, few, es, ep, raw, sz, pr⟩ := D.raw I
  refine PySem.W.kdl_call (PySem.KdlSrc.rawDict (es := es) (ep := ep) lo) (I.ok.hd hc) raw (by omega) fun h' tk acc c hk hS it => ?_
  have hn : H s.heap.objs.size = none := I.hok.fresh (Nat.le_refl _)
  exact ⟨.ref _, upd H _ (.lst (xs.map (·.2.1))), I.laid (t' := tk) hk (Nat.le_refl _) ⟨by rw [List.length_map]; exact few, acc.toList, c, items_keys pr sz it, by rw [Array.toArray_toList]; exact hS⟩, rfl, q _ hn⟩
/-- list(d.values()) -/
def tListValsM (w : World) (te : TE) : TE := fun σ H Q => te σ H fun x H1 => ∃ a xs, x = .ref a ∧ MD w H1 a xs ∧ ∀ p, H1 p = none → Q (.ref p) (upd H1 p (.lst (xs.map (·.2.2))))
theorem pe_listValsM {e : Expr} {te : TE} {p apos cpos pos : Pos} (hc : X.calm = true) (he : PE X e te) (hg : Gl X "list") (hm : X.mg "list" = none) (hv : bootBuiltins "list" = some (.type "list")) (hbase : attributeBase e "values" X.env (eval e X.env) = eval e X.env := by rfl) (hline : (apos.endLine == cpos.line) = true := by rfl)
    (hs : starEach [.Call (.Attribute e "values" apos) [] [] cpos] X.env = (false, eval (.Call (.Attribute e "values" apos) [] [] cpos) X.env) :: starEach [] X.env := by rfl) :
    PE X (.Call (.Name "list" p) [.Call (.Attribute e "values" apos) [] [] cpos] [] pos) (tListValsM X.w te) := by
  refine ⟨fun pins s σ H Q I hq => ?_⟩
  refine wpAny_Call_Name_kw (ld_blt I hg hm hv ?_)
  refine PyProof.Rows.callWith_type1 ?_ hs rfl
  rw [hs]
  show wpAny _ _ (spliced ((false, eval (.Call (.Attribute e "values" apos) [] [] cpos) X.env) :: backTo pos (starEach [] X.env))) _ _ s
  refine Calls.spliced_cons ?_
  refine wpAny_Call_method (T := "dict") (id := "dict.values") hbase rfl hline F.plainAttrs_dict F.slot_dict_values F.type_dict_values (thn (he.run pins s σ H _ I hq) fun u s1 ⟨x, H1, I1, rx, d, xs, ex, D, q⟩ => ?_)
  subst ex
  obtain rfl : u = Value.ref d := rx
  obtain ⟨lo, few, es, ep, raw, sz, pr⟩ := D.raw I1
  have I2 : Inv X pins σ H1 { s1 with heap := s1.heap.push { cls := .type "dict_values", data := .fields #[.ref d] } } := I1.kept (t' := s1.toks) fun b ob q => Heap.get?_push_of_some _ q
  obtain ⟨o, eo, exd, _⟩ := id raw
  refine ⟨D.ty I1, (fun b qq => by cases qq; exact ⟨o, eo, exd.2.1⟩), ?_⟩
  show wpAny _ _ (callWith cpos (.builtin "dict.values") [.ref d] [] []) _ X.xe s1
  refine method_meetsIn F.slot_dict_values F.entry_dict_values rfl (PySem.evalArgs_none ⟨rfl, D.ty I1, F.args_dict_values_1 _, _, PySem.meets_dict_values_raw d lo, ?_⟩)
  refine ⟨⟨es, ep, raw⟩, ?_⟩
  refine Calls.spliced_nil ?_
  have view : Heap.IsValuesView (s1.heap.push { cls := .type "dict_values", data := .fields #[.ref d] }) s1.heap.objs.size d := ⟨_, Heap.get?_push_size _ rfl, rfl, rfl⟩
  refine PySem.W.kdl_call (PySem.KdlSrc.rawValues (es := es) (ep := ep)) (I2.ok.hd hc) ⟨view, raw.push _⟩ (by omega) fun h' tk acc c hk hS it => ?_
  have hn : H1 (s1.heap.push { cls := .type "dict_values", data := .fields #[.ref d] }).objs.size = none := I2.hok.fresh (Nat.le_refl _)
  exact ⟨.ref _, upd H1 _ (.lst (xs.map (·.2.2))), I2.laid (t' := tk) hk (Nat.le_refl _) ⟨by rw [List.length_map]; exact few, acc.toList, c, items_vals pr sz it, by rw [Array.toArray_toList]; exact hS⟩, rfl, q _ hn⟩
end
end KX
end
section
set_option autoImplicit false
set_option maxRecDepth 100000
set_option maxHeartbeats 4000000
/-! values of any kind in the heap: data without dicts, dicts with keys side by side; isinstance of them -/
namespace KX
open PySem PySem.Spec PyProof.Rows L2
mutual
inductive Sw (H : Hp) : V → PyData → Prop where
  | non : Sw H .non .none
  | bl (b : Bool) : Sw H (.bl b) (.bool b)
  | int (i : Int) : Sw H (.int i) (.int i)
  | str (z : Str) : Sw H (.str z) (.str z)
  | tup {a : Addr} {vs : List V} {ds : List PyData} : H a = some (.tup vs) → SwAll H vs ds → Sw H (.ref a) (.tuple ds)
  | lst {a : Addr} {vs : List V} {ds : List PyData} : H a = some (.lst vs) → SwAll H vs ds → Sw H (.ref a) (.list ds)
inductive SwAll (H : Hp) : List V → List PyData → Prop where
  | nil : SwAll H [] []
  | cons {v : V} {vs : List V} {d : PyData} {ds : List PyData} : Sw H v d → SwAll H vs ds → SwAll H (v :: vs) (d :: ds)
end
theorem SwAll.len {H : Hp} : ∀ {vs : List V} {ds : List PyData}, SwAll H vs ds → vs.length = ds.length
  | _, _, .nil => rfl
  | _, _, .cons _ r => congrArg (· + 1) r.len
mutual
theorem Sw.same {H H' : Hp} (s : Same H H') : ∀ {v : V} {d : PyData}, Sw H v d → Sw H' v d
  | _, _, .non => .non
  | _, _, .bl b => .bl b
  | _, _, .int i => .int i
  | _, _, .str z => .str z
  | _, _, .tup e r => .tup (s _ _ e) (SwAll.same s r)
  | _, _, .lst e r => .lst (s _ _ e) (SwAll.same s r)
theorem SwAll.same {H H' : Hp} (s : Same H H') : ∀ {vs : List V} {ds : List PyData}, SwAll H vs ds → SwAll H' vs ds
  | _, _, .nil => .nil
  | _, _, .cons h r => .cons (Sw.same s h) (SwAll.same s r)
end
theorem SwAll.get {H : Hp} : ∀ {vs : List V} {ds : List PyData} {i : Nat} {v : V}, SwAll H vs ds → vs[i]? = some v → ∃ d, ds[i]? = some d ∧ Sw H v d
  | _, _, _, _, .nil, e => nomatch e
  | _, _, 0, _, .cons h _, e => by cases e; exact ⟨_, rfl, h⟩
  | _, _, i + 1, _, .cons _ r, e => r.get (i := i) e
theorem SwAll.app {H : Hp} : ∀ {us vs : List V} {ds es : List PyData}, SwAll H us ds → SwAll H vs es → SwAll H (us ++ vs) (ds ++ es)
  | _, _, _, _, .nil, h => h
  | _, _, _, _, .cons a r, h => .cons a (r.app h)
theorem SwAll.take {H : Hp} : ∀ {vs : List V} {ds : List PyData} (n : Nat), SwAll H vs ds → SwAll H (vs.take n) (ds.take n)
  | _, _, 0, h => by rw [List.take_zero, List.take_zero]; exact .nil
  | _, _, n + 1, .nil => .nil
  | _, _, n + 1, .cons a r => .cons a (r.take n)
theorem SwAll.drop {H : Hp} : ∀ {vs : List V} {ds : List PyData} (n : Nat), SwAll H vs ds → SwAll H (vs.drop n) (ds.drop n)
  | _, _, 0, h => h
  | _, _, n + 1, .nil => .nil
  | _, _, n + 1, .cons a r => r.drop n
def tyD : PyData → String
  | .none => "NoneType"
  | .bool _ => "bool"
  | .int _ => "int"
  | .str _ => "str"
  | .list _ => "list"
  | .tuple _ => "tuple"
  | .dict _ => "dict"
theorem Sw.tyX {K : PySem.W.Frag} {H : Hp} {v : V} {d : PyData} (h : Sw H v d) : TyX K H v (.type (tyD d)) := by
  cases h with
  | non => exact .base .non
  | bl b => exact .base (.bl b)
  | int i => exact .base (.int i)
  | str z => exact .base (.str z)
  | tup e _ => exact .base (.tup e)
  | lst e _ => exact .base (.lst e)
/-- a value: data without a dict, or a dict -/
inductive NV where
  | data (d : PyData)
  | dict (rows : List (NestedKey × PyData))
def tyN : NV → String
  | .data d => tyD d
  | .dict _ => "dict"
def RowR (H : Hp) (x : MRow) (r : NestedKey × PyData) : Prop := x.1 = r.1 ∧ Sw H x.2.2 r.2
def NvAt (w : World) (H : Hp) (v : V) : NV → Prop
  | .data d => Sw H v d
  | .dict rows => ∃ a xs, v = .ref a ∧ MD w H a xs ∧ Paired (RowR H) xs rows
theorem rows_same {H H' : Hp} (s : Same H H') {xs : List MRow} {rows : List (NestedKey × PyData)} (h : Paired (RowR H) xs rows) : Paired (RowR H') xs rows := by
  induction h with
  | nil => exact .nil
  | cons a _ ih => exact .cons ⟨a.1, Sw.same s a.2⟩ ih
theorem NvAt.same {w : World} {H H' : Hp} {v : V} {n : NV} (s : Same H H') (h : NvAt w H v n) : NvAt w H' v n := by
  cases n with
  | data d => exact Sw.same s h
  | dict rows =>
    obtain ⟨a, xs, rfl, M, r⟩ := h
    exact ⟨a, xs, rfl, ⟨s _ _ M.at_, fun x hx => MKeyAt.tupd (fun b ys e => s b _ e) (M.ks x hx)⟩, rows_same s r⟩
def rIsiV (w : World) : List V → Hp → VK → Prop := fun vs H Q => ∃ v n T b, vs = [v, .ty T] ∧ NvAt w H v n ∧ kitB (tyN n) T = some b ∧ Q (.bl b) H
theorem call_isiV {X : Cx} : CallR X (.builtin "isinstance") (rIsiV X.w) := by
  intro pins s σ H vs us Q I r h
  obtain ⟨v, n, T, b, rfl, hn, hk, q⟩ := h
  cases n with
  | data d => exact call_isi pins s σ H _ us Q I r ⟨v, .ty T, _, _, b, rfl, .ty T, Sw.tyX hn, kit_ty hk, q⟩
  | dict rows =>
    obtain ⟨a, xs, rfl, D, _⟩ := hn
    obtain ⟨u1, u2, rfl, r1, r2⟩ := vals2 r
    obtain rfl : u1 = Value.ref a := r1
    obtain rfl : u2 = Value.type T := r2
    obtain ⟨o, es, ep, h1, h2, _⟩ := (D.ok I.hok).ob
    exact PySem.W.kia_one PySem.W.kitx_dict I.kIn ⟨o, h1, h2.1⟩ (kit_ty hk) (fun z => nomatch z) fun tk => ⟨.bl b, H, I.tok tk, rfl, q⟩
end KX
end
section
set_option maxRecDepth 100000
set_option maxHeartbeats 4000000
namespace K11
open PySem PySem.Spec PyProof.Rows L2
theorem scCreel : FnScope ["_law_script", "_law_at", "_law_cell", "_law_whole", "_law_mixed"] ["_law_script", "_law_at"] (defScope sCreel) :=
  ⟨rfl, rfl, rfl, by decide +kernel, rfl, by decide +kernel, by decide +kernel⟩
theorem scFish : FnScope ["_law_keg", "_law_total", "_law_found", "_law_one", "_law_two"] ["_law_keg", "_law_total"] (defScope sFish) :=
  ⟨rfl, rfl, rfl, by decide +kernel, rfl, by decide +kernel, by decide +kernel⟩
theorem scOne : FnScope ["_law_keg", "_law_items"] ["_law_keg", "_law_items"] (defScope sOne) :=
  ⟨rfl, rfl, rfl, by decide +kernel, rfl, by decide +kernel, by decide +kernel⟩
/-- the modulus of a great cell -/
def big : Int := ((10 : Int) ^ (59 : Int).toNat) ^ (10 : Int).toNat
theorem big_pos : 0 < big := by unfold big; decide +kernel
theorem big_lt : big.natAbs < 2 ^ 2000 := by unfold big; decide +kernel
def CPowW (i j : Int) : Prop := 0 ≤ j ∧ (Builtin.Int.intBits i : Int) * j ≤ 2 ^ 27
theorem op_powW {X : Cx} : OpR X (binaryOp .Pow) (rI CPowW fun i j => .int (i ^ j.toNat)) := opI fun _ _ _ _ _ _ _ hc q => pow_int hc.1 hc.2 q
/-- a creel: three numbers -/
structure Cr (x y c : Int) : Prop where
  x0 : 0 ≤ x
  xb : x.natAbs < 2 ^ 2000
  y0 : 0 ≤ y
  yb : y < 2305843009213693951
  c0 : 0 ≤ c
  cb : c ≤ 1000000
def spCreel (K : PySem.W.Frag) : Sp := fun vs H Q _ => ∃ (a : Addr) (ns : List Int) (i : Int), vs = [.ref a, .int i] ∧ SqL K H a (ns.map V.int) ∧ ns.length ≤ 63 ∧ 0 ≤ i ∧ i ≤ 1000 ∧
  ∀ p x y, Cr x y 0 → H p = none → Q (.ref p) (upd H p (.lst [.int x, .int y, .int 0]))
def spFish : Sp := fun vs H Q _ => ∃ (a : Addr) (x y c t : Int), vs = [.ref a, .int t] ∧ H a = some (.lst [.int x, .int y, .int c]) ∧ Cr x y c ∧ c < 1000000 ∧ 0 < t ∧ t ≤ 1180591620717411303424 ∧
  ∀ r x' c', 0 ≤ r → r < t → Cr x' y c' → c' ≤ c + 1 → Q (.int r) (upd H a (.lst [.int x', .int y, .int c']))
section
variable {P : Program} {w : World} {K : PySem.W.Frag} {mg : Str → Option Value} {base : Heap}
theorem ok_creel {f : Addr} {fd : FuncData} (F : Fun K "_law_tapped" "_law_tapped" sCreel f fd) (ml : mg "len" = none) (mi : mg "int" = none) (ma : mg "abs" = none) (mm : mg "max" = none) :
    FnOk P w K mg base CX0 1 f fd ["_law_script", "_law_at"] (spCreel K) := by
  refine F.ok scCreel (fun vs H Q E h => ?_) (fun cdv A outer s H vs Q E hr h => ?_)
  · obtain ⟨a, ns, i, rfl, _⟩ := h
    rfl
  · obtain ⟨a, ns, i, rfl, hS, hlen, hi0, hi1, q⟩ := h
    refine ⟨_, C8.pss_cut (ps_set (i := 2) scCreel.nd rfl (.inl rfl) (pe_ifExp (pt_cmpR op_lt (pv 1) (pe_callB call_len_seq (by rfl) ml PySem.boot_len (pa_cons (pv 0) pa_nil)) (nomark _))
        (pe_ix ix_list (pv 0) (pv 1) (fun _ _ => rfl)) (pe_op op_add (pe_op op_mul pe_int (pv 1)) pe_int)))
      (pss_cons (ps_set (i := 3) scCreel.nd rfl (.inl rfl) (pe_op op_mod (pe_callTy call_int1 (by rfl) mi (by decide +kernel) (pa_cons (pe_callB call_abs (by rfl) ma (by decide +kernel) (pa_cons (pv 2) pa_nil)) pa_nil)) (pe_op op_powW (pe_op op_pow pe_int pe_int) pe_int)))
      (pss_cons (ps_set (i := 4) scCreel.nd rfl (.inl rfl) (pe_op op_mod (pe_callTy call_int1 (by rfl) mi (by decide +kernel) (pa_cons
          (pe_op op_add (pe_op op_add (pe_op op_add (pe_op op_mul (pv 3) pe_int) (pe_op op_mul pe_int (pv 1))) (pe_op op_mul pe_int (pe_callTy call_int1 (by rfl) mi (by decide +kernel) (pa_cons (pe_cmpR op_lt (pv 2) pe_int (nomark _)) pa_nil)))) pe_int) pa_nil)) pe_int))
      (pss_one (ps_ret (pe_lst (pa_cons (pe_callB (call_max2 rfl) (by rfl) mm (by decide +kernel) (pa_cons pe_int (pa_cons (pe_op op_sub (pv 3) (pe_op op_pow pe_int pe_int)) pa_nil))) (pa_cons (pv 4) (pa_cons pe_int pa_nil)))))))), ?_⟩
    refine ⟨fun σ' H' => H' = H ∧ ∃ z : Int, σ' = [some (.ref a), some (.int i), some (.int z), none, none], ?_, ?_⟩
    · refine ⟨_, rfl, .ref a, rfl, a, ns.map V.int, rfl, .inl hS, i, _, rfl, rfl, _, rfl, ite2 (fun e => ?_) (fun e => ?_)⟩
      · have hlt : i < ((ns.map V.int).length : Int) := of_decide_eq_true e
        rw [List.length_map] at hlt
        obtain ⟨n, rfl⟩ : ∃ n : Nat, i = (n : Int) := ⟨i.toNat, by omega⟩
        have hn : n < ns.length := by omega
        have g : (ns.map V.int)[n]? = some (.int ns[n]) := by
          rw [List.getElem?_map, List.getElem?_eq_getElem hn]
          rfl
        exact ⟨.ref a, rfl, _, rfl, a, _, _, _, rfl, rfl, hS, atI_nat g, rfl, _, rfl⟩
      · exact ⟨_, rfl, 101, i, rfl, rfl, .inl (by decide), _, _, rfl, rfl, rfl, _, rfl⟩
    · rintro σ' H' ⟨rfl, z, rfl⟩
      have hz0 : 0 ≤ (if z < 0 then -z else z) := by split <;> omega
      have hp : 0 < big := big_pos
      refine ⟨_, rfl, z, rfl, .inl ⟨_, rfl, 10, 59, rfl, rfl, ⟨by decide, by decide, by decide⟩, _, 10, rfl, rfl, ⟨by decide, by decide +kernel⟩, _, _, rfl, rfl, hp, ?_⟩⟩
      have hg0 : 0 ≤ (if z < 0 then -z else z) % big := Int.emod_nonneg _ (by omega)
      have hg1 : (if z < 0 then -z else z) % big < big := Int.emod_lt_of_pos _ hp
      show tSeq _ _ _ [some (.ref a), some (.int i), some (.int z), some (.int ((if z < 0 then -z else z) % big)), none] _
      generalize (if z < 0 then -z else z) % big = g at hg0 hg1
      have hgb : g.natAbs < 2 ^ 2000 := Nat.lt_of_le_of_lt (by omega) big_lt
      refine ⟨_, rfl, g, 13, rfl, rfl, .inr (by decide), _, rfl, 67867967, i, rfl, rfl, .inl (by decide), _, _, rfl, rfl, _, rfl, z, 0, rfl, rfl, .inr ⟨_, rfl, 7368787, _, rfl, rfl, .inl (by decide), _, _, rfl, rfl, _, 2003, rfl, rfl, .inl ⟨_, rfl, _, 2305843009213693907, rfl, rfl, (by show (0 : Int) < 2305843009213693907; decide), ?_⟩⟩⟩
      refine ⟨_, rfl, 10, 18, rfl, rfl, ⟨by decide, by decide, by decide⟩, _, _, rfl, rfl, 0, _, rfl, _, rfl, (by show 3 ≤ sizeLine; decide), fun p hp => ?_⟩
      refine q p _ _ ⟨?_, ?_, Int.emod_nonneg _ (by decide), Int.lt_trans (Int.emod_lt_of_pos _ (by decide)) (by decide), by decide, by decide⟩ hp
      · split <;> omega
      · refine Nat.lt_of_le_of_lt ?_ hgb
        have e17 : (0 : Int) < 10 ^ Int.toNat 18 := by decide
        split <;> omega
end
end K11
end
section
set_option maxRecDepth 100000
set_option maxHeartbeats 4000000
namespace K11
open PySem PySem.Spec PyProof.Rows L2
theorem scIsName : FnScope ["value", "letter"] ["value"] (defScope sIsName) :=
  ⟨rfl, rfl, rfl, by decide +kernel, rfl, by decide +kernel, by decide +kernel⟩
theorem same_upd {H : Hp} {p : Addr} {o : HO} (h : H p = none) : Same H (upd H p o) := fun b x e => by
  rw [upd_ne (ne_of_none e h)]
  exact e
def isLet (c : Nat) : Bool := decide (97 ≤ c ∧ c ≤ 122)
/-- what a name is, by its signs -/
def nameS (z : Str) : Bool := decide (1 ≤ z.length ∧ z.length ≤ 8) && z.cps.toList.all isLet
inductive NameOf (K : PySem.W.Frag) (H : Hp) : V → Bool → Prop
  | str (z : Str) (h : z.length ≤ 1000) (ok : ∀ c ∈ z.cps.toList, c < 0x110000) : NameOf K H (.str z) (nameS z)
  | odd {v : V} {t : String} (h : TyX K H v (.type t)) (k : kitB t "str" = some false) : NameOf K H v false
def spName (K : PySem.W.Frag) : Sp := fun vs H Q _ => ∃ (v : V) (b : Bool), vs = [v] ∧ NameOf K H v b ∧ ∀ H', Same H H' → Q (.bl b) H'
theorem lc_str {x : Str} {g : TG} {tt : TT} {te : TE} {vs : List Nat} {σ : L2.St} {H1 : Hp} {D : Addr} {Qd : Hp → Prop} (Pv : Nat → Hp → Prop) (h0 : Pv 0 (upd H1 D (.lst [])))
    (hs : ∀ i c H, x.cps.toList[i]? = some c → Pv i H → g (.str ⟨#[c]⟩) (wipe σ vs) H fun σ2 H2 => wipe σ2 vs = wipe σ vs ∧ tt σ2 H2 fun b H3 =>
      if b = true then te σ2 H3 fun y H4 => ∃ acc, H4 D = some (.lst acc) ∧ acc.length < sizeLine ∧ Pv (i + 1) (upd H4 D (.lst (acc ++ [y]))) else Pv (i + 1) H3) (hd : ∀ H, Pv x.cps.toList.length H → Qd H) :
    ∃ W : Nat → Nat → Hp → Prop, (∃ m, W 0 m (upd H1 D (.lst []))) ∧ ∀ i m H, W i m H →
      ((Its x).stop i H ∧ Qd H) ∨ ((Its x).go i H ∧ ∃ Nx : Hp → Prop, (∀ H', Nx H' → ∃ m', m' < m ∧ W (i + 1) m' H') ∧ ∀ y H', (Its x).yld i H y H' → g y (wipe σ vs) H' fun σ2 H2 => wipe σ2 vs = wipe σ vs ∧ tt σ2 H2 fun b H3 =>
        if b = true then te σ2 H3 fun y H4 => ∃ acc, H4 D = some (.lst acc) ∧ acc.length < sizeLine ∧ Nx (upd H4 D (.lst (acc ++ [y]))) else Nx H3) := by
  refine ⟨fun i m H => m = x.cps.size - i ∧ i ≤ x.cps.size ∧ Pv i H, ⟨x.cps.size, by simp, Nat.zero_le _, h0⟩, ?_⟩
  rintro i m H ⟨rfl, hi, p⟩
  by_cases hlt : i < x.cps.size
  · refine .inr ⟨hlt, Pv (i + 1), fun H' p' => ⟨x.cps.size - (i + 1), by omega, rfl, hlt, p'⟩, fun y H' hy => ?_⟩
    obtain ⟨rfl, c, hc, rfl⟩ := hy
    exact hs i c _ (by simpa using hc) p
  · have e : i = x.cps.size := by omega
    subst e
    exact .inl ⟨Nat.le_refl _, hd H (by simpa using p)⟩
theorem letter_in (c : Nat) : decide (c ∈ ("abcdefghijklmnopqrstuvwxyz" : Str).cps.toList) = isLet c := by
  have e : ("abcdefghijklmnopqrstuvwxyz" : Str).cps.toList = List.range' 97 26 := by decide +kernel
  rw [e]
  unfold isLet
  refine decide_eq_decide.mpr ?_
  rw [List.mem_range'_1]
  omega
section
variable {P : Program} {w : World} {K : PySem.W.Frag} {mg : Str → Option Value} {base : Heap}
theorem ok_isName {f : Addr} {fd : FuncData} {tl tm : Tok} (F : Fun K "is_name" "is_name" sIsName f fd) (mi : mg "isinstance" = none) (ms : mg "str" = none) (ml : mg "len" = none) (ma : mg "all" = none) (gL : mg "LETTERS" = some (.str "abcdefghijklmnopqrstuvwxyz" tl)) (gM : mg "MAX_LETTERS" = some (.int 8 tm)) :
    FnOk P w K mg base CX0 1 f fd ["value"] (spName K) := by
  refine F.ok scIsName (fun vs H Q E h => ?_) (fun cdv A outer s H vs Q E hr h => ?_)
  · obtain ⟨v, b, rfl, _⟩ := h
    rfl
  · obtain ⟨v, b, rfl, hn, q⟩ := h
    refine ⟨_, pss_cons (ps_if (PW.pt (pw_or (pt_not (pt_val (pe_callB call_isi (by rfl) mi (by decide +kernel) (pa_cons (pv 0) (pa_cons (pe_bltn (v := .ty "str") (by rfl) ms (by decide +kernel) rfl) pa_nil)))))
          (pw_or1 (pt_not (pt_chain op_le op_le pe_int (pe_callB call_len_str (by rfl) ml PySem.boot_len (pa_cons (pv 0) pa_nil)) (pe_glob (v := .int 8) (by rfl) gM ⟨_, rfl⟩))))))
        (pss_one (ps_ret pe_bl)) pss_nil)
      (pss_one (ps_ret (pe_callB (cr_all rfl) (by rfl) ma (by decide +kernel) (pa_cons
        (pe_lc (own := [("letter", 1)]) (g := gName 1) (tt := tYes) rfl scIsName.nd (pi_str (pv 0)) (blkOk_by (N := ["value", "letter"]) (sc := defScope sIsName) (by decide +kernel))
          (fun _ _ _ _ _ => pg_name (i := 1) scIsName.nd rfl (Or.inl rfl)) (fun _ _ _ _ _ => pts_nil) (fun _ _ _ _ _ => pe_cmpR op_in_sign (pv 1) (pe_glob (v := .str "abcdefghijklmnopqrstuvwxyz") (by rfl) gL ⟨_, rfl⟩) rfl)) pa_nil)))), ?_⟩
    cases hn with
    | odd hty hk =>
      exact ⟨v, rfl, v, .ty "str", _, _, false, rfl, .ty _, hty, kit_ty hk, _, rfl, q H (Same.refl H)⟩
    | str z hz hok =>
      refine ⟨_, rfl, .str z, .ty "str", .type "str", .type "str", true, rfl, .ty _, .base (.str z), kit_ty (by decide +kernel), true, rfl, ?_⟩
      refine ⟨.str z, rfl, z, rfl, Nat.le_trans hz (by decide), 1, _, rfl, rfl, _, rfl, ?_⟩
      refine ite2 (fun e1 => ?_) (fun e1 => ?_)
      · have h1 : (1 : Int) ≤ z.length := of_decide_eq_true e1
        refine ⟨_, _, rfl, rfl, _, rfl, ite2 (fun e2 => ?_) (fun e2 => ?_)⟩
        · have h2 : ¬ ((z.length : Int) ≤ 8) := fun q => by
            rw [decide_eq_true q] at e2
            cases e2
          have en : nameS z = false := by
            unfold nameS
            rw [decide_eq_false (by omega), Bool.false_and]
          rw [en] at q
          exact q H (Same.refl H)
        · have h2 : (z.length : Int) ≤ 8 := by
            have e3 : decide ((z.length : Int) ≤ 8) = true := by
              cases e4 : decide ((z.length : Int) ≤ 8) with
              | true => rfl
              | false =>
                rw [e4] at e2
                exact absurd rfl e2
            exact of_decide_eq_true e3
          refine ⟨.str z, rfl, z, rfl, fun D hD => ?_⟩
          have ltb : z.cps.toList.length ≤ 8 := by
            have : z.length = z.cps.toList.length := by simp [Str.length]
            omega
          refine lc_str (fun i H' => H' = upd H D (.lst ((z.cps.toList.take i).map fun c => V.bl (isLet c)))) rfl (fun i c H' hc hP => ?_) (fun H' hP => ?_)
          · subst hP
            refine ⟨rfl, _, rfl, c, _, rfl, rfl, _, upd_same, ?_, ?_⟩
            · rw [List.length_map, List.length_take]
              have : sizeLine = sizeLine := rfl
              rw [sizeLine_eq]
              omega
            · rw [upd_upd, List.take_add_one, hc, List.map_append, letter_in]
              rfl
          · subst hP
            refine ⟨D, z.cps.toList.map isLet, rfl, SqL.of ?_, ?_⟩
            · rw [upd_same, List.take_length, List.map_map]
              rfl
            · have en : nameS z = (z.cps.toList.map isLet).all id := by
                unfold nameS
                rw [decide_eq_true (by omega), Bool.true_and, List.all_map]
                rfl
              rw [← en]
              exact q _ (same_upd hD)
      · have h1 : ¬ (1 : Int) ≤ z.length := fun h => e1 (decide_eq_true h)
        have en : nameS z = false := by
          unfold nameS
          rw [decide_eq_false (by omega), Bool.false_and]
        rw [en] at q
        exact ⟨_, rfl, q H (Same.refl H)⟩
end
end K11
end
section
set_option autoImplicit false
set_option maxRecDepth 100000
set_option maxHeartbeats 4000000
namespace K11
open PySem PySem.Spec PyProof.Rows L2 KX
/-- a def of the module, with its promise -/
structure Fnc (P : Program) (w : World) (K : PySem.W.Frag) (mg : Str → Option Value) (base : Heap) (CX : CXT) (k : Nat) (x : Str) (ps : List Str) (sp : Sp) : Prop where
  ex : ∃ (f : Addr) (fd : FuncData), FnOk P w K mg base CX k f fd ps sp ∧ Binds K fd ps [] ∧ mg x = some (.ref f) ∧ PySem.W.keepIn K (.ref f) = true
section
variable {X : Cx} {CX : CXT} {k j : Nat} {x : Str} {ps : List Str} {sp : Sp} {E : XK} {p pos : Pos} {e : Expr} {es : List Expr} {t : TA}
theorem pe_fnc (F : Fnc X.prog X.w X.K X.mg X.base CX k x ps sp) (hr : Room j X.A) (hk : k ≤ j) (hg : Gl X x) (hx : Passes CX X E) (ha : PA X (e :: es) t) (hdb : (x == ("__debug__" : Str)) = false := by decide)
    (he : starEach (e :: es) X.env = (false, eval e X.env) :: starEach es X.env := by rfl) (hpl : (backTo pos (starEach es X.env)).any (·.1) = false := by rfl) : PE X (.Call (.Name x p) (e :: es) [] pos) (tCall sp [] E t) := by
  obtain ⟨f, fd, G, hb, hm, hkp⟩ := F.ex
  exact pe_call G (hr.mono hk) hg hm hkp hb .nil hx ha hdb he hpl
end
/-- built-in names that are left alone -/
structure Free (mg : Str → Option Value) : Prop where
  isinstance : mg "isinstance" = none
  str : mg "str" = none
  tuple : mg "tuple" = none
  len : mg "len" = none
  all : mg "all" = none
  set : mg "set" = none
  int : mg "int" = none
  list : mg "list" = none
  range : mg "range" = none
def rLen (K : PySem.W.Frag) : List V → Hp → VK → Prop := fun xs H Q => ∃ p ys, xs = [V.ref p] ∧ (SqL K H p ys ∨ SqT K H p ys) ∧ Q (V.int ↑ys.length) H
/-- a statement that is never come to -/
theorem ps_never {X : Cx} {st : Stmt} : PS X st (fun _ _ _ => False) := ⟨fun _ _ _ _ _ _ h => h.elim⟩
theorem le_line {n : Nat} (h : n ≤ 1000) : n ≤ sizeLine := Nat.le_trans h (by rw [sizeLine_eq]; decide)
end K11
end
section
set_option autoImplicit false
namespace K11
variable {α : Type} [DecidableEq α]
/-- a difference: one point less another one is at most so much -/
abbrev Df (α : Type) := α × α × Int
structure St (α : Type) where
  L : α → Option Int
  B : α → Option Nat
def upd1 {β : Type} (f : α → β) (a : α) (b : β) : α → β := fun x => if x = a then b else f x
theorem upd1_same {β : Type} (f : α → β) (a : α) (b : β) : upd1 f a b a = b := by simp [upd1]
theorem upd1_ne {β : Type} (f : α → β) {a x : α} (b : β) (h : x ≠ a) : upd1 f a b x = f x := by simp [upd1, h]
/-- the level to which a difference lowers its first point, if it does -/
def low (L : α → Option Int) (d : Df α) : Option Int :=
  match L d.2.1 with
  | none => none
  | some v => match L d.1 with
    | none => some (v + d.2.2)
    | some u => if v + d.2.2 < u then some (v + d.2.2) else none
theorem low_some {L : α → Option Int} {d : Df α} {w : Int} (h : low L d = some w) :
    ∃ v, L d.2.1 = some v ∧ w = v + d.2.2 ∧ ∀ u, L d.1 = some u → w < u := by
  unfold low at h
  split at h
  · cases h
  · rename_i v e
    refine ⟨v, e, ?_⟩
    split at h
    · rename_i e2
      cases h
      exact ⟨rfl, fun u hu => by rw [e2] at hu; cases hu⟩
    · rename_i u e2
      split at h
      · rename_i hl
        cases h
        exact ⟨rfl, fun u' hu => by rw [e2] at hu; cases hu; exact hl⟩
      · cases h
theorem low_none {L : α → Option Int} {d : Df α} (h : low L d = none) {v : Int} (e : L d.2.1 = some v) :
    ∃ u, L d.1 = some u ∧ u ≤ v + d.2.2 := by
  unfold low at h
  rw [e] at h
  dsimp at h
  split at h
  · cases h
  · rename_i u e2
    split at h
    · cases h
    · exact ⟨u, e2, by omega⟩
def step (i : Nat) (d : Df α) (s : St α) : St α :=
  match low s.L d with
  | none => s
  | some v => ⟨upd1 s.L d.1 (some v), upd1 s.B d.1 (some i)⟩
/-- one time along all differences: the state, and the last point that was lowered -/
def relaxed : Nat → List (Df α) → St α → Option α → St α × Option α
  | _, [], s, l => (s, l)
  | n, d :: ds, s, l => relaxed (n + 1) ds (step n d s) (match low s.L d with | none => l | some _ => some d.1)
/-- so many rounds, or fewer where nothing is lowered -/
def settled (ds : List (Df α)) : Nat → St α → St α × Option α
  | 0, s => (s, none)
  | k + 1, s => match relaxed 0 ds s none with
    | (s', none) => (s', none)
    | (s', some x) => if k = 0 then (s', some x) else settled ds k s'
/-- levels are true for all differences -/
def Flat (ds : List (Df α)) (L : α → Option Int) : Prop :=
  ∀ x b m, (x, b, m) ∈ ds → ∀ v, L b = some v → ∃ u, L x = some u ∧ u ≤ v + m
/-- what holds in round k, ahead of difference i; T: when a point was lowered last, R: in which round -/
structure Inv (ds : List (Df α)) (k i : Nat) (s : St α) (T R : α → Nat) (t : Nat) : Prop where
  back : ∀ x j, s.B x = some j → ∃ b m, ds[j]? = some (x, b, m) ∧ ∃ u v, s.L x = some u ∧ s.L b = some v ∧ v + m ≤ u ∧ (T x ≤ T b → v + m < u) ∧ R x ≤ R b + 1
  clock : ∀ x, T x < t
  had : ∀ x, 1 ≤ R x → ∃ j, s.B x = some j
  rk : ∀ x, R x ≤ k
  kp : 1 ≤ k
  done : ∀ j x b m, ds[j]? = some (x, b, m) → R b < (if j < i then k else k - 1) → ∀ v, s.L b = some v → ∃ u, s.L x = some u ∧ u ≤ v + m
theorem Inv.init (ds : List (Df α)) (L : α → Option Int) : Inv ds 1 0 ⟨L, fun _ => none⟩ (fun _ => 0) (fun _ => 0) 1 :=
  ⟨fun _ _ h => (nomatch h), fun _ => by omega, fun _ h => by omega, fun _ => by omega, by omega, fun j x b m _ h => by simp at h⟩
theorem Inv.turn {ds : List (Df α)} {k : Nat} {s : St α} {T R : α → Nat} {t : Nat} (h : Inv ds k ds.length s T R t) : Inv ds (k + 1) 0 s T R t := by
  refine ⟨h.back, h.clock, h.had, fun x => by have := h.rk x; omega, by omega, fun j x b m e hr v hv => ?_⟩
  refine h.done j x b m e ?_ v hv
  have hj : j < ds.length := by
    rcases Nat.lt_or_ge j ds.length with g | g
    · exact g
    · rw [List.getElem?_eq_none g] at e; cases e
  rw [if_pos hj]
  simpa using hr
theorem Inv.keep {ds : List (Df α)} {k i : Nat} {s : St α} {T R : α → Nat} {t : Nat} (h : Inv ds k i s T R t) {d : Df α} (e : ds[i]? = some d)
    (hl : low s.L d = none) : Inv ds k (i + 1) s T R t := by
  refine ⟨h.back, h.clock, h.had, h.rk, h.kp, fun j x b m ej hr v hv => ?_⟩
  by_cases hj : j = i
  · subst hj
    rw [e] at ej
    cases ej
    exact low_none hl hv
  · refine h.done j x b m ej ?_ v hv
    by_cases g : j < i
    · rw [if_pos g]; rw [if_pos (by omega)] at hr; exact hr
    · rw [if_neg g]; rw [if_neg (by omega)] at hr; exact hr
theorem Inv.lower {ds : List (Df α)} {k i : Nat} {s : St α} {T R : α → Nat} {t : Nat} (h : Inv ds k i s T R t) {d : Df α} (e : ds[i]? = some d)
    {w : Int} (hl : low s.L d = some w) : Inv ds k (i + 1) ⟨upd1 s.L d.1 (some w), upd1 s.B d.1 (some i)⟩ (upd1 T d.1 t) (upd1 R d.1 k) (t + 1) := by
  obtain ⟨x, b, m⟩ := d
  obtain ⟨v, hv, hw, hlt⟩ := low_some hl
  dsimp only at hv hw hlt ⊢
  have hkp := h.kp
  -- the round of the other point
  have hRb : k ≤ R b + 1 := by
    rcases Nat.lt_or_ge (R b) (k - 1) with g | g
    · obtain ⟨u, hu, hle⟩ := h.done i x b m e (by rw [if_neg (by omega)]; exact g) v hv
      have := hlt u hu
      omega
    · omega
  refine ⟨fun y j hy => ?_, fun y => ?_, fun y hy => ?_, fun y => ?_, hkp, fun j y c n ej hr v' hv' => ?_⟩
  · dsimp only at hy ⊢
    by_cases hyx : y = x
    · subst hyx
      rw [upd1_same] at hy
      cases hy
      refine ⟨b, m, e, w, ?_⟩
      rw [upd1_same, upd1_same, upd1_same]
      by_cases hb : b = y
      · subst hb
        have hlt' := hlt v hv
        refine ⟨w, rfl, by rw [upd1_same], by omega, fun _ => by omega, by rw [upd1_same]; omega⟩
      · rw [upd1_ne _ _ hb, upd1_ne _ _ hb, upd1_ne _ _ hb]
        refine ⟨v, rfl, hv, by omega, fun g => ?_, hRb⟩
        have := h.clock b
        omega
    · rw [upd1_ne _ _ hyx] at hy
      obtain ⟨c, n, ec, u, v', hu, hv', hle, hst, hR⟩ := h.back y j hy
      refine ⟨c, n, ec, u, ?_⟩
      rw [upd1_ne _ _ hyx, upd1_ne _ _ hyx, upd1_ne _ _ hyx]
      by_cases hc : c = x
      · subst hc
        rw [upd1_same, upd1_same, upd1_same]
        have := hlt v' hv'
        have := h.rk y
        exact ⟨w, hu, rfl, by omega, fun _ => by omega, by omega⟩
      · rw [upd1_ne _ _ hc, upd1_ne _ _ hc, upd1_ne _ _ hc]
        exact ⟨v', hu, hv', hle, hst, hR⟩
  · by_cases hyx : y = x
    · subst hyx; rw [upd1_same]; omega
    · rw [upd1_ne _ _ hyx]; have := h.clock y; omega
  · dsimp only
    by_cases hyx : y = x
    · subst hyx; rw [upd1_same]; exact ⟨i, rfl⟩
    · rw [upd1_ne _ _ hyx] at hy ⊢; exact h.had y hy
  · by_cases hyx : y = x
    · subst hyx; rw [upd1_same]; omega
    · rw [upd1_ne _ _ hyx]; exact h.rk y
  · dsimp only at hv' ⊢
    by_cases hcx : c = x
    · subst hcx
      rw [upd1_same] at hr
      split at hr <;> omega
    · rw [upd1_ne _ _ hcx] at hr hv'
      have old : ∃ u, s.L y = some u ∧ u ≤ v' + n ∨ (j = i ∧ y = x ∧ c = b ∧ n = m) := by
        by_cases hj : j = i
        · subst hj
          rw [e] at ej
          cases ej
          exact ⟨0, .inr ⟨rfl, rfl, rfl, rfl⟩⟩
        · obtain ⟨u, hu, hle⟩ := h.done j y c n ej (by
            by_cases g : j < i
            · rw [if_pos g]; rw [if_pos (by omega)] at hr; exact hr
            · rw [if_neg g]; rw [if_neg (by omega)] at hr; exact hr) v' hv'
          exact ⟨u, .inl ⟨hu, hle⟩⟩
      obtain ⟨u, (⟨hu, hle⟩ | ⟨_, rfl, rfl, rfl⟩)⟩ := old
      · by_cases hyx : y = x
        · subst hyx
          rw [upd1_same]
          have := hlt u hu
          exact ⟨w, rfl, by omega⟩
        · rw [upd1_ne _ _ hyx]
          exact ⟨u, hu, hle⟩
      · rw [upd1_same]
        rw [hv] at hv'
        cases hv'
        exact ⟨w, rfl, by omega⟩
end K11
end
section
set_option autoImplicit false
namespace K11
variable {α : Type} [DecidableEq α]
/-- what holds behind some rounds: the state is told by an invariant, and the last lowered point was lowered in this round -/
theorem relaxed_inv {ds : List (Df α)} {k : Nat} : ∀ (rest : List (Df α)) (i : Nat) (s : St α) (l : Option α) (T R : α → Nat) (t : Nat),
    (∀ j, rest[j]? = ds[i + j]?) → i + rest.length = ds.length → Inv ds k i s T R t → (∀ x, l = some x → R x = k) →
    ∃ T' R' t', Inv ds k ds.length (relaxed i rest s l).1 T' R' t' ∧ ∀ x, (relaxed i rest s l).2 = some x → R' x = k
  | [], i, s, l, T, R, t, _, hn, h, hl => ⟨T, R, t, by simp at hn; rw [hn] at h; exact h, hl⟩
  | d :: rest, i, s, l, T, R, t, hr, hn, h, hl => by
    have e : ds[i]? = some d := by have := hr 0; simpa using this.symm
    have hr' : ∀ j, rest[j]? = ds[i + 1 + j]? := fun j => by have := hr (j + 1); simpa [Nat.add_assoc, Nat.add_comm 1 j] using this
    have hn' : i + 1 + rest.length = ds.length := by simp at hn; omega
    unfold relaxed step
    cases hw : low s.L d with
    | none => exact relaxed_inv rest (i + 1) s l T R t hr' hn' (h.keep e hw) hl
    | some w => exact relaxed_inv rest (i + 1) _ (some d.1) _ _ _ hr' hn' (h.lower e hw) (fun x hx => by cases hx; exact upd1_same _ _ _)
/-- a round in which nothing is lowered changes nothing, and all differences are true -/
theorem relaxed_some : ∀ (rest : List (Df α)) (i : Nat) (s : St α) (l : Option α), l ≠ none → (relaxed i rest s l).2 ≠ none
  | [], _, _, _, h => h
  | d :: rest, i, s, l, h => by
    unfold relaxed
    refine relaxed_some rest (i + 1) _ _ ?_
    split
    · exact h
    · exact nofun
theorem relaxed_none : ∀ (rest : List (Df α)) (i : Nat) (s : St α), (relaxed i rest s none).2 = none →
    (relaxed i rest s none).1 = s ∧ Flat rest s.L
  | [], _, _, _ => ⟨rfl, fun _ _ _ h => (nomatch h)⟩
  | d :: rest, i, s, h => by
    unfold relaxed step at h ⊢
    cases hw : low s.L d with
    | none =>
      rw [hw] at h
      obtain ⟨h1, h2⟩ := relaxed_none rest (i + 1) s h
      refine ⟨h1, fun x b m hm v hv => ?_⟩
      rcases List.mem_cons.1 hm with g | g
      · subst g; exact low_none hw hv
      · exact h2 x b m g v hv
    | some w => rw [hw] at h; exact absurd h (relaxed_some rest (i + 1) _ _ nofun)
/-- rounds that end with nothing to lower end flat -/
theorem settled_none {ds : List (Df α)} : ∀ (n : Nat) (s s' : St α), 0 < n → settled ds n s = (s', none) → Flat ds s'.L
  | n + 1, s, s', _, h => by
    unfold settled at h
    split at h
    · rename_i s2 e
      have := relaxed_none ds 0 s (by rw [e])
      rw [e] at this
      cases h
      dsimp only at this
      rw [this.1]
      exact this.2
    · split at h
      · cases h
      · rename_i s2 x e hk
        exact settled_none n s2 s' (by omega) h
/-- rounds that end with a lowered point: it was lowered in the last of them -/
theorem settled_some {ds : List (Df α)} : ∀ (n : Nat) (k : Nat) (s s' : St α) (x : α) (T R : α → Nat) (t : Nat), 0 < n → Inv ds k 0 s T R t →
    settled ds n s = (s', some x) → ∃ T' R' t', Inv ds (k + n - 1) ds.length s' T' R' t' ∧ R' x = k + n - 1
  | n + 1, k, s, s', x, T, R, t, _, hI, h => by
    unfold settled at h
    obtain ⟨T1, R1, t1, h1, h2⟩ := relaxed_inv (ds := ds) (k := k) ds 0 s none T R t (fun j => by rw [Nat.zero_add]) (Nat.zero_add _) hI nofun
    split at h
    · cases h
    · rename_i s2 y e
      rw [e] at h1 h2
      split at h
      · rename_i hk
        subst hk
        cases h
        exact ⟨T1, R1, t1, h1, h2 x rfl⟩
      · rename_i hk
        obtain ⟨T2, R2, t2, h3, h4⟩ := settled_some n (k + 1) s2 s' x T1 R1 t1 (by omega) h1.turn h
        have e2 : k + 1 + n - 1 = k + (n + 1) - 1 := by omega
        rw [e2] at h3 h4
        exact ⟨T2, R2, t2, h3, h4⟩
/-- from which point a point was lowered, and by how much less it may be -/
def prev (ds : List (Df α)) (B : α → Option Nat) (x : α) : Option (α × Int) :=
  match B x with
  | none => none
  | some j => match ds[j]? with
    | none => none
    | some d => some (d.2.1, d.2.2)
theorem Inv.prev {ds : List (Df α)} {k i : Nat} {s : St α} {T R : α → Nat} {t : Nat} (h : Inv ds k i s T R t) {x : α} {j : Nat} (e : s.B x = some j) :
    ∃ b m, ds[j]? = some (x, b, m) ∧ K11.prev ds s.B x = some (b, m) ∧ ∃ u v, s.L x = some u ∧ s.L b = some v ∧ v + m ≤ u ∧ (T x ≤ T b → v + m < u) ∧ R x ≤ R b + 1 := by
  obtain ⟨b, m, e2, r⟩ := h.back x j e
  exact ⟨b, m, e2, by unfold K11.prev; rw [e]; dsimp; rw [e2], r⟩
/-- a walk back of n steps, with the sum of what stands on it -/
inductive Back (ds : List (Df α)) (B : α → Option Nat) : Nat → α → α → Int → Prop where
  | nil (x : α) : Back ds B 0 x x 0
  | cons {n : Nat} {x b y : α} {m s : Int} : prev ds B x = some (b, m) → Back ds B n b y s → Back ds B (n + 1) x y (m + s)
theorem Back.sum {ds : List (Df α)} {k i : Nat} {s : St α} {T R : α → Nat} {t : Nat} (h : Inv ds k i s T R t) :
    ∀ {n : Nat} {x y : α} {w : Int}, Back ds s.B (n + 1) x y w → ∃ u v, s.L x = some u ∧ s.L y = some v ∧ (v + w < u ∨ v + w ≤ u ∧ T y < T x) := by
  intro n
  induction n with
  | zero =>
    intro x y w hb
    cases hb with
    | cons e hb' =>
      cases hb'
      have : ∃ j, s.B x = some j := by
        unfold K11.prev at e; split at e
        · cases e
        · rename_i j ej; exact ⟨j, ej⟩
      obtain ⟨j, ej⟩ := this
      obtain ⟨b, m, _, e2, u, v, hu, hv, hle, hst, _⟩ := h.prev ej
      rw [e2] at e
      cases e
      refine ⟨u, v, hu, hv, ?_⟩
      rcases Nat.lt_or_ge (T y) (T x) with g | g
      · exact .inr ⟨by omega, g⟩
      · have := hst g; exact .inl (by omega)
  | succ n ih =>
    intro x y w hb
    cases hb with
    | cons e hb' =>
      rename_i b' m' s'
      have : ∃ j, s.B x = some j := by
        unfold K11.prev at e; split at e
        · cases e
        · rename_i j ej; exact ⟨j, ej⟩
      obtain ⟨j, ej⟩ := this
      obtain ⟨b, m, _, e2, u, v, hu, hv, hle, hst, _⟩ := h.prev ej
      rw [e2] at e
      cases e
      obtain ⟨v2, z, hv2, hz, hh⟩ := ih hb'
      rw [hv] at hv2
      cases hv2
      refine ⟨u, z, hu, hz, ?_⟩
      rcases hh with g | ⟨g1, g2⟩
      · exact .inl (by omega)
      · rcases Nat.lt_or_ge (T b') (T x) with g | g
        · exact .inr ⟨by omega, by omega⟩
        · have := hst g; exact .inl (by omega)
/-- a ring of walks back has a sum below 0 -/
theorem Back.ring {ds : List (Df α)} {k i : Nat} {s : St α} {T R : α → Nat} {t : Nat} (h : Inv ds k i s T R t) {n : Nat} {x : α} {w : Int}
    (hb : Back ds s.B (n + 1) x x w) : w < 0 := by
  obtain ⟨u, v, hu, hv, hh⟩ := Back.sum h hb
  rw [hu] at hv
  cases hv
  rcases hh with g | ⟨_, g⟩
  · omega
  · omega
end K11
end
section
set_option autoImplicit false
namespace K11
variable {α : Type} [DecidableEq α]
/-- one step back; a point that was never lowered stays -/
def bk (ds : List (Df α)) (B : α → Option Nat) (x : α) : α := match prev ds B x with | none => x | some p => p.1
def bm (ds : List (Df α)) (B : α → Option Nat) (x : α) : Int := match prev ds B x with | none => 0 | some p => p.2
/-- so many steps back, and the sum of what stands on them -/
def bks (ds : List (Df α)) (B : α → Option Nat) : Nat → α → α
  | 0, x => x
  | n + 1, x => bks ds B n (bk ds B x)
def bms (ds : List (Df α)) (B : α → Option Nat) : Nat → α → Int
  | 0, _ => 0
  | n + 1, x => bm ds B x + bms ds B n (bk ds B x)
theorem bks_add (ds : List (Df α)) (B : α → Option Nat) (b : Nat) : ∀ (a : Nat) (x : α), bks ds B (a + b) x = bks ds B b (bks ds B a x)
  | 0, x => by rw [Nat.zero_add]; rfl
  | a + 1, x => by
    have e : a + 1 + b = (a + b) + 1 := by omega
    rw [e]
    exact bks_add ds B b a (bk ds B x)
theorem bks_succ (ds : List (Df α)) (B : α → Option Nat) (a : Nat) (x : α) : bks ds B (a + 1) x = bk ds B (bks ds B a x) := bks_add ds B 1 a x
/-- a point that was lowered -/
def Lowered (ds : List (Df α)) (B : α → Option Nat) (x : α) : Prop := ∃ j b m, B x = some j ∧ ds[j]? = some (x, b, m) ∧ prev ds B x = some (b, m)
theorem Back.of {ds : List (Df α)} {B : α → Option Nat} : ∀ (n : Nat) (x : α), (∀ i, i < n → Lowered ds B (bks ds B i x)) → Back ds B n x (bks ds B n x) (bms ds B n x)
  | 0, x, _ => .nil x
  | n + 1, x, h => by
    obtain ⟨j, b, m, _, _, e⟩ := h 0 (by omega)
    have e : prev ds B x = some (b, m) := e
    have e1 : bk ds B x = b := by unfold bk; rw [e]
    have e2 : bm ds B x = m := by unfold bm; rw [e]
    show Back ds B (n + 1) x (bks ds B n (bk ds B x)) (bm ds B x + bms ds B n (bk ds B x))
    rw [e1, e2]
    refine .cons e (Back.of n b fun i hi => ?_)
    have := h (i + 1) (by omega)
    show Lowered ds B (bks ds B i b)
    rw [← e1]
    exact this
theorem Inv.lowered {ds : List (Df α)} {k i : Nat} {s : St α} {T R : α → Nat} {t : Nat} (h : Inv ds k i s T R t) {x : α} (hx : 1 ≤ R x) :
    Lowered ds s.B x ∧ R x ≤ R (bk ds s.B x) + 1 := by
  obtain ⟨j, e⟩ := h.had x hx
  obtain ⟨b, m, e2, e3, _, _, _, _, _, _, hR⟩ := h.prev e
  refine ⟨⟨j, b, m, e, e2, e3⟩, ?_⟩
  unfold bk
  rw [e3]
  exact hR
theorem Inv.far {ds : List (Df α)} {k i : Nat} {s : St α} {T R : α → Nat} {t : Nat} (h : Inv ds k i s T R t) :
    ∀ (n : Nat) (x : α), n < R x → R x ≤ R (bks ds s.B n x) + n
  | 0, x, _ => Nat.le_refl _
  | n + 1, x, hx => by
    have h1 := Inv.far h n x (by omega)
    rw [bks_succ]
    have h2 := (h.lowered (x := bks ds s.B n x) (by omega)).2
    omega
theorem short_of_subset : ∀ (l pts : List α), l.Nodup → (∀ x ∈ l, x ∈ pts) → l.length ≤ pts.length
  | [], _, _, _ => Nat.zero_le _
  | a :: l, pts, hn, hs => by
    have ha : a ∈ pts := hs a (List.mem_cons_self)
    have hn' := List.nodup_cons.1 hn
    have := short_of_subset l (pts.erase a) hn'.2 (fun x hx => (List.mem_erase_of_ne (fun e => hn'.1 (by rw [← e]; exact hx))).2 (hs x (List.mem_cons_of_mem _ hx)))
    rw [List.length_erase_of_mem ha] at this
    have : 0 < pts.length := List.length_pos_of_mem ha
    simp
    omega
theorem pigeon (f : Nat → α) (pts : List α) (h : ∀ i, i ≤ pts.length → f i ∈ pts) : ∃ i j, i < j ∧ j ≤ pts.length ∧ f i = f j := by
  apply Classical.byContradiction
  intro hno
  have hn : ((List.range (pts.length + 1)).map f).Nodup := by
    unfold List.Nodup
    rw [List.pairwise_map]
    refine List.Pairwise.imp_of_mem (fun {a b} ha hb hab => ?_) (List.pairwise_lt_range)
    intro e
    exact hno ⟨a, b, hab, by have := List.mem_range.1 hb; omega, e⟩
  have := short_of_subset _ pts hn (fun x hx => by
    obtain ⟨i, hi, rfl⟩ := List.mem_map.1 hx
    exact h i (by have := List.mem_range.1 hi; omega))
  simp at this
  omega
/-- where a point was lowered in round N + 1, N being the number of points: N steps back there is a point of a ring,
and each ring through this point has a sum below 0 -/
theorem Inv.ring {ds : List (Df α)} {k i : Nat} {s : St α} {T R : α → Nat} {t : Nat} (h : Inv ds k i s T R t) {pts : List α}
    (hp : ∀ d ∈ ds, d.1 ∈ pts) {x : α} (hx : pts.length < R x) :
    (∀ n, Lowered ds s.B (bks ds s.B n x)) ∧ (∃ c, 0 < c ∧ bks ds s.B c (bks ds s.B pts.length x) = bks ds s.B pts.length x) ∧
    ∀ c, 0 < c → bks ds s.B c (bks ds s.B pts.length x) = bks ds s.B pts.length x → bms ds s.B c (bks ds s.B pts.length x) < 0 := by
  have near : ∀ n, n ≤ pts.length → Lowered ds s.B (bks ds s.B n x) := fun n hn => (h.lowered (by have := h.far n x (by omega); omega)).1
  have mem : ∀ n, n ≤ pts.length → bks ds s.B n x ∈ pts := fun n hn => by
    obtain ⟨j, b, m, _, e, _⟩ := near n hn
    exact hp _ (List.mem_of_getElem? e)
  obtain ⟨a, b, hab, hb, e⟩ := pigeon (fun n => bks ds s.B n x) pts mem
  have per : ∀ r, bks ds s.B (b + r) x = bks ds s.B (a + r) x := fun r => by rw [bks_add, bks_add, e]
  have all : ∀ n, Lowered ds s.B (bks ds s.B n x) := by
    intro n
    induction n using Nat.strongRecOn with
    | ind n ih =>
      rcases Nat.lt_or_ge n b with g | g
      · exact near n (by omega)
      · have := per (n - b)
        rw [show b + (n - b) = n by omega] at this
        rw [this]
        exact ih _ (by omega)
  refine ⟨all, ⟨b - a, by omega, ?_⟩, fun c hc e2 => ?_⟩
  · rw [← bks_add]
    have := per (pts.length - a)
    rw [show b + (pts.length - a) = pts.length + (b - a) by omega, show a + (pts.length - a) = pts.length by omega] at this
    exact this
  · have hB := Back.of (ds := ds) (B := s.B) c (bks ds s.B pts.length x) (fun i _ => by rw [← bks_add]; exact all _)
    rw [e2] at hB
    obtain ⟨c', rfl⟩ : ∃ c', c = c' + 1 := ⟨c - 1, by omega⟩
    exact Back.ring h hB
end K11
end
section
set_option autoImplicit false
namespace K11
variable {α : Type} [DecidableEq α]
/-- a way along differences, with its sum -/
inductive Way (ds : List (Df α)) : α → α → Int → Prop where
  | nil (x : α) : Way ds x x 0
  | cons {x b y : α} {m s : Int} : (x, b, m) ∈ ds → Way ds b y s → Way ds x y (m + s)
/-- numbers for which all differences are true -/
def Fits (ds : List (Df α)) (f : α → Int) : Prop := ∀ x b m, (x, b, m) ∈ ds → f x - f b ≤ m
theorem Fits.way {ds : List (Df α)} {f : α → Int} (h : Fits ds f) {x y : α} {s : Int} (g : Way ds x y s) : f x - f y ≤ s := by
  induction g with
  | nil => omega
  | cons e _ ih => have := h _ _ _ e; omega
/-- there is a ring -/
def Ringed (ds : List (Df α)) : Prop := ∃ x s, Way ds x x s ∧ s < 0
theorem Fits.no {ds : List (Df α)} {f : α → Int} (h : Fits ds f) : ¬ Ringed ds := fun ⟨x, s, g, hs⟩ => by have := h.way g; omega
theorem Back.way {ds : List (Df α)} {B : α → Option Nat} : ∀ (n : Nat) (x : α), (∀ i, i < n → Lowered ds B (bks ds B i x)) → Way ds x (bks ds B n x) (bms ds B n x)
  | 0, x, _ => .nil x
  | n + 1, x, h => by
    obtain ⟨j, b, m, _, ej, e⟩ := h 0 (by omega)
    have e : prev ds B x = some (b, m) := e
    have ej : ds[j]? = some (x, b, m) := ej
    have e1 : bk ds B x = b := by unfold bk; rw [e]
    have e2 : bm ds B x = m := by unfold bm; rw [e]
    show Way ds x (bks ds B n (bk ds B x)) (bm ds B x + bms ds B n (bk ds B x))
    rw [e1, e2]
    refine .cons (List.mem_of_getElem? ej) (Back.way n b fun i hi => ?_)
    have := h (i + 1) (by omega)
    show Lowered ds B (bks ds B i b)
    rw [← e1]
    exact this
theorem Inv.ringed {ds : List (Df α)} {k i : Nat} {s : St α} {T R : α → Nat} {t : Nat} (h : Inv ds k i s T R t) {pts : List α}
    (hp : ∀ d ∈ ds, d.1 ∈ pts) {x : α} (hx : pts.length < R x) : Ringed ds := by
  obtain ⟨h1, ⟨c, hc, e⟩, h3⟩ := h.ring hp hx
  refine ⟨bks ds s.B pts.length x, _, ?_, h3 c hc e⟩
  have := Back.way (ds := ds) (B := s.B) c (bks ds s.B pts.length x) (fun i _ => by rw [← bks_add]; exact h1 _)
  rwa [e] at this
/-- where the levels come from -/
structure From (ds : List (Df α)) (L0 L : α → Option Int) : Prop where
  sum : ∀ x v, L x = some v → ∃ z s v0, Way ds x z s ∧ L0 z = some v0 ∧ v = s + v0
  low : ∀ x v, L0 x = some v → ∃ u, L x = some u ∧ u ≤ v
theorem From.init (ds : List (Df α)) (L : α → Option Int) : From ds L L :=
  ⟨fun x v e => ⟨x, 0, v, .nil x, e, by omega⟩, fun x v e => ⟨v, e, by omega⟩⟩
theorem From.step {ds : List (Df α)} {L0 : α → Option Int} {s : St α} (h : From ds L0 s.L) {d : Df α} (hd : d ∈ ds) (i : Nat) : From ds L0 (step i d s).L := by
  unfold K11.step
  cases hw : K11.low s.L d with
  | none => exact h
  | some w =>
    obtain ⟨v, hv, rfl, hlt⟩ := low_some hw
    obtain ⟨x, b, m⟩ := d
    dsimp only at hv hlt ⊢
    refine ⟨fun y v' e => ?_, fun y v' e => ?_⟩
    · by_cases hy : y = x
      · subst hy
        rw [upd1_same] at e
        cases e
        obtain ⟨z, r, v0, hz, e0, rfl⟩ := h.sum b v hv
        exact ⟨z, m + r, v0, .cons hd hz, e0, by omega⟩
      · rw [upd1_ne _ _ hy] at e
        exact h.sum y v' e
    · obtain ⟨u, hu, hle⟩ := h.low y v' e
      by_cases hy : y = x
      · subst hy
        rw [upd1_same]
        have := hlt u hu
        exact ⟨_, rfl, by omega⟩
      · rw [upd1_ne _ _ hy]
        exact ⟨u, hu, hle⟩
theorem From.relaxed {ds : List (Df α)} {L0 : α → Option Int} : ∀ (rest : List (Df α)) (i : Nat) (s : St α) (l : Option α), (∀ d ∈ rest, d ∈ ds) → From ds L0 s.L →
    From ds L0 (relaxed i rest s l).1.L
  | [], _, _, _, _, h => h
  | d :: rest, i, s, l, hr, h => by
    unfold K11.relaxed
    exact From.relaxed rest (i + 1) _ _ (fun d hd => hr d (List.mem_cons_of_mem _ hd)) (h.step (hr d List.mem_cons_self) i)
theorem From.settled {ds : List (Df α)} {L0 : α → Option Int} : ∀ (n : Nat) (s : St α), From ds L0 s.L → From ds L0 (settled ds n s).1.L
  | 0, _, h => h
  | n + 1, s, h => by
    have h1 := From.relaxed (ds := ds) ds 0 s none (fun _ h => h) h
    unfold K11.settled
    split
    · rename_i s2 e; rw [e] at h1; exact h1
    · rename_i s2 x e
      rw [e] at h1
      split
      · exact h1
      · exact From.settled n s2 h1
/-- levels that are 0 everywhere, settled in so many rounds as there are points and one more: they fit, or there is a ring -/
theorem settled_zero {ds : List (Df α)} {pts : List α} (hp : ∀ d ∈ ds, d.1 ∈ pts) {L : α → Option Int} {s' : St α} :
    (settled ds (pts.length + 1) ⟨L, fun _ => none⟩ = (s', none) → Flat ds s'.L ∧ From ds L s'.L) ∧
    ∀ x, settled ds (pts.length + 1) ⟨L, fun _ => none⟩ = (s', some x) → Ringed ds ∧
      (∀ n, Lowered ds s'.B (bks ds s'.B n x)) ∧ (∃ c, 0 < c ∧ bks ds s'.B c (bks ds s'.B pts.length x) = bks ds s'.B pts.length x) ∧
      ∀ c, 0 < c → bks ds s'.B c (bks ds s'.B pts.length x) = bks ds s'.B pts.length x → bms ds s'.B c (bks ds s'.B pts.length x) < 0 := by
  refine ⟨fun h => ⟨settled_none _ _ _ (by omega) h, ?_⟩, fun x h => ?_⟩
  · have := From.settled (ds := ds) (L0 := L) (pts.length + 1) ⟨L, fun _ => none⟩ (From.init ds L)
    rwa [h] at this
  · obtain ⟨T, R, t, h1, h2⟩ := settled_some (pts.length + 1) 1 _ s' x _ _ _ (by omega) (Inv.init ds L) h
    have h3 : pts.length < R x := by omega
    exact ⟨h1.ringed hp h3, h1.ring hp h3⟩
end K11
end
section
set_option autoImplicit false
set_option maxRecDepth 100000
set_option maxHeartbeats 4000000
/-! tables: a dict's keys and what stands there, in order -/
namespace K11
open PySem PySem.Spec PyProof.Rows L2 KX
section
variable {β γ : Type}
def lookI (m : List (NestedKey × β)) (k : NestedKey) : Option β := (m.find? fun p => decide (p.1 = k)).map (·.2)
def putI (m : List (NestedKey × β)) (k : NestedKey) (v : β) : List (NestedKey × β) := if (lookI m k).isSome then m.map (fun p => if p.1 = k then (p.1, v) else p) else m ++ [(k, v)]
theorem lookI_cons (p : NestedKey × β) (m : List (NestedKey × β)) (k : NestedKey) : lookI (p :: m) k = if p.1 = k then some p.2 else lookI m k := by
  unfold lookI
  rw [List.find?_cons]
  by_cases e : p.1 = k
  · rw [decide_eq_true e, if_pos e]
    rfl
  · rw [decide_eq_false e, if_neg e]
theorem lookI_none {m : List (NestedKey × β)} {k : NestedKey} : lookI m k = none ↔ k ∉ m.map (·.1) := by
  induction m with
  | nil => simp [lookI]
  | cons p m ih =>
    rw [lookI_cons, List.map_cons, List.mem_cons, not_or]
    by_cases e : p.1 = k
    · rw [if_pos e]
      exact ⟨fun h => (nomatch h), fun h => absurd e.symm h.1⟩
    · rw [if_neg e, ih]
      exact ⟨fun h => ⟨fun q => e q.symm, h⟩, fun h => h.2⟩
theorem lookI_some {m : List (NestedKey × β)} {k : NestedKey} (h : k ∈ m.map (·.1)) : ∃ v, lookI m k = some v := by
  cases e : lookI m k with
  | none => exact absurd h (lookI_none.mp e)
  | some v => exact ⟨v, rfl⟩
theorem lookI_app (m n : List (NestedKey × β)) (k : NestedKey) : lookI (m ++ n) k = match lookI m k with | some v => some v | none => lookI n k := by
  induction m with
  | nil => rfl
  | cons p m ih =>
    rw [List.cons_append, lookI_cons, lookI_cons]
    by_cases e : p.1 = k
    · rw [if_pos e, if_pos e]
    · rw [if_neg e, if_neg e, ih]
theorem lookI_put (m : List (NestedKey × β)) (k : NestedKey) (v : β) : lookI (putI m k v) = upd1 (lookI m) k (some v) := by
  funext x
  unfold putI
  have key : ∀ m : List (NestedKey × β), lookI (m.map fun p => if p.1 = k then (p.1, v) else p) x = if x = k then (lookI m x).map (fun _ => v) else lookI m x := fun m => by
    induction m with
    | nil => simp [lookI]
    | cons p m ih =>
      rw [List.map_cons, lookI_cons, lookI_cons, ih]
      by_cases e : p.1 = k
      · rw [if_pos e]
        by_cases q : p.1 = x
        · rw [if_pos q, if_pos q, if_pos (q.symm.trans e)]
          rfl
        · rw [if_neg q, if_neg q]
      · rw [if_neg e]
        by_cases q : p.1 = x
        · rw [if_pos q, if_pos q, if_neg (fun z => e (q.trans z))]
        · rw [if_neg q, if_neg q]
  by_cases hs : (lookI m k).isSome
  · rw [if_pos hs, key]
    by_cases e : x = k
    · subst e
      rw [if_pos rfl, upd1_same]
      obtain ⟨u, hu⟩ := Option.isSome_iff_exists.mp hs
      rw [hu]
      rfl
    · rw [if_neg e, upd1_ne _ _ e]
  · rw [if_neg hs, lookI_app]
    have hn : lookI m k = none := by simpa using hs
    by_cases e : x = k
    · subst e
      rw [hn, upd1_same, lookI_cons, if_pos rfl]
    · rw [upd1_ne _ _ e, lookI_cons, if_neg (fun z => e z.symm)]
      cases lookI m x <;> rfl
theorem keys_put {m : List (NestedKey × β)} {k : NestedKey} {v : β} (h : k ∈ m.map (·.1)) : (putI m k v).map (·.1) = m.map (·.1) := by
  unfold putI
  obtain ⟨u, hu⟩ := lookI_some h
  rw [if_pos (by rw [hu]; rfl), List.map_map]
  refine List.map_congr_left fun p _ => ?_
  show (if p.1 = k then (p.1, v) else p).1 = p.1
  split <;> rfl
theorem len_put {m : List (NestedKey × β)} {k : NestedKey} {v : β} : (putI m k v).length ≤ m.length + 1 := by
  unfold putI
  split
  · rw [List.length_map]; omega
  · rw [List.length_append]; simp
theorem look_map (f : β → γ) (m : List (NestedKey × β)) (k : NestedKey) : lookI (m.map fun p => (p.1, f p.2)) k = (lookI m k).map f := by
  induction m with
  | nil => rfl
  | cons p m ih =>
    rw [List.map_cons, lookI_cons, lookI_cons, ih]
    by_cases e : p.1 = k
    · rw [if_pos e, if_pos e]; rfl
    · rw [if_neg e, if_neg e]
theorem put_map (f : β → γ) (m : List (NestedKey × β)) (k : NestedKey) (v : β) : putI (m.map fun p => (p.1, f p.2)) k (f v) = (putI m k v).map fun p => (p.1, f p.2) := by
  unfold putI
  rw [look_map, Option.isSome_map]
  by_cases h : (lookI m k).isSome
  · rw [if_pos h, if_pos h, List.map_map, List.map_map]
    refine List.map_congr_left fun p _ => ?_
    show (if p.1 = k then (p.1, f v) else (p.1, f p.2)) = _
    by_cases e : p.1 = k
    · rw [if_pos e]
      show _ = ((if p.1 = k then (p.1, v) else p).1, f (if p.1 = k then (p.1, v) else p).2)
      rw [if_pos e]
    · rw [if_neg e]
      show _ = ((if p.1 = k then (p.1, v) else p).1, f (if p.1 = k then (p.1, v) else p).2)
      rw [if_neg e]
  · rw [if_neg h, if_neg h, List.map_append]
    rfl
end
/-- a dict, by its keys and what stands there -/
def Tbl (w : World) (H : Hp) (D : Addr) (m : List (NestedKey × V)) : Prop := ∃ xs, MD w H D xs ∧ xs.map (fun r => (r.1, r.2.2)) = m
def TI' (w : World) (H : Hp) (D : Addr) (m : List (NestedKey × Int)) : Prop := Tbl w H D (m.map fun p => (p.1, V.int p.2))
def TN (w : World) (H : Hp) (D : Addr) (m : List (NestedKey × Nat)) : Prop := Tbl w H D (m.map fun p => (p.1, V.int p.2))
theorem get_look {xs : List MRow} {m : List (NestedKey × V)} (e : xs.map (fun r => (r.1, r.2.2)) = m) (k : NestedKey) : mGet xs k = lookI m k := by
  subst e
  induction xs with
  | nil => rfl
  | cons x xs ih =>
    rw [List.map_cons, lookI_cons, ← ih]
    unfold mGet
    rw [List.find?_cons]
    by_cases q : x.1 = k
    · rw [decide_eq_true q, if_pos q]; rfl
    · rw [decide_eq_false q, if_neg q]
theorem put_rows {xs : List MRow} {m : List (NestedKey × V)} (e : xs.map (fun r => (r.1, r.2.2)) = m) (k : NestedKey) (y v : V) : (mPut xs k y v).map (fun r => (r.1, r.2.2)) = putI m k v := by
  unfold mPut putI
  rw [get_look e]
  subst e
  by_cases h : (lookI (xs.map fun r => (r.1, r.2.2)) k).isSome
  · rw [if_pos h, if_pos h, List.map_map, List.map_map]
    refine List.map_congr_left fun x _ => ?_
    show ((if x.1 = k then (x.1, x.2.1, v) else x).1, (if x.1 = k then (x.1, x.2.1, v) else x).2.2) = if x.1 = k then (x.1, v) else (x.1, x.2.2)
    by_cases q : x.1 = k
    · rw [if_pos q, if_pos q]
    · rw [if_neg q, if_neg q]
  · rw [if_neg h, if_neg h, List.map_append]
    rfl
/-- all but some objects stay -/
def Grs (S : List Addr) (H H' : Hp) : Prop := ∀ b o, b ∉ S → H b = some o → H' b = some o
def Tup (H H' : Hp) : Prop := ∀ b ys, H b = some (.tup ys) → H' b = some (.tup ys)
section
variable {S T : List Addr} {H H' H2 : Hp} {w : World} {D a : Addr} {m : List (NestedKey × V)} {k : NestedKey} {v : V}
theorem Grs.refl : Grs S H H := fun _ _ _ e => e
theorem Grs.trans (h : Grs S H H') (g : Grs S H' H2) : Grs S H H2 := fun b o n e => g b o n (h b o n e)
theorem Grs.of (h : Same H H') : Grs S H H' := fun b o _ e => h b o e
theorem Grs.upd {o : HO} (h : a ∈ S) : Grs S H (upd H a o) := fun b x n e => by
  rw [upd_ne (fun q : b = a => n (by rw [q]; exact h))]
  exact e
/-- what stood nowhere may change -/
theorem Grs.free (h : Grs S H H') (n : ∀ a ∈ S, H a = none) : Same H H' := fun b o e => h b o (fun q => by rw [n b q] at e; cases e) e
theorem Same.tp (h : Same H H') : Tup H H' := fun b ys e => h b _ e
theorem Tup.trans (h : Tup H H') (g : Tup H' H2) : Tup H H2 := fun b ys e => g b ys (h b ys e)
theorem MKeyAt.same (s : Same H H') (h : MKeyAt H k v) : MKeyAt H' k v := MKeyAt.tupd (Same.tp s) h
theorem Tbl.keep (t : Tup H H') (e : ∀ o, H D = some o → H' D = some o) (h : Tbl w H D m) : Tbl w H' D m := by
  obtain ⟨xs, M, q⟩ := h
  exact ⟨xs, ⟨e _ M.at_, fun x hx => MKeyAt.tupd t (M.ks x hx)⟩, q⟩
theorem Tbl.same (s : Same H H') (h : Tbl w H D m) : Tbl w H' D m := h.keep (Same.tp s) (fun o e => s _ _ e)
theorem Tbl.ob (h : Tbl w H D m) : ∃ o, H D = some o := by
  obtain ⟨xs, M, q⟩ := h
  exact ⟨_, M.at_⟩
theorem Tbl.new (n : H D = none) : Tbl w (upd H D (mDict w D [])) D [] := ⟨[], ⟨upd_same, fun _ h => (nomatch h)⟩, rfl⟩
theorem tup_upd {o : HO} (n : ∀ ys, H D ≠ some (.tup ys)) : Tup H (upd H D o) := fun b ys e => by
  rw [upd_ne (fun q : b = D => n ys (by rw [← q]; exact e))]
  exact e
end
end K11
end
section
set_option autoImplicit false
set_option maxRecDepth 100000
set_option maxHeartbeats 6000000
/-! set(xs), xs a list or tuple of texts and ints, and its length -/
namespace KX
open PySem PySem.Spec PyProof.Rows L2
/-- each once, in the order in which they come first -/
def once {κ : Type} [DecidableEq κ] (ks : List κ) : List κ := ks.foldl (fun acc k => if k ∈ acc then acc else acc ++ [k]) []
theorem once_snoc {κ : Type} [DecidableEq κ] (ks : List κ) (k : κ) : once (ks ++ [k]) = if k ∈ once ks then once ks else once ks ++ [k] := by
  unfold once
  rw [List.foldl_append]
  rfl
theorem once_le {κ : Type} [DecidableEq κ] (ks : List κ) : (once ks).length ≤ ks.length := by
  have go : ∀ (l acc : List κ), (l.foldl (fun acc k => if k ∈ acc then acc else acc ++ [k]) acc).length ≤ acc.length + l.length := fun l => by
    induction l with
    | nil => exact fun acc => Nat.le_refl _
    | cons k l ih =>
      intro acc
      have y := ih (if k ∈ acc then acc else acc ++ [k])
      rw [List.foldl_cons, List.length_cons]
      by_cases m : k ∈ acc
      · rw [if_pos m] at y ⊢
        omega
      · rw [if_neg m] at y ⊢
        rw [List.length_append, List.length_singleton] at y
        omega
  have y := go ks []
  rw [List.length_nil, Nat.zero_add] at y
  exact y
section
end
section
variable {prog : Program} {w : World} {A : Around} {E : Value → Shared → Prop} {s : Shared}
abbrev setNew (led : Bool) : Obj := { cls := .type "set", dict := none, data := .set #[] 0 (.fresh 0 0 led) }
end
end KX
end
section
set_option autoImplicit false
set_option maxRecDepth 100000
set_option maxHeartbeats 4000000
namespace KX
open PySem PySem.Spec PyProof.Rows L2
theorem strs_vals : ∀ {zs : List Str} {us : List Value}, Vals (zs.map V.str) us → ∀ (i : Nat) (u : Value), us[i]? = some u → ∃ (z : Str) (t : Tok), zs[i]? = some z ∧ u = .str z t
  | [], _, .nil, i, u, h => by simp at h
  | z :: zs, _, .cons r t, 0, u, h => by
    obtain ⟨k, e⟩ := r
    rw [List.getElem?_cons_zero] at h
    cases h
    exact ⟨z, k, rfl, e⟩
  | z :: zs, _, .cons r t, i + 1, u, h => by
    rw [List.getElem?_cons_succ] at h
    obtain ⟨y, k, e1, e2⟩ := strs_vals t i u h
    exact ⟨y, k, by rw [List.getElem?_cons_succ]; exact e1, e2⟩
end KX
end
section
set_option autoImplicit false
set_option maxRecDepth 100000
set_option maxHeartbeats 4000000
/-! sets whose members can be gathered again: the table's order is kept in sight -/
namespace KX
open PySem PySem.Spec PyProof.Rows L2
section
variable {prog : Program} {w : World} {κ : Type} [DecidableEq κ]
/-- a set of keys, with its table in order -/
def SetK (knd : KeyKind prog w κ) (h : Heap) (a : Addr) (M : κ → Bool) (n : Nat) : Prop :=
  ∃ ob els ep tab, h.get? a = some ob ∧ ob.ExactSet ∧ ob.data = .set els ep tab ∧ ElemsOf knd els.toList ∧ (∀ k, M k = true ↔ ∃ e ∈ els.toList, knd.is k e.2 = true) ∧
    els.size < scanBound ∧ tab.fits els.size = true ∧ els.size = n ∧ Ris tab.place.toList ∧ (w.params.followText "set-order" = true ∨ tab.led = true)
variable {knd : KeyKind prog w κ} {A : Around} {E : Value → Shared → Prop} {s : Shared} {a : Addr} {M : κ → Bool} {n : Nat}
theorem SetK.as {h : Heap} {M' : κ → Bool} {n' : Nat} (y : SetK knd h a M n) (e : ∀ k, M' k = M k) (en : n' = n) : SetK knd h a M' n' := by
  have q : M' = M := funext e
  rw [q, en]
  exact y
/-- what is done once the new members and the new table are known -/
theorem lay_k {gv : Bool → Sem Unit} (free : ∀ (b : Bool) (s1 : Shared) (R : Unit → Shared → Prop), R () s1 → wpAny (model prog w) A (gv b) R E s1) {ob : Obj} {els fresh : Array (Int × Value)} {ep : Nat} {tab tab2 : SetTable} {M' : κ → Bool}
    (ho : s.heap.get? a = some ob) (ex : ob.ExactSet) (hd : ob.data = .set els ep tab) (el : ElemsOf knd fresh.toList) (mem : ∀ k, M' k = true ↔ ∃ e ∈ fresh.toList, knd.is k e.2 = true) (small : fresh.size < scanBound) (fit : tab2.fits fresh.size = true)
    (ris : Ris tab2.place.toList) (led : w.params.followText "set-order" = true ∨ tab2.led = true) {dm : Bool} {R : Option Bool → Shared → Prop} (q : ∀ h', Heap.SameBut a s.heap h' → SetK knd h' a M' fresh.size → R (some true) { s with heap := h' }) :
    wpAny (model prog w) A (do
        storeSet a fresh tab2
        if (!dm && tab2.tooFull) = true then do
            gv (relayAll tab2 fresh (SetTable.grown fresh.size)).2.2
            storeSet a (relayAll tab2 fresh (SetTable.grown fresh.size)).1 (relayAll tab2 fresh (SetTable.grown fresh.size)).2.1
            pure (some true)
          else pure (some true)) R E s := by
  have at1 := store_at (es' := fresh) (t' := tab2) ho hd
  have but1 := Heap.SameBut.update s.heap a (Obj.putSet fresh tab2)
  refine wpAny_bind (wpAny_storeSet_of ho hd ?_ (fits_of_scanBound small))
  split
  · have perm := relayAll_perm tab2 fresh (SetTable.grown fresh.size)
    have fit3 := relayAll_fits tab2 fresh (SetTable.grown fresh.size)
    have ris3 := relayAll_ris tab2 fresh (SetTable.grown fresh.size)
    have led3 := relayAll_led tab2 fresh (SetTable.grown fresh.size)
    generalize relayAll tab2 fresh (SetTable.grown fresh.size) = Y at perm fit3 ris3 led3 ⊢
    obtain ⟨last, tab3, gave⟩ := Y
    dsimp only at perm fit3 ris3 led3 ⊢
    have size : last.size = fresh.size := by rw [← Array.length_toList, perm.length_eq, Array.length_toList]
    have small2 : last.size < scanBound := by omega
    refine wpAny_bind (free _ _ _ ?_)
    refine wpAny_bind (wpAny_storeSet_of at1 rfl ?_ (fits_of_scanBound small2))
    have at2 := store_at (es' := last) (t' := tab3) at1 rfl
    refine wpAny_pure (q _ (but1.trans (Heap.SameBut.update _ a _)) ?_)
    refine ⟨_, last, _, tab3, at2, ex, rfl, fun e he => el e (perm.mem_iff.mp he), fun k => ?_, small2, fit3, size, ris3, led.imp id fun z => by rw [led3]; exact z⟩
    rw [mem k]
    exact ⟨fun ⟨e, he, h⟩ => ⟨e, perm.mem_iff.mpr he, h⟩, fun ⟨e, he, h⟩ => ⟨e, perm.mem_iff.mp he, h⟩⟩
  · exact wpAny_pure (q _ but1 ⟨_, fresh, _, tab2, at1, ex, rfl, el, mem, small, fit, rfl, ris, led⟩)
theorem add_k {k : κ} {v : Value} {Q : Bool → Shared → Prop} (key : knd.is k v = true) (sc : v.scannable = true) (y : SetK knd s.heap a M n) (room : n + 1 < scanBound)
    (q : ∀ h', Heap.SameBut a s.heap h' → SetK knd h' a (fun j => M j || decide (j = k)) (if M k = true then n else n + 1) → Q (!M k) { s with heap := h' }) :
    wpAny (model prog w) A (setAddHashed a v (knd.hash k)) Q E s := by
  obtain ⟨ob, els, ep, tab, ho, ex, hd, el, mem, small, fit, size, ris, led⟩ := y
  unfold setAddHashed setAddHashedIn
  refine wpAny_holding (wpAny_bind (wpAny_setState_of ho hd fit ?_))
  dsimp only
  rw [byScan_of sc small el]
  simp only [↓reduceIte]
  unfold setAddByScan
  refine wpAny_bind (wpAny_bind (wpAny_rule (wpAny_bind (wpAny_setScan_of key ho hd fit el ?_))))
  have one : ∀ {e : Value} {j : κ}, knd.is k e = true → (knd.is j e = true ↔ j = k) := fun {e j} h => by
    have := KeyKind.is_eq_decide h j
    rw [this, decide_eq_true_eq]
  cases found : List.findIdx? (fun e => knd.is k e.2) els.toList with
  | some j =>
    dsimp only
    obtain ⟨hj, pj, _⟩ := List.findIdx?_eq_some_iff_getElem.mp found
    have mk : M k = true := (mem k).2 ⟨els.toList[j], List.getElem_mem hj, pj⟩
    refine wpAny_pure (wpAny_pure ?_)
    have z := q s.heap (Heap.SameBut.refl a s.heap) ⟨ob, els, ep, tab, ho, ex, hd, el, fun i => by
      rw [Bool.or_eq_true, decide_eq_true_eq, ← mem i]
      exact ⟨fun h => h.elim id fun e => e ▸ mk, .inl⟩, small, fit, by rw [if_pos mk]; exact size, ris, led⟩
    rw [mk] at z
    exact z
  | none =>
    dsimp only
    have mk : M k = false := by
      cases e : M k with
      | false => rfl
      | true =>
        obtain ⟨x, hx, h⟩ := (mem k).1 e
        have c := List.findIdx?_eq_none_iff.mp found x hx
        rw [h] at c
        cases c
    have gave : ∀ (b : Bool) {s1 : Shared} {R : Unit → Shared → Prop}, R () s1 → wpAny (model prog w) A (match b with | true => rule "set.scan.the-table-gave-way" | false => pure ()) R E s1 := fun b s1 R z => by
      cases b with
      | true => exact wpAny_rule z
      | false => exact wpAny_pure z
    have perm := layNew_perm tab els (knd.hash k) v
    have fit1 := layNew_fits tab els (knd.hash k) v
    have ris1 := layNew_ris tab els (knd.hash k) v ris
    have led1 := layNew_led tab els (knd.hash k) v
    generalize layNew tab els (knd.hash k) v = Y at perm fit1 ris1 led1 ⊢
    obtain ⟨els1, tab1, dm, gv⟩ := Y
    dsimp only at perm fit1 ris1 led1 ⊢
    rw [Array.toList_push] at perm
    have perm1 : els1.toList.Perm ((knd.hash k, v) :: els.toList) := perm.trans (List.perm_append_singleton _ _)
    have el1 : ElemsOf knd els1.toList := fun e he => by
      rcases List.mem_cons.mp (perm1.mem_iff.mp he) with z | z
      · rw [z]
        exact ⟨⟨k, key, rfl⟩, sc⟩
      · exact el e z
    have mem1 : ∀ i, (M i || decide (i = k)) = true ↔ ∃ e ∈ els1.toList, knd.is i e.2 = true := fun i => by
      rw [Bool.or_eq_true, decide_eq_true_eq, mem i]
      constructor
      · rintro (⟨e, he, h⟩ | rfl)
        · exact ⟨e, perm1.mem_iff.mpr (List.mem_cons_of_mem _ he), h⟩
        · exact ⟨_, perm1.mem_iff.mpr List.mem_cons_self, key⟩
      · rintro ⟨e, he, h⟩
        rcases List.mem_cons.mp (perm1.mem_iff.mp he) with z | z
        · rw [z] at h
          exact .inr ((one key).1 h)
        · exact .inl ⟨e, z, h⟩
    have size1 : els1.size = n + 1 := by rw [← Array.length_toList, perm1.length_eq, List.length_cons, Array.length_toList, size]
    have small1 : els1.size < scanBound := by omega
    have led2 : w.params.followText "set-order" = true ∨ tab1.led = true := led.imp id fun z => by rw [led1]; exact z
    have fin : ∀ h', Heap.SameBut a s.heap h' → SetK knd h' a (fun j => M j || decide (j = k)) els1.size → Q true { s with heap := h' } := fun h' sb r => by
      have z := q h' sb
      rw [mk] at z
      rw [size1] at r
      exact z r
    refine wpAny_bind (gave _ ?_)
    split
    · refine wpAny_bind ?_
      rw [hashByValue_scannable 8 sc]
      refine wpAny_pure (lay_k (knd := knd) (fun b s1 R z => ?_) ho ex hd el1 mem1 small1 ?_ ?_ ?_ fun h' sb r => ?_)
      · cases b <;> first | exact wpAny_pure z | exact wpAny_rule z
      · first | (split <;> first | exact fit1 | exact SetTable.fits_plain_off fit1) | exact fit1
      · first | (split <;> exact ris1) | exact ris1
      · first | (split <;> exact led2) | exact led2
      · dsimp only
        exact wpAny_pure (fin h' sb r)
    · refine wpAny_bind (wpAny_pure ?_)
      simp only [↓reduceIte]
      refine lay_k (knd := knd) (fun b s1 R z => ?_) ho ex hd el1 mem1 small1 fit1 ris1 led2 fun h' sb r => ?_
      · cases b <;> first | exact wpAny_pure z | exact wpAny_rule z
      · dsimp only
        exact wpAny_pure (fin h' sb r)
theorem new_k {h : Heap} (ho : h.get? a = some { cls := .type "set", dict := none, data := .set #[] 0 (.fresh 0 0 (!w.params.followText "set-order")) }) : SetK knd h a (fun _ => false) 0 := by
  refine ⟨_, #[], 0, _, ho, ⟨rfl, rfl, rfl⟩, rfl, fun e he => by simp at he, fun k => by simp, by decide, by rfl, rfl, List.Pairwise.nil, ?_⟩
  show _ ∨ (!w.params.followText "set-order") = true
  cases w.params.followText "set-order" with
  | true => exact .inl rfl
  | false => exact .inr rfl
end
end KX
end
section
set_option autoImplicit false
set_option maxRecDepth 100000
set_option maxHeartbeats 4000000
/-! set(list) whose members can be gathered again; sorted(set(list of texts)) -/
namespace KX
open PySem PySem.Spec PyProof.Rows L2
section
variable {prog : Program} {w : World} {κ : Type} [DecidableEq κ] {knd : KeyKind prog w κ} {A : Around} {R : Result → Shared → Prop} {I : Addr} {fp wr : List Addr} {G : Array GenState → Array GenState → Prop} {n : Nat} {P : Nat → Value → Prop} {St : Nat → Shared → Prop}
theorem fill_k (W : WalksS prog w A.in1 I fp wr G n P St) (S : Addr) (out : S ∉ fp) (ks : List κ) (len : ks.length = n) (few : n + 1 < scanBound) (is : ∀ i v, P i v → ∃ k, ks[i]? = some k ∧ knd.is k v = true ∧ v.scannable = true) :
    ∀ (k i : Nat) (s : Shared), n - i = k → i ≤ n → St i s → SetK knd s.heap S (fun y => decide (y ∈ once (ks.take i))) (once (ks.take i)).length →
      (∀ s', Moved (S :: wr) G s s' → SetK knd s'.heap S (fun y => decide (y ∈ once ks)) (once ks).length → R (.ok (.ret .none)) s') →
      codeAny (model prog w) A (.builtin "set.update.loop" ⟨[.ref S, .ref I], []⟩) R s := by
  have out2 : S ∉ wr := fun h => out (W.sub _ h)
  have wider : ∀ b ∈ wr, b ∈ S :: wr := fun b hb => List.mem_cons_of_mem _ hb
  intro k
  induction k with
  | zero =>
    intro i s hk hi st hS hR
    obtain rfl : i = n := by omega
    refine codeAny_builtin PyProof.Rows.F.entry_set_update_loop ?_
    rw [Around.under_plainId PyProof.Rows.F.plain_set_update_loop _]
    show wpAny _ A.in1 (pyNext (.ref I) >>= _) _ _ s
    refine wpAny_bind (W.done s _ _ st fun s' mv => ?_)
    show wpAny _ A.in1 (ret Value.none) _ _ s'
    refine wpAny_pure (hR s' (mv.mono wider) ?_)
    rw [← len, List.take_length] at hS
    obtain ⟨o, es, ep, t, ho, y⟩ := hS
    exact ⟨o, es, ep, t, mv.heap S _ out2 ho, y⟩
  | succ k ih =>
    intro i s hk hi st hS hR
    have lt : i < n := by omega
    refine codeAny_builtin PyProof.Rows.F.entry_set_update_loop ?_
    rw [Around.under_plainId PyProof.Rows.F.plain_set_update_loop _]
    show wpAny _ A.in1 (pyNext (.ref I) >>= _) _ _ s
    refine wpAny_bind (W.item i s _ _ lt st fun v s' hP st' mv => ?_)
    obtain ⟨x, hx, hkey, sc⟩ := is i v hP
    have hS1 : SetK knd s'.heap S (fun y => decide (y ∈ once (ks.take i))) (once (ks.take i)).length := by
      obtain ⟨o, es, ep, t, ho, y⟩ := hS
      exact ⟨o, es, ep, t, mv.heap S _ out2 ho, y⟩
    show wpAny _ A.in1 (holding [v] (setAdd S v) >>= _) _ _ s'
    refine wpAny_bind (wpAny_holding ?_)
    unfold setAdd
    refine wpAny_holding (wpAny_bind (knd.pyHash hkey ?_))
    have small : (once (ks.take i)).length + 1 < scanBound := by
      have y := once_le (ks.take i)
      rw [List.length_take] at y
      omega
    refine add_k (knd := knd) (s := { s' with toks := s'.toks + 1 }) hkey sc hS1 small fun h' sb hS2 => ?_
    have hS3 : SetK knd h' S (fun y => decide (y ∈ once (ks.take (i + 1)))) (once (ks.take (i + 1))).length := by
      have e : ks.take (i + 1) = ks.take i ++ [x] := by rw [List.take_add_one, hx]; rfl
      refine hS2.as (fun y => ?_) ?_
      · rw [e, once_snoc]
        by_cases m : x ∈ once (ks.take i)
        · rw [if_pos m]
          by_cases z : y = x
          · rw [z, decide_eq_true m]
            rfl
          · rw [decide_eq_false z, Bool.or_false]
        · rw [if_neg m]
          by_cases z : y = x
          · rw [z]
            simp
          · simp [z]
      · rw [e, once_snoc]
        by_cases m : x ∈ once (ks.take i)
        · rw [if_pos m, if_pos (decide_eq_true m)]
        · rw [if_neg m, if_neg (by rw [decide_eq_false m]; exact Bool.false_ne_true)]
          simp
    refine wpAny_pure ⟨plainId_quiet PyProof.Rows.F.plain_set_update_loop _, ih (i + 1) _ (by omega) lt (W.frame _ s' _ _ st' (Nat.le_succ _) fun b hb o e => ?_) hS3 fun s'' mv2 hS4 => ?_⟩
    · rw [sb.2 b (fun z : b = S => out (by rw [← z]; exact hb))]
      exact e
    · refine hR s'' (Moved.trans W.gtrans ((mv.mono wider).then_heap (Nat.le_succ _) fun b o hb e => ?_) mv2) hS4
      rw [sb.2 b (fun z : b = S => hb (by rw [z]; exact List.mem_cons_self))]
      exact e
end
section
variable {prog : Program} {w : World} {A : Around} {E : Value → Shared → Prop} {s : Shared}
abbrev setNewK (w : World) : Obj := { cls := .type "set", dict := none, data := .set #[] 0 (.fresh 0 0 (!w.params.followText "set-order")) }
theorem set_list_k {κ : Type} [DecidableEq κ] (knd : KeyKind prog w κ) {l : Addr} {items : Array Value} {ks : List κ} {Q : Value → Shared → Prop} (hh : A.handled = none) (seq : s.heap.IsList l items) (len : ks.length = items.size) (few : items.size + 1 < scanBound)
    (is : ∀ (i : Nat) (v : Value), items[i]? = some v → ∃ k, ks[i]? = some k ∧ knd.is k v = true ∧ v.scannable = true)
    (q : ∀ (h' : Heap) (tk : Nat), SetK knd h' s.heap.objs.size (fun y => decide (y ∈ once ks)) (once ks).length → (∀ b o, b < s.heap.objs.size → s.heap.get? b = some o → h'.get? b = some o) → Q (.ref s.heap.objs.size) { s with heap := h', toks := tk }) :
    wpAny (model prog w) A (call (.type "set") [.ref l]) Q E s := by
  obtain ⟨c0, t0, y_mro⟩ := PySem.F.called_set.mro
  have y_made := PySem.F.called_set.made
  have y_sub := PySem.F.called_set.sub
  refine wpAny_call (codeAny_of_tree ?_)
  show wpAny _ _ (callAny (.type "set") _) _ _ _
  refine wpAny_pure ⟨Code.quiet_builtin _ (by decide +kernel), codeAny_builtin PySem.F.entry_type_call ?_⟩
  rw [Around.under_plain (weight_type_call_type "set" [.ref l] []) rfl]
  have y_not := PySem.F.called_set.notType
  have y_can := PySem.F.called_set.canCreate
  have y_chk := PySem.F.typeCall_set_1 (.ref l)
  repeat (any_goals (first | assumption | wp_step))
  refine codeAny_mono (code_set_led1 (.ref l) (E := E) (Q₁ := fun y s1 => y = .ref s.heap.objs.size ∧ s1 = { s with heap := s.heap.push (setNewK w) }) ⟨rfl, rfl⟩) fun r s1 hr => ?_
  match r, hr with
  | .error e, hr => exact hr
  | .ok .next, hr => exact hr.elim
  | .ok .brk, hr => exact hr.elim
  | .ok .cont, hr => exact hr.elim
  | .ok (.ret y), hr =>
    obtain ⟨rfl, rfl⟩ := hr
    have hS : (s.heap.push (setNewK w)).get? s.heap.objs.size = some (setNewK w) := Heap.get?_push_size _ rfl
    have hT : Shared.TypeIs { s with heap := s.heap.push (setNewK w) } (.ref s.heap.objs.size) "set" := ⟨_, hS, rfl⟩
    have y_look := PySem.F.called_set.init.lookup
    have y_bind := PySem.F.called_set.init.bind (.ref s.heap.objs.size)
    repeat (any_goals (first | assumption | wp_step))
    refine codeAny_mono (codeAny_call_builtin (R := wants (fun r s2 => r = .none ∧ ∃ h' tk, s2 = { s with heap := h', toks := tk } ∧ SetK knd h' s.heap.objs.size (fun y => decide (y ∈ once ks)) (once ks).length ∧
        (∀ b o, b < s.heap.objs.size → s.heap.get? b = some o → h'.get? b = some o)) E) PySem.F.called_set.init.plain PySem.F.entry_set_init (check_set_init_1 hT ?_)) fun r2 s2 hr2 => ?_
    · obtain ⟨ol, hol, oc, nl, od⟩ := seq
      obtain ⟨o1, o2, o3, o4⟩ := ol
      dsimp only at oc od
      subst oc od
      have there : (s.heap.push (setNewK w)).get? l = some { cls := .type "list", dict := o2, data := .seq items nl, slots := o4 } := Heap.get?_push_of_some _ hol
      have y_s1 := PySem.F.sub_list_set
      have y_s2 := PySem.F.sub_list_frozenset
      have y_ne : (Value.type "list" == Value.type "dict") = false := by decide
      have seq1 : (s.heap.push (setNewK w)).IsList l items := ⟨_, there, rfl, nl, rfl⟩
      unfold Builtin.«set.__init__» noKeywords Builtin.Frozenset.updateFrom
      generalize y_it : pyIter = PI
      wp_walk
      subst y_it
      refine wpAny_pyIter_list seq1 (wpAny_bind (wpAny_runValue ?_))
      have low : l < s.heap.objs.size := Heap.lt_size hol
      have hh3 : A.in1.in1.in1.handled = none := by simp [hh]
      have apart : l ≠ (s.heap.push (setNewK w)).objs.size := by
        rw [Heap.size_push]
        exact Nat.ne_of_lt (Nat.lt_succ_of_lt low)
      have out : s.heap.objs.size ∉ [(s.heap.push (setNewK w)).objs.size, l] := by
        intro z
        rw [Heap.size_push] at z
        rcases List.mem_cons.mp z with z | z
        · exact absurd z (Nat.ne_of_lt (Nat.lt_succ_self _))
        · exact absurd (List.mem_singleton.mp z).symm (Nat.ne_of_lt low)
      refine fill_k (knd := knd) ((Walks.list hh3 _ l apart items).toS) s.heap.objs.size out ks len few (fun i v hv => is i v hv) (items.size - 0) 0 _ (by omega) (Nat.zero_le _) ⟨⟨_, Heap.get?_push_size _ rfl, rfl, rfl⟩, (seq1.push _)⟩ ?_ ?_
      · have got : ((s.heap.push (setNewK w)).push { cls := .type "list_iterator", data := .fields #[.ref l, .int 0 0] }).get? s.heap.objs.size = some (setNewK w) := Heap.get?_push_of_some _ hS
        exact (new_k got).as (fun _ => rfl) rfl
      · rintro ⟨h', g', d', tk', os'⟩ mv hS2
        obtain rfl : g' = s.gens := mv.gens
        obtain rfl : d' = s.drawn := mv.drawn
        obtain rfl : os' = s.os := mv.os
        show wpAny _ _ _ _ _ _
        refine wpAny_pure ?_
        show wpAny _ _ (ret Value.none) _ _ _
        refine wpAny_pure ⟨rfl, h', tk', rfl, hS2, fun b o hb e => mv.heap b o (fun z => ?_) (Heap.get?_push_of_some _ (Heap.get?_push_of_some _ e))⟩
        simp only [List.mem_cons, List.not_mem_nil, or_false, Heap.size_push] at z
        rcases z with z | z
        · exact absurd z (Nat.ne_of_lt hb)
        · exact absurd z (Nat.ne_of_lt (Nat.lt_succ_of_lt hb))
    · match r2, hr2 with
      | .error e, hr2 => exact hr2
      | .ok .next, hr2 => exact hr2.elim
      | .ok .brk, hr2 => exact hr2.elim
      | .ok .cont, hr2 => exact hr2.elim
      | .ok (.ret r), hr2 =>
        obtain ⟨rfl, h', tk, rfl, hS2, kp⟩ := hr2
        repeat (any_goals (first | assumption | wp_step))
        exact q _ _ hS2 kp
end
end KX
end
section
set_option autoImplicit false
set_option maxRecDepth 100000
set_option maxHeartbeats 4000000
/-! sorted(set(list of texts)) -/
namespace KX
open PySem PySem.Spec PyProof.Rows L2
theorem str_key {prog : Program} {w : World} {k : Str} {v : Value} (h : (PySem.strKind prog w).is k v = true) : ∃ t, v = .str k t := by
  cases v with
  | str z t =>
    have h : Value.isStrOf k (.str z t) = true := h
    refine ⟨t, ?_⟩
    simp [Value.isStrOf] at h
    rw [h]
  | _ => simp [PySem.strKind, Value.isStrOf] at h
theorem nodup_count : ∀ {m l : List Str}, m.Nodup → (∀ x ∈ m, x ∈ l) → l.length = m.length → l.Perm m
  | [], l, _, _, e => by rw [List.length_eq_zero_iff.mp e]
  | x :: m, l, hm, h, e => by
    have hx := h x List.mem_cons_self
    obtain ⟨h1, h2⟩ := List.nodup_cons.mp hm
    have p := List.perm_cons_erase hx
    refine p.trans (List.Perm.cons x (nodup_count h2 (fun y hy => ?_) ?_))
    · exact (List.mem_erase_of_ne (fun z : y = x => h1 (by rw [← z]; exact hy))).mpr (h y (List.mem_cons_of_mem _ hy))
    · have := p.length_eq
      rw [List.length_cons] at this e
      omega
theorem once_nodup' (ks : List Str) : (once ks).Nodup := by
  have go : ∀ (ks acc : List Str), acc.Nodup → (ks.foldl (fun acc k => if k ∈ acc then acc else acc ++ [k]) acc).Nodup := fun ks => by
    induction ks with
    | nil => exact fun acc h => h
    | cons y ys ih =>
      intro acc h
      rw [List.foldl_cons]
      refine ih _ ?_
      by_cases m : y ∈ acc
      · rw [if_pos m]; exact h
      · rw [if_neg m]
        refine List.nodup_append.mpr ⟨h, List.pairwise_singleton _ _, fun x hx z hz => ?_⟩
        rw [List.mem_singleton] at hz
        subst hz
        exact fun e => m (e ▸ hx)
  exact go ks [] List.nodup_nil
section
variable {prog : Program} {w : World} {A : Around} {E : Value → Shared → Prop} {s : Shared} {a : Addr}
theorem sorted_k {ks : List Str} {Q : Value → Shared → Prop} (y : SetK (PySem.strKind prog w) s.heap a (fun z => decide (z ∈ once ks)) (once ks).length) (hh : A.handled = none) (few : (once ks).length < 64)
    (q : ∀ s' p (out : Array Value) (c : Nat) (zs : List Str), (∀ b o, s.heap.get? b = some o → s'.heap.get? b = some o) → s'.gens = s.gens → s'.os = s.os → s.heap.objs.size ≤ p →
      s'.heap.get? p = some (seqObj "list" out c) → StrsAre out.toList zs → zs.Perm (once ks) → sortedS zs = true → Q (.ref p) s') :
    wpAny (model prog w) A (call (.builtin "sorted") [.ref a]) Q E s := by
  obtain ⟨ob, els, ep, tab, ho, ex, hd, el, mem, small, fit, size, ris, led⟩ := y
  refine Calls.call_function_entry kind_sorted plain_sorted entry_sorted (args_sorted1 _) ?_
  unfold Builtin.«sorted»
  refine wpAny_bind (m := checkCount "sorted" 1 1 _) (wpAny_pure ?_)
  refine wpAny_bind (collect_set (A := A.in1) hh ⟨ob, ho, ex.1, hd⟩ fit small ris led fun s1 vs kp hz g1 o1 pm => ?_)
  have ln : vs.length = (once ks).length := by rw [pm.length_eq, List.length_map, Array.length_toList]; exact size
  have all : ∀ v ∈ vs, ∃ x t, v = .str x t := fun v hv => by
    obtain ⟨e, he, rfl⟩ := List.mem_map.mp (pm.mem_iff.mp hv)
    obtain ⟨⟨k, h1, _⟩, _⟩ := el e he
    obtain ⟨t, h⟩ := str_key h1
    exact ⟨k, t, h⟩
  have hS := strsAre_map vs all
  have perm : (vs.map strOf).Perm (once ks) := by
    refine nodup_count (once_nodup' ks) (fun z hz => ?_) (by rw [List.length_map, ln])
    obtain ⟨e, he, h⟩ := (mem z).1 (decide_eq_true hz)
    obtain ⟨t, h⟩ := str_key h
    refine List.mem_map.mpr ⟨e.2, pm.mem_iff.mpr (List.mem_map.mpr ⟨e, he, rfl⟩), ?_⟩
    rw [h]
    rfl
  refine wpAny_bind (wpAny_newList ?_ (by rw [ln, sizeLine_eq]; omega))
  have hoL : (s1.heap.push (seqObj "list" vs.toArray 0)).get? s1.heap.objs.size = some (seqObj "list" vs.toArray 0) := Heap.get?_push_size _ rfl
  refine wpAny_bind (wpAny_holding (wpAny_call_entry slot_list_sort ⟨_, hoL, rfl⟩ entry_list_sort (list_sort_treeK strKind_oneLt hoL hS.keysOf (fun v1 v2 rest e => keyKind_strs (by rw [← e]; exact hS)) (by rw [ln]; exact few) fun st' a1 a2 => ⟨_, rfl, ?_⟩) (args_list_sort _)))
  obtain ⟨zs, h1, h2, h3⟩ := sorted_out_str hS a1 a2
  obtain ⟨c, hc⟩ := sortedHeap_at (vs := vs) (out := (arrOf st').map (·.2)) hoL
  refine wpAny_pure ⟨_, rfl, q _ s1.heap.objs.size _ c zs (fun b u e => ?_) g1 o1 hz hc h1 (h2.trans perm) h3⟩
  have old := kp b u e
  have lt := Heap.lt_size old
  show (sortedHeap (s1.heap.push (seqObj "list" vs.toArray 0)) s1.heap.objs.size vs _).get? b = some u
  rw [sortedHeap_old (Nat.ne_of_lt lt) (by rw [size_push']; exact Nat.lt_succ_of_lt lt)]
  exact Heap.get?_push_of_some _ old
end
end KX
end
section
set_option autoImplicit false
set_option maxRecDepth 100000
set_option maxHeartbeats 4000000
/-! sorted(set(e)) as a term of rules -/
namespace KX
open PySem PySem.Spec PyProof.Rows L2
def tSortSet (K : PySem.W.Frag) (ta : TE) : TE := fun σ H Q => ta σ H fun x H1 => ∃ (l : Addr) (zs : List Str), x = .ref l ∧ SqL K H1 l (zs.map V.str) ∧ zs.length ≤ 1000 ∧ (once zs).length < 64 ∧
  ∀ (ys : List Str) (p : Addr), ys.Perm (once zs) → sortedS ys = true → H1 p = none → Q (.ref p) (upd H1 p (.lst (ys.map V.str)))
theorem boot_sorted : bootBuiltins "sorted" = some (.builtin "sorted") := by decide +kernel
theorem pe_sortSet {X : Cx} {a : Expr} {ta : TE} {p p2 q pos : Pos} (hg : Gl X "sorted") (hm : X.mg "sorted" = none) (hg2 : Gl X "set") (hm2 : X.mg "set" = none) (ha : PE X a ta) (hc : X.calm = true := by rfl)
    (na : starEach [a] X.env = (false, eval a X.env) :: starEach [] X.env := by rfl) : PE X (.Call (.Name "sorted" p) [.Call (.Name "set" p2) [a] [] q] [] pos) (tSortSet X.K ta) := by
  refine ⟨fun pins s σ H Q I h => ?_⟩
  refine Call_ (ld_blt I hg hm boot_sorted (PyProof.Rows.callWith_builtin1 (PyProof.Rows.args_cons ?_ rfl) rfl rfl))
  refine Call_ (ld_blt I hg2 hm2 boot_set ?_)
  refine PyProof.Rows.callWith_type1 (PyProof.Rows.args_cons (thn (ha.run pins s σ H _ I h) fun v s1 ⟨x, H1, I1, r1, q1⟩ => PyProof.Rows.args_nil ?_) na) na rfl
  obtain ⟨l, zs, rfl, hq, few, f64, q1⟩ := q1
  obtain rfl : v = Value.ref l := r1
  obtain ⟨its, r, pl, hz⟩ := I1.list hq
  have ln : zs.length = its.length := by have := Paired.length r; rw [List.length_map] at this; exact this
  refine set_list_k (PySem.strKind X.prog X.w) (ks := zs) (I1.ok.hd hc) pl.isList (by rw [List.size_toArray]; exact ln) (by rw [List.size_toArray]; unfold scanBound; omega) (fun i u hu => ?_) fun h' tk y kp => ?_
  · obtain ⟨z, t, e1, rfl⟩ := strs_vals r i u (by rw [← List.getElem?_toArray]; exact hu)
    exact ⟨z, e1, strKind_is _ _ _ _, rfl⟩
  · refine PyProof.Rows.args_nil ?_
    have I2 : Inv X pins σ H1 { s1 with heap := h', toks := tk } := I1.kept fun b o e => kp b o (Heap.lt_size e) e
    refine sorted_k (s := { s1 with heap := h', toks := tk }) y (I1.ok.hd hc) f64 fun s' p out c ys k g o hp hg3 h1 h2 h3 => ?_
    have lny : (ys.map V.str).length ≤ sizeLine := by rw [List.length_map, h2.length_eq, sizeLine_eq]; omega
    have hn : H1 p = none := I2.hok.fresh hp
    have J : Inv X pins σ (upd H1 p (.lst (ys.map V.str))) { ({ s1 with heap := h', toks := tk } : Shared) with heap := s'.heap, gens := s'.gens, drawn := s'.drawn, toks := s'.toks } :=
      I2.call (ch := []) (Un.laid k hp hn) (I2.hok.laid k hp ⟨lny, out.toList, c, vals_of_strs h1, hg3⟩) (by rw [g]; exact I2.bare) (fun _ z => nomatch z)
    have e : s' = { s1 with heap := s'.heap, gens := s'.gens, drawn := s'.drawn, toks := s'.toks } := by
      cases s'
      cases s1
      cases o
      rfl
    rw [e]
    exact ⟨.ref p, _, J, rfl, q1 ys p h2 h3 hn⟩
/-- two sorted lists of the same texts are one -/
theorem sortedS_pair : ∀ {l : List Str}, sortedS l = true → l.Pairwise fun a b => ¬ b.cps.toList < a.cps.toList
  | [], _ => .nil
  | x :: l, h => by
    have go : ∀ (l : List Str) (x : Str), risingS x l = true → (∀ y ∈ l, ¬ y.cps.toList < x.cps.toList) ∧ l.Pairwise fun a b => ¬ b.cps.toList < a.cps.toList := fun l => by
      induction l with
      | nil => exact fun x _ => ⟨fun y hy => (by cases hy), .nil⟩
      | cons z l ih =>
        intro x h
        have h : (!ltCps z.cps.toList x.cps.toList && risingS z l) = true := h
        rw [Bool.and_eq_true, PyProof.Rows.ltCps_eq] at h
        obtain ⟨i1, i2⟩ := ih z h.2
        have h1 : ¬ z.cps.toList < x.cps.toList := by simpa using h.1
        refine ⟨fun y hy => ?_, List.pairwise_cons.mpr ⟨i1, i2⟩⟩
        rcases List.mem_cons.mp hy with rfl | hy
        · exact h1
        · exact fun k => by
            have a : x.cps.toList ≤ z.cps.toList := List.not_lt.mp h1
            have b : z.cps.toList ≤ y.cps.toList := List.not_lt.mp (i1 y hy)
            exact List.not_lt.mpr (List.le_trans a b) k
    obtain ⟨a, b⟩ := go l x h
    exact List.pairwise_cons.mpr ⟨a, b⟩
theorem sortedS_one : ∀ {l m : List Str}, l.Perm m → (l.Pairwise fun a b => ¬ b.cps.toList < a.cps.toList) → (m.Pairwise fun a b => ¬ b.cps.toList < a.cps.toList) → l = m
  | [], m, p, _, _ => (List.nil_perm.mp p).symm
  | x :: l, [], p, _, _ => nomatch List.nil_perm.mp p.symm
  | x :: l, y :: m, p, h1, h2 => by
    obtain ⟨a1, a2⟩ := List.pairwise_cons.mp h1
    obtain ⟨b1, b2⟩ := List.pairwise_cons.mp h2
    have e : x = y := by
      by_cases e : x = y
      · exact e
      · have hx : x ∈ m := by
          rcases List.mem_cons.mp (p.mem_iff.mp List.mem_cons_self) with h | h
          · exact absurd h e
          · exact h
        have hy : y ∈ l := by
          rcases List.mem_cons.mp (p.mem_iff.mpr List.mem_cons_self) with h | h
          · exact absurd h.symm e
          · exact h
        have c1 : x.cps.toList ≤ y.cps.toList := List.not_lt.mp (a1 y hy)
        have c2 : y.cps.toList ≤ x.cps.toList := List.not_lt.mp (b1 x hx)
        have c3 := List.le_antisymm c1 c2
        cases x
        cases y
        simp only at c3
        congr
        exact Array.toList_inj.mp c3
    subst e
    rw [sortedS_one (List.Perm.cons_inv p) a2 b2]
end KX
end
section
set_option autoImplicit false
set_option maxRecDepth 100000
set_option maxHeartbeats 4000000
/-! sorted texts: the one list -/
namespace KX
open PySem PySem.Spec PyProof.Rows L2
/-- the texts, ascending -/
def srt (zs : List Str) : List Str := zs.mergeSort fun a b => decide (¬ b.cps.toList < a.cps.toList)
theorem srt_perm (zs : List Str) : (srt zs).Perm zs := List.mergeSort_perm _ _
theorem srt_pair (zs : List Str) : (srt zs).Pairwise fun a b => ¬ b.cps.toList < a.cps.toList := by
  have h := List.pairwise_mergeSort (le := fun a b : Str => decide (¬ b.cps.toList < a.cps.toList)) (fun a b c h1 h2 => by
    have h1 := of_decide_eq_true h1
    have h2 := of_decide_eq_true h2
    exact decide_eq_true (List.not_lt.mpr (List.le_trans (List.not_lt.mp h1) (List.not_lt.mp h2)))) (fun a b => by
    rw [Bool.or_eq_true]
    rcases List.le_total a.cps.toList b.cps.toList with h | h
    · exact .inl (decide_eq_true (List.not_lt.mpr h))
    · exact .inr (decide_eq_true (List.not_lt.mpr h))) zs
  exact h.imp fun h => of_decide_eq_true h
theorem srt_of {ys zs : List Str} (pm : ys.Perm zs) (so : sortedS ys = true) : ys = srt zs := sortedS_one (pm.trans (srt_perm zs).symm) (sortedS_pair so) (srt_pair zs)
theorem mem_srt {zs : List Str} {z : Str} : z ∈ srt zs ↔ z ∈ zs := (srt_perm zs).mem_iff
theorem srt_nd {zs : List Str} (h : zs.Nodup) : (srt zs).Nodup := (srt_perm zs).nodup_iff.mpr h
theorem srt_len (zs : List Str) : (srt zs).length = zs.length := (srt_perm zs).length_eq
end KX
end
section
set_option autoImplicit false
set_option maxRecDepth 100000
set_option maxHeartbeats 4000000
/-! points and differences -/
namespace KX
open PySem PySem.Spec PyProof.Rows L2
section
variable {H H' : Hp} {v : V} {a : Addr} {vs : List V} {ks : List NestedKey}
theorem MKeysAt.len : ∀ {ks : List NestedKey} {vs : List V}, MKeysAt H ks vs → vs.length = ks.length
  | _, _, .nil => rfl
  | _, _, .cons _ r => by rw [List.length_cons, List.length_cons, MKeysAt.len r]
theorem MKeysAt.at_ : ∀ {ks : List NestedKey} {vs : List V} {i : Nat} {k : NestedKey}, MKeysAt H ks vs → ks[i]? = some k → ∃ v, vs[i]? = some v ∧ MKeyAt H k v
  | _, _, 0, _, .cons r _, e => by cases e; exact ⟨_, rfl, r⟩
  | _, _, i + 1, _, .cons _ t, e => MKeysAt.at_ (i := i) t e
theorem MKeysAt.to : ∀ {ks : List NestedKey} {vs : List V} {i : Nat} {v : V}, MKeysAt H ks vs → vs[i]? = some v → ∃ k, ks[i]? = some k ∧ MKeyAt H k v
  | _, _, 0, _, .cons r _, e => by cases e; exact ⟨_, rfl, r⟩
  | _, _, i + 1, _, .cons _ t, e => MKeysAt.to (i := i) t e
theorem MKeysAt.app : ∀ {ks ls : List NestedKey} {vs us : List V}, MKeysAt H ks vs → MKeysAt H ls us → MKeysAt H (ks ++ ls) (vs ++ us)
  | _, _, _, _, .nil, h => h
  | _, _, _, _, .cons r t, h => .cons r (MKeysAt.app t h)
theorem MKeysAt.snoc {k : NestedKey} (h : MKeysAt H ks vs) (g : MKeyAt H k v) : MKeysAt H (ks ++ [k]) (vs ++ [v]) := h.app (.cons g .nil)
theorem MKeysAt.take : ∀ {ks : List NestedKey} {vs : List V} (n : Nat), MKeysAt H ks vs → MKeysAt H (ks.take n) (vs.take n)
  | _, _, 0, _ => .nil
  | _, _, _ + 1, .nil => .nil
  | _, _, n + 1, .cons r t => .cons r (MKeysAt.take n t)
theorem MKeysAt.drop : ∀ {ks : List NestedKey} {vs : List V} (n : Nat), MKeysAt H ks vs → MKeysAt H (ks.drop n) (vs.drop n)
  | _, _, 0, h => h
  | _, _, _ + 1, .nil => .nil
  | _, _, n + 1, .cons _ t => MKeysAt.drop n t
end
end KX
namespace K11
open PySem PySem.Spec PyProof.Rows L2 KX
def cA : NestedKey := .tup [.text "a", .text "", .num 0]
def cB : NestedKey := .tup [.text "a", .text "i", .num 1]
/-- the points that the law draws -/
def PTS : List NestedKey := [.text "", .text "i", .text "j", .text "n", .text "*1", .text "*2", cB, cA, .text "far"]
abbrev Dif := Df NestedKey
def dfK (d : Dif) : NestedKey := .tup [d.1, d.2.1, .num d.2.2]
def Ds (H : Hp) (v : V) (ds : List Dif) : Prop := MKeyAt H (.tup (ds.map dfK)) v
structure OkDs (ds : List Dif) : Prop where
  few : ds.length ≤ 9
  pt : ∀ d ∈ ds, d.1 ∈ PTS ∧ d.2.1 ∈ PTS
  sm : ∀ d ∈ ds, -lim < d.2.2 ∧ d.2.2 < lim
theorem pt_ok {p : NestedKey} (h : p ∈ PTS) : okK p = true := by
  have : PTS.all okK = true := by decide +kernel
  exact List.all_eq_true.mp this p h
theorem pt_dep {p : NestedKey} (h : p ∈ PTS) : p.depth ≤ 8 := okK_dep (pt_ok h)
theorem pts_all {ks : List NestedKey} (h : ∀ p ∈ ks, p ∈ PTS) : ks.all okK = true := List.all_eq_true.mpr fun p hp => pt_ok (h p hp)
theorem pts_dep {ks : List NestedKey} (h : ∀ p ∈ ks, p ∈ PTS) : NestedKey.depthAll ks ≤ 8 := all_dep (pts_all h)
section
variable {H H' : Hp} {v : V} {ds : List Dif} {a : Addr} {vs : List V} {ks : List NestedKey}
theorem mtup (h : MKeyAt H (.tup ks) v) : ∃ a vs, v = .ref a ∧ H a = some (.tup vs) ∧ MKeysAt H ks vs := by
  cases h with
  | tup e r => exact ⟨_, _, rfl, e, r⟩
theorem mtext {z : Str} (h : MKeyAt H (.text z) v) : v = .str z := by cases h; rfl
theorem mnum {i : Int} (h : MKeyAt H (.num i) v) : v = .int i := by cases h; rfl
/-- the rows of a tuple of differences -/
theorem Ds.row (h : Ds H v ds) : ∃ a vs, v = .ref a ∧ H a = some (.tup vs) ∧ vs.length = ds.length ∧ ∀ (i : Nat) (x : V), vs[i]? = some x →
    ∃ d t p q, ds[i]? = some d ∧ x = .ref t ∧ H t = some (.tup [p, q, .int d.2.2]) ∧ MKeyAt H d.1 p ∧ MKeyAt H d.2.1 q := by
  obtain ⟨a, vs, rfl, e, r⟩ := mtup h
  refine ⟨a, vs, rfl, e, by rw [r.len, List.length_map], fun i x hx => ?_⟩
  obtain ⟨k, hk, m⟩ := r.to hx
  rw [List.getElem?_map] at hk
  obtain ⟨d, hd, rfl⟩ := Option.map_eq_some_iff.mp hk
  obtain ⟨t, us, rfl, e2, r2⟩ := mtup m
  cases r2 with
  | cons r1 r2 => cases r2 with
    | cons r3 r4 => cases r4 with
      | cons r5 r6 =>
        cases r6
        cases mnum r5
        exact ⟨d, t, _, _, hd, rfl, e2, r1, r3⟩
theorem Ds.same (s : Same H H') (h : Ds H v ds) : Ds H' v ds := MKeyAt.same s h
theorem Ds.tup (t : Tup H H') (h : Ds H v ds) : Ds H' v ds := MKeyAt.tupd t h
end
/-- all points of differences, one behind the other -/
def flat (ds : List Dif) : List NestedKey := ds.flatMap fun d => [d.1, d.2.1]
def txt : NestedKey → List Str
  | .text z => [z]
  | _ => []
def wordsF (ks : List NestedKey) : List Str := ks.flatMap txt
/-- the points that the program tells, in its order -/
def pointsOf (ds : List Dif) : List NestedKey := (srt (once (wordsF (flat ds) ++ [("" : Str)]))).map NestedKey.text ++ [cA, cB].filter fun c => decide (c ∈ flat ds)
theorem mem_once' {κ : Type} [DecidableEq κ] {ks : List κ} {k : κ} : k ∈ once ks ↔ k ∈ ks := by
  have : ∀ n, ∀ ks : List κ, ks.length = n → (k ∈ once ks ↔ k ∈ ks) := fun n => by
    induction n with
    | zero => intro ks h; rw [List.length_eq_zero_iff.mp h]; exact Iff.rfl
    | succ n ih =>
      intro ks h
      obtain ⟨l, x, rfl⟩ : ∃ l x, ks = l ++ [x] := by
        rcases List.eq_nil_or_concat ks with e | ⟨l, x, e⟩
        · rw [e] at h; cases h
        · exact ⟨l, x, by rw [e, List.concat_eq_append]⟩
      have ih := ih l (by simpa using h)
      rw [once_snoc]
      by_cases m : x ∈ once l
      · rw [if_pos m, ih, List.mem_append]
        refine ⟨.inl, fun z => z.elim id fun z => ?_⟩
        rw [List.mem_singleton.mp z]
        rw [List.mem_singleton.mp z] at ih
        exact ih.mp m
      · rw [if_neg m, List.mem_append, List.mem_append, ih]
  exact this _ ks rfl
theorem nd_once' {κ : Type} [DecidableEq κ] (ks : List κ) : (once ks).Nodup := by
  have : ∀ n, ∀ ks : List κ, ks.length = n → (once ks).Nodup := fun n => by
    induction n with
    | zero => intro ks h; rw [List.length_eq_zero_iff.mp h]; exact List.nodup_nil
    | succ n ih =>
      intro ks h
      obtain ⟨l, x, rfl⟩ : ∃ l x, ks = l ++ [x] := by
        rcases List.eq_nil_or_concat ks with e | ⟨l, x, e⟩
        · rw [e] at h; cases h
        · exact ⟨l, x, by rw [e, List.concat_eq_append]⟩
      have ih := ih l (by simpa using h)
      rw [once_snoc]
      by_cases m : x ∈ once l
      · rw [if_pos m]; exact ih
      · rw [if_neg m]
        refine List.nodup_append.mpr ⟨ih, by simp, fun a ha b hb => ?_⟩
        rw [List.mem_singleton.mp hb]
        exact fun e => m (e ▸ ha)
  exact this _ ks rfl
theorem mem_words {ks : List NestedKey} {z : Str} : z ∈ wordsF ks ↔ .text z ∈ ks := by
  unfold wordsF
  rw [List.mem_flatMap]
  constructor
  · rintro ⟨k, hk, hz⟩
    cases k with
    | text y =>
      have : z = y := by simpa [txt] using hz
      rw [this]; exact hk
    | _ => simp [txt] at hz
  · exact fun h => ⟨_, h, by simp [txt]⟩
theorem flat_mem {ds : List Dif} {p : NestedKey} : p ∈ flat ds ↔ ∃ d ∈ ds, p = d.1 ∨ p = d.2.1 := by
  unfold flat
  rw [List.mem_flatMap]
  constructor
  · rintro ⟨d, hd, h⟩
    exact ⟨d, hd, by simpa using h⟩
  · rintro ⟨d, hd, h⟩
    exact ⟨d, hd, by simpa using h⟩
theorem pt_shape {p : NestedKey} (h : p ∈ PTS) : (∃ z, p = .text z) ∨ p = cA ∨ p = cB := by
  unfold PTS at h
  simp only [List.mem_cons, List.not_mem_nil, or_false] at h
  rcases h with h | h | h | h | h | h | h | h | h
  all_goals first | exact .inl ⟨_, h⟩ | exact .inr (.inl h) | exact .inr (.inr h)
theorem flat_pt {ds : List Dif} (o : OkDs ds) {p : NestedKey} (h : p ∈ flat ds) : p ∈ PTS := by
  obtain ⟨d, hd, e | e⟩ := flat_mem.mp h
  · rw [e]; exact (o.pt d hd).1
  · rw [e]; exact (o.pt d hd).2
theorem pts_mem {ds : List Dif} (o : OkDs ds) {p : NestedKey} : p ∈ pointsOf ds ↔ p = .text "" ∨ p ∈ flat ds := by
  unfold pointsOf
  rw [List.mem_append, List.mem_filter, List.mem_map]
  constructor
  · rintro (⟨z, hz, rfl⟩ | ⟨h1, h2⟩)
    · rw [mem_srt, mem_once', List.mem_append, mem_words] at hz
      rcases hz with hz | hz
      · exact .inr hz
      · rw [List.mem_singleton.mp hz]; exact .inl rfl
    · exact .inr (of_decide_eq_true h2)
  · rintro (rfl | h)
    · exact .inl ⟨"", by rw [mem_srt, mem_once', List.mem_append]; exact .inr (List.mem_singleton.mpr rfl), rfl⟩
    · rcases pt_shape (flat_pt o h) with ⟨z, rfl⟩ | e
      · exact .inl ⟨z, by rw [mem_srt, mem_once', List.mem_append, mem_words]; exact .inl h, rfl⟩
      · refine .inr ⟨?_, decide_eq_true h⟩
        rcases e with e | e <;> simp [e]
theorem pts_nd (ds : List Dif) : (pointsOf ds).Nodup := by
  unfold pointsOf
  refine List.nodup_append.mpr ⟨?_, List.Sublist.nodup List.filter_sublist (by decide +kernel), ?_⟩
  · exact List.Pairwise.map _ (fun a b h e => h (NestedKey.text.inj e)) (srt_nd (nd_once' _))
  · intro a ha b hb e
    obtain ⟨z, _, rfl⟩ := List.mem_map.mp ha
    have := (List.mem_filter.mp hb).1
    simp only [List.mem_cons, List.not_mem_nil, or_false] at this
    rcases this with h | h
    · rw [h] at e; unfold cA at e; cases e
    · rw [h] at e; unfold cB at e; cases e
theorem pts_pt {ds : List Dif} (o : OkDs ds) {p : NestedKey} (h : p ∈ pointsOf ds) : p ∈ PTS := by
  rcases (pts_mem o).mp h with rfl | h
  · unfold PTS; exact List.mem_cons_self
  · exact flat_pt o h
theorem pts_df {ds : List Dif} (o : OkDs ds) : ∀ d ∈ ds, d.1 ∈ pointsOf ds ∧ d.2.1 ∈ pointsOf ds := fun d hd =>
  ⟨(pts_mem o).mpr (.inr (flat_mem.mpr ⟨d, hd, .inl rfl⟩)), (pts_mem o).mpr (.inr (flat_mem.mpr ⟨d, hd, .inr rfl⟩))⟩
theorem pts_few {ds : List Dif} (o : OkDs ds) : (pointsOf ds).length ≤ 9 := short_of_subset _ PTS (pts_nd ds) fun _ h => pts_pt o h
theorem pts_zero {ds : List Dif} (o : OkDs ds) : .text "" ∈ pointsOf ds := (pts_mem o).mpr (.inl rfl)
end K11
end
section
set_option autoImplicit false
set_option maxRecDepth 100000
set_option maxHeartbeats 4000000
/-! short ways to write terms of rules -/
namespace K11
open PySem PySem.Spec PyProof.Rows L2 KX
theorem u96 {k : Nat} {A : Around} (r : Room k A) : A.units + 96 < cLine := by have := r.un; omega
end K11
end
section
set_option autoImplicit false
set_option maxRecDepth 100000
set_option maxHeartbeats 4000000
/-! what is a point, a difference, differences: right ones -/
namespace K11
open PySem PySem.Spec PyProof.Rows L2 KX
theorem scWhole : FnScope ["value"] ["value"] (defScope sWhole) := ⟨rfl, rfl, rfl, by decide +kernel, rfl, by decide +kernel, by decide +kernel⟩
theorem scIg : FnScope ["value"] ["value"] (defScope sIg) := ⟨rfl, rfl, rfl, by decide +kernel, rfl, by decide +kernel, by decide +kernel⟩
theorem scNp : FnScope ["value", "digit"] ["value"] (defScope sNp) := ⟨rfl, rfl, rfl, by decide +kernel, rfl, by decide +kernel, by decide +kernel⟩
theorem scWp : FnScope ["value"] ["value"] (defScope sWp) := ⟨rfl, rfl, rfl, by decide +kernel, rfl, by decide +kernel, by decide +kernel⟩
theorem scPt : FnScope ["value"] ["value"] (defScope sPt) := ⟨rfl, rfl, rfl, by decide +kernel, rfl, by decide +kernel, by decide +kernel⟩
theorem scDf : FnScope ["value"] ["value"] (defScope sDf) := ⟨rfl, rfl, rfl, by decide +kernel, rfl, by decide +kernel, by decide +kernel⟩
theorem scAre : FnScope ["value", "difference"] ["value"] (defScope sAre) := ⟨rfl, rfl, rfl, by decide +kernel, rfl, by decide +kernel, by decide +kernel⟩
theorem scChk : FnScope ["differences"] ["differences"] (defScope sChk) := ⟨rfl, rfl, rfl, by decide +kernel, rfl, by decide +kernel, by decide +kernel⟩
def spWhole : Sp := fun vs H Q _ => ∃ i : Int, vs = [.int i] ∧ Q (.bl true) H
def spIg : Sp := fun vs H Q _ => ∃ i : Int, vs = [.int i] ∧ (-lim < i ∧ i < lim) ∧ Q (.bl true) H
def spNp : Sp := fun vs H Q _ => ∃ z : Str, vs = [.str z] ∧ (z = "*1" ∨ z = "*2") ∧ ∀ H', Same H H' → Q (.bl true) H'
def WPT : List Str := ["", "i", "j", "n", "*1", "*2", "far"]
def spWp : Sp := fun vs H Q _ => ∃ z : Str, vs = [.str z] ∧ z ∈ WPT ∧ ∀ H', Same H H' → Q (.bl true) H'
def spPt : Sp := fun vs H Q _ => ∃ v p, vs = [v] ∧ MKeyAt H p v ∧ p ∈ PTS ∧ ∀ H', Same H H' → Q (.bl true) H'
def spDf : Sp := fun vs H Q _ => ∃ v d, vs = [v] ∧ MKeyAt H (dfK d) v ∧ (d.1 ∈ PTS ∧ d.2.1 ∈ PTS) ∧ (-lim < d.2.2 ∧ d.2.2 < lim) ∧ ∀ H', Same H H' → Q (.bl true) H'
def spAre : Sp := fun vs H Q _ => ∃ v ds, vs = [v] ∧ Ds H v ds ∧ OkDs ds ∧ ∀ H', Same H H' → Q (.bl true) H'
def spChk : Sp := fun vs H Q _ => ∃ v ds, vs = [v] ∧ Ds H v ds ∧ OkDs ds ∧ ∀ H', Same H H' → Q .non H'
section
variable {P : Program} {w : World} {K : PySem.W.Frag} {mg : Str → Option Value} {base : Heap}
theorem ok_whole {f : Addr} {fd : FuncData} (F : Fun K "is_whole" "is_whole" sWhole f fd) (B : Free mg) (bb : mg "bool" = none) : FnOk P w K mg base CX0 1 f fd ["value"] spWhole := by
  refine F.ok scWhole (fun vs H Q E h => ?_) (fun cdv A outer s H vs Q E hr h => ?_)
  · obtain ⟨i, rfl, _⟩ := h
    rfl
  · obtain ⟨i, rfl, q⟩ := h
    refine ⟨_, pss_one (ps_ret (pe_and (pe_callB call_isi (by rfl) B.isinstance (by decide +kernel) (pa_cons (pv 0) (pa_cons (pe_bltn (v := .ty "int") (by rfl) B.int (by decide +kernel) rfl) pa_nil)))
      (pe_one (pe_not (pe_callB call_isi (by rfl) B.isinstance (by decide +kernel) (pa_cons (pv 0) (pa_cons (pe_bltn (v := .ty "bool") (by rfl) bb (by decide +kernel) rfl) pa_nil))))))), ?_⟩
    exact ⟨_, rfl, _, .ty "int", _, _, true, rfl, .ty _, .base (.int i), kit_ty (by decide +kernel), true, rfl, _, rfl, _, .ty "bool", _, _, false, rfl, .ty _, .base (.int i), kit_ty (by decide +kernel), _, rfl, q⟩
theorem ok_ig {f : Addr} {fd : FuncData} {tk : Tok} (F : Fun K "is_integer" "is_integer" sIg f fd) (W : Fnc P w K mg base CX0 1 "is_whole" ["value"] spWhole) (gL : mg "LIMIT" = some (.int lim tk)) :
    FnOk P w K mg base CX0 2 f fd ["value"] spIg := by
  refine F.ok scIg (fun vs H Q E h => ?_) (fun cdv A outer s H vs Q E hr h => ?_)
  · obtain ⟨i, rfl, _⟩ := h
    rfl
  · obtain ⟨i, rfl, ⟨h1, h2⟩, q⟩ := h
    refine ⟨_, pss_one (ps_ret (pe_and (pe_fnc W hr (by omega) (by rfl) pass0 (pa_cons (pv 0) pa_nil))
      (pe_one (pe_chain op_lt op_lt (pe_un un_neg (pe_glob (v := .int lim) (by rfl) gL ⟨_, rfl⟩)) (pv 0) (pe_glob (v := .int lim) (by rfl) gL ⟨_, rfl⟩))))), ?_⟩
    refine ⟨_, rfl, i, rfl, true, rfl, lim, rfl, .int i, rfl, _, _, rfl, rfl, _, rfl, ?_⟩
    rw [decide_eq_true h1]
    refine ⟨_, _, rfl, rfl, ?_⟩
    show Q (.bl (decide (i < lim))) H
    rw [decide_eq_true h2]
    exact q
theorem ok_np {f : Addr} {fd : FuncData} {tk : Tok} (F : Fun K "is_new_position" "is_new_position" sNp f fd) (B : Free mg) (gD : mg "DIGITS" = some (.str "0123456789" tk)) : FnOk P w K mg base CX0 1 f fd ["value"] spNp := by
  refine F.ok scNp (fun vs H Q E h => ?_) (fun cdv A outer s H vs Q E hr h => ?_)
  · obtain ⟨z, rfl, _⟩ := h
    rfl
  · obtain ⟨z, rfl, hz, q⟩ := h
    refine ⟨_, pss_cons (ps_if (PW.pt (pw_or (pt_not (pt_val (pe_callB call_isi (by rfl) (Free.isinstance B) (by decide +kernel) (pa_cons (pv 0) (pa_cons (pe_bltn (v := .ty "str") (by rfl) (Free.str B) (by decide +kernel) rfl) pa_nil))))) (pw_or (pt_cmpR op_lt (pe_callB call_len_str (by rfl) B.len PySem.boot_len (pa_cons (pv 0) pa_nil)) pe_int (nomark _))
          (pw_or (pt_cmpR op_ne (pe_ix ix_str (pv 0) pe_int (fun _ _ => rfl)) pe_str (nomark _)) (pw_or1 (pt_cmpR op_eq (pe_ix ix_str (pv 0) pe_int (fun _ _ => rfl)) pe_str (nomark _)))))))
        (pss_one (ps_ret pe_bl)) pss_nil)
      (pss_one (ps_ret (pe_callB (cr_all rfl) (by rfl) B.all (by decide +kernel) (pa_cons (pe_lc (own := [("digit", 1)]) (g := gName 1) (tt := tYes) rfl scNp.nd (pi_str (pe_slice sl_str (pv 0) (po_some pe_int) po_none)) (blkOk_by (N := ["value", "digit"]) (sc := defScope sNp) (by decide +kernel))
          (fun _ _ _ _ _ => pg_name (i := 1) scNp.nd rfl (Or.inl rfl)) (fun _ _ _ _ _ => pts_nil) (fun _ _ _ _ _ => pe_cmpR op_in_sign (pv 1) (pe_glob (v := .str "0123456789") (by rfl) gD ⟨_, rfl⟩) rfl)) pa_nil)))), ?_⟩
    obtain ⟨c, hc, rfl⟩ : ∃ c : Nat, (c = 49 ∨ c = 50) ∧ z = ⟨#[42, c]⟩ := by
      rcases hz with rfl | rfl
      · exact ⟨49, .inl rfl, by decide +kernel⟩
      · exact ⟨50, .inr rfl, by decide +kernel⟩
    have star : ("*" : Str) = ⟨#[42]⟩ := by decide +kernel
    have zero : ("0" : Str) = ⟨#[48]⟩ := by decide +kernel
    refine ⟨_, rfl, .str _, .ty "str", .type "str", .type "str", true, rfl, .ty _, .base (.str _), kit_ty (by decide +kernel), true, rfl, ?_⟩
    refine ⟨_, rfl, _, rfl, le_line (by show 2 ≤ 1000; omega), 2, _, rfl, rfl, _, rfl, ?_⟩
    refine ⟨_, rfl, _, 0, 42, rfl, rfl, le_line (by show 2 ≤ 1000; omega), by rfl, rfl, _, rfl, ?_⟩
    rw [star]
    refine ⟨_, rfl, _, 1, c, rfl, rfl, le_line (by show 2 ≤ 1000; omega), by rfl, rfl, _, rfl, ?_⟩
    have n0 : decide (V.str ⟨#[c]⟩ = V.str "0") = false := by
      rw [zero]
      rcases hc with rfl | rfl <;> decide +kernel
    rw [n0]
    refine ⟨_, rfl, ?_⟩
    refine ⟨_, rfl, _, rfl, le_line (by show 2 ≤ 1000; omega), _, rfl, fun D hD => ?_⟩
    have ec : cutS ⟨#[42, c]⟩ (some 1) none = ⟨#[c]⟩ := by rcases hc with rfl | rfl <;> decide +kernel
    rw [ec]
    refine lc_str (fun i H' => H' = upd H D (.lst (([c].take i).map fun _ => V.bl true))) rfl (fun i x H' hx hP => ?_) (fun H' hP => ?_)
    · subst hP
      have e0 : i = 0 := by
        rcases i with _ | i
        · rfl
        · simp at hx
      subst e0
      have ex : x = c := by simpa using hx.symm
      subst ex
      have ed : decide (x ∈ ("0123456789" : Str).cps.toList) = true := by rcases hc with rfl | rfl <;> decide +kernel
      refine ⟨rfl, _, rfl, x, _, rfl, rfl, _, upd_same, le_line (by simp), ?_⟩
      rw [upd_upd, ed]
      rfl
    · subst hP
      exact ⟨D, [true], rfl, SqL.of upd_same, q _ (same_upd hD)⟩
theorem ok_wp {f : Addr} {fd : FuncData} (F : Fun K "is_word_point" "is_word_point" sWp f fd) (N : Fnc P w K mg base CX0 1 "is_name" ["value"] (spName K)) (Np : Fnc P w K mg base CX0 1 "is_new_position" ["value"] spNp) : FnOk P w K mg base CX0 2 f fd ["value"] spWp := by
  refine F.ok scWp (fun vs H Q E h => ?_) (fun cdv A outer s H vs Q E hr h => ?_)
  · obtain ⟨z, rfl, _⟩ := h
    rfl
  · obtain ⟨z, rfl, hz, q⟩ := h
    refine ⟨_, pss_one (ps_ret (pe_or (pe_cmpR op_eq (pv 0) pe_str (nomark _)) (pe_or (pe_fnc N hr (by omega) (by rfl) pass0 (pa_cons (pv 0) pa_nil)) (pe_one (pe_fnc Np hr (by omega) (by rfl) pass0 (pa_cons (pv 0) pa_nil)))))), ?_⟩
    refine ⟨_, rfl, rfl, _, rfl, ?_⟩
    by_cases e : z = ""
    · rw [decide_eq_true (by rw [e])]
      exact q H (Same.refl H)
    rw [decide_eq_false (fun k => e (V.str.inj k))]
    by_cases m : z = "*1" ∨ z = "*2"
    · have nn : nameS z = false := by rcases m with rfl | rfl <;> decide +kernel
      refine ⟨_, rfl, _, _, rfl, .str z ?_ ?_, fun H1 s1 => ⟨_, rfl, ?_⟩⟩
      · rcases m with rfl | rfl <;> decide +kernel
      · rcases m with rfl | rfl <;> decide +kernel
      · rw [nn]
        exact ⟨_, rfl, z, rfl, m, fun H2 s2 => q H2 (s1.trans s2)⟩
    · have hz : z = "i" ∨ z = "j" ∨ z = "n" ∨ z = "far" := by
        unfold WPT at hz
        simp only [List.mem_cons, List.not_mem_nil, or_false] at hz
        rcases hz with h | h | h | h | h | h | h
        · exact absurd h e
        · exact .inl h
        · exact .inr (.inl h)
        · exact .inr (.inr (.inl h))
        · exact absurd (.inl h) m
        · exact absurd (.inr h) m
        · exact .inr (.inr (.inr h))
      have nn : nameS z = true := by rcases hz with rfl | rfl | rfl | rfl <;> decide +kernel
      refine ⟨_, rfl, _, _, rfl, .str z ?_ ?_, fun H1 s1 => ⟨_, rfl, ?_⟩⟩
      · rcases hz with rfl | rfl | rfl | rfl <;> decide +kernel
      · rcases hz with rfl | rfl | rfl | rfl <;> decide +kernel
      · rw [nn]
        exact q H1 s1
end
end K11
end
section
set_option autoImplicit false
set_option maxRecDepth 100000
set_option maxHeartbeats 4000000
/-! comprehensions with two for, over data -/
namespace KX
open PySem PySem.Spec PyProof.Rows L2
/-- a walk that gives these values -/
def Steady (J : It) (xs : List V) (Ok : Hp → Prop) : Prop :=
  (∀ H, Ok H → J.stop xs.length H) ∧ (∀ i H, Ok H → i < xs.length → J.go i H) ∧ ∀ i H x H', Ok H → J.yld i H x H' → H' = H ∧ (i < xs.length → xs[i]? = some x)
theorem steady_l (K : PySem.W.Frag) (a : Addr) (xs : List V) : Steady (Itl K a) xs (fun H => SqL K H a xs) :=
  ⟨fun H q => ⟨xs, q, Nat.le_refl _⟩, fun i H q h => ⟨xs, xs[i], q, by simp [h]⟩, fun i H x H' q y => ⟨y.1, fun h => y.2 xs q⟩⟩
theorem steady_t (K : PySem.W.Frag) (a : Addr) (xs : List V) : Steady (Itt K a) xs (fun H => SqT K H a xs) :=
  ⟨fun H q => ⟨xs, q, Nat.le_refl _⟩, fun i H q h => ⟨xs, xs[i], q, by simp [h]⟩, fun i H x H' q y => ⟨y.1, fun h => y.2 xs q⟩⟩
theorem lc2_in {J1 : It} {ys : List V} {Ok1 : Hp → Prop} {g1 : TG} {tt1 : TT} {te : TE} {vs1 : List Nat} {σ2 : L2.St} {H4 : Hp} {D : Addr} {Nx : Hp → Prop} (S : Steady J1 ys Ok1) (Pv : Nat → Hp → Prop) (ok : ∀ j H, j ≤ ys.length → Pv j H → Ok1 H) (h0 : Pv 0 H4)
    (hs : ∀ j y H, ys[j]? = some y → Pv j H → g1 y (wipe σ2 vs1) H fun σ3 H5 => wipe σ3 vs1 = wipe σ2 vs1 ∧ tt1 σ3 H5 fun b H6 =>
      if b = true then te σ3 H6 fun z H7 => ∃ acc, H7 D = some (.lst acc) ∧ acc.length < sizeLine ∧ Pv (j + 1) (upd H7 D (.lst (acc ++ [z]))) else Pv (j + 1) H6) (hd : ∀ H, Pv ys.length H → Nx H) :
    ∃ W1 : Nat → Nat → Hp → Prop, (∃ m, W1 0 m H4) ∧ ∀ j k H, W1 j k H →
      (J1.stop j H ∧ Nx H) ∨ (J1.go j H ∧ ∃ Nx1 : Hp → Prop, (∀ H', Nx1 H' → ∃ k', k' < k ∧ W1 (j + 1) k' H') ∧ ∀ x H', J1.yld j H x H' → g1 x (wipe σ2 vs1) H' fun σ3 H5 => wipe σ3 vs1 = wipe σ2 vs1 ∧ tt1 σ3 H5 fun b H6 =>
        if b = true then te σ3 H6 fun y H7 => ∃ acc, H7 D = some (.lst acc) ∧ acc.length < sizeLine ∧ Nx1 (upd H7 D (.lst (acc ++ [y]))) else Nx1 H6) := by
  refine ⟨fun j k H => k = ys.length - j ∧ j ≤ ys.length ∧ Pv j H, ⟨ys.length, by simp, Nat.zero_le _, h0⟩, ?_⟩
  rintro j k H ⟨rfl, hj, p⟩
  have o := ok j H hj p
  by_cases lt : j < ys.length
  · refine .inr ⟨S.2.1 j H o lt, Pv (j + 1), fun H' p' => ⟨ys.length - (j + 1), by omega, rfl, lt, p'⟩, fun x H' y => ?_⟩
    obtain ⟨rfl, e⟩ := S.2.2 j H x H' o y
    exact hs j x _ (e lt) p
  · have e : j = ys.length := by omega
    subst e
    exact .inl ⟨S.1 H o, hd H p⟩
theorem lc2_out {J : It} {xs : List V} {Ok : Hp → Prop} {g : TG} {tt : TT} {wi1 : TI} {g1 : TG} {tt1 : TT} {te : TE} {vs vs1 : List Nat} {σ : L2.St} {H1 : Hp} {D : Addr} {Qd : Hp → Prop} (S : Steady J xs Ok) (Pv : Nat → Hp → Prop) (ok : ∀ j H, j ≤ xs.length → Pv j H → Ok H) (h0 : Pv 0 (upd H1 D (.lst [])))
    (hs : ∀ i x H, xs[i]? = some x → Pv i H → g x (wipe σ vs) H fun σ2 H2 => wipe σ2 vs = wipe σ vs ∧ tt σ2 H2 fun b H3 =>
      if b = true then wi1 σ2 H3 fun J1 H4 => ∃ W1 : Nat → Nat → Hp → Prop, (∃ m, W1 0 m H4) ∧ ∀ j k H, W1 j k H →
        (J1.stop j H ∧ Pv (i + 1) H) ∨ (J1.go j H ∧ ∃ Nx1 : Hp → Prop, (∀ H', Nx1 H' → ∃ k', k' < k ∧ W1 (j + 1) k' H') ∧ ∀ x H', J1.yld j H x H' → g1 x (wipe σ2 vs1) H' fun σ3 H5 => wipe σ3 vs1 = wipe σ2 vs1 ∧ tt1 σ3 H5 fun b H6 =>
          if b = true then te σ3 H6 fun y H7 => ∃ acc, H7 D = some (.lst acc) ∧ acc.length < sizeLine ∧ Nx1 (upd H7 D (.lst (acc ++ [y]))) else Nx1 H6)
      else Pv (i + 1) H3) (hd : ∀ H, Pv xs.length H → Qd H) :
    ∃ W : Nat → Nat → Hp → Prop, (∃ m, W 0 m (upd H1 D (.lst []))) ∧ ∀ i m H, W i m H →
      (J.stop i H ∧ Qd H) ∨ (J.go i H ∧ ∃ Nx : Hp → Prop, (∀ H', Nx H' → ∃ m', m' < m ∧ W (i + 1) m' H') ∧ ∀ x H', J.yld i H x H' → g x (wipe σ vs) H' fun σ2 H2 => wipe σ2 vs = wipe σ vs ∧ tt σ2 H2 fun b H3 =>
        if b = true then wi1 σ2 H3 fun J1 H4 => ∃ W1 : Nat → Nat → Hp → Prop, (∃ m, W1 0 m H4) ∧ ∀ j k H, W1 j k H →
          (J1.stop j H ∧ Nx H) ∨ (J1.go j H ∧ ∃ Nx1 : Hp → Prop, (∀ H', Nx1 H' → ∃ k', k' < k ∧ W1 (j + 1) k' H') ∧ ∀ x H', J1.yld j H x H' → g1 x (wipe σ2 vs1) H' fun σ3 H5 => wipe σ3 vs1 = wipe σ2 vs1 ∧ tt1 σ3 H5 fun b H6 =>
            if b = true then te σ3 H6 fun y H7 => ∃ acc, H7 D = some (.lst acc) ∧ acc.length < sizeLine ∧ Nx1 (upd H7 D (.lst (acc ++ [y]))) else Nx1 H6)
        else Nx H3) := by
  refine ⟨fun j k H => k = xs.length - j ∧ j ≤ xs.length ∧ Pv j H, ⟨xs.length, by simp, Nat.zero_le _, h0⟩, ?_⟩
  rintro j k H ⟨rfl, hj, p⟩
  have o := ok j H hj p
  by_cases lt : j < xs.length
  · refine .inr ⟨S.2.1 j H o lt, Pv (j + 1), fun H' p' => ⟨xs.length - (j + 1), by omega, rfl, lt, p'⟩, fun x H' y => ?_⟩
    obtain ⟨rfl, e⟩ := S.2.2 j H x H' o y
    exact hs j x _ (e lt) p
  · have e : j = xs.length := by omega
    subst e
    exact .inl ⟨S.1 H o, hd H p⟩
end KX
namespace KX
open PySem PySem.Spec PyProof.Rows L2
end KX
end
section
set_option autoImplicit false
set_option maxRecDepth 100000
set_option maxHeartbeats 4000000
/-! comprehensions over lists and tuples, each member by itself -/
namespace K11
open PySem PySem.Spec PyProof.Rows L2 KX
theorem lcF {α : Type} {J : It} {xs : List V} {Ok : Hp → Prop} {g : TG} {tt : TT} {te : TE} {vs : List Nat} {σ : L2.St} {H1 : Hp} {D : Addr} {Qd : Hp → Prop} (ls : List α) (T : α → Bool) (G : α → V) (S : Steady J xs Ok) (okS : ∀ H', Same H1 H' → Ok H') (n : H1 D = none) (len : xs.length = ls.length) (few : ls.length ≤ 100000)
    (step : ∀ (i : Nat) (x : V) (l : α) (H' : Hp) (QY : VK) (QN : Hp → Prop), xs[i]? = some x → ls[i]? = some l → Same H1 H' → (T l = true → ∀ H4, Same H' H4 → QY (G l) H4) → (T l = false → ∀ H4, Same H' H4 → QN H4) →
      g x (wipe σ vs) H' fun σ2 H2 => wipe σ2 vs = wipe σ vs ∧ tt σ2 H2 fun b H3 => if b = true then te σ2 H3 QY else QN H3)
    (fin : ∀ H', Same H1 H' → H' D = some (.lst ((ls.filter T).map G)) → Qd H') :
    ∃ W : Nat → Nat → Hp → Prop, (∃ m, W 0 m (upd H1 D (.lst []))) ∧ ∀ i m H, W i m H →
      (J.stop i H ∧ Qd H) ∨ (J.go i H ∧ ∃ Nx : Hp → Prop, (∀ H', Nx H' → ∃ m', m' < m ∧ W (i + 1) m' H') ∧ ∀ x H', J.yld i H x H' → g x (wipe σ vs) H' fun σ2 H2 => wipe σ2 vs = wipe σ vs ∧ tt σ2 H2 fun b H3 =>
        if b = true then te σ2 H3 fun y H4 => ∃ acc, H4 D = some (.lst acc) ∧ acc.length < sizeLine ∧ Nx (upd H4 D (.lst (acc ++ [y]))) else Nx H3) := by
  refine lc2_in (σ2 := σ) (vs1 := vs) S (fun i H' => Same H1 H' ∧ H' D = some (.lst (((ls.take i).filter T).map G))) (fun j H' _ p => okS H' p.1) ⟨same_upd n, by rw [List.take_zero]; exact upd_same⟩ (fun i x H' hx p => ?_) (fun H' p => ?_)
  · obtain ⟨s1, d1⟩ := p
    have hi : i < ls.length := by have := (List.getElem?_eq_some_iff.mp hx).1; omega
    have hl : ls[i]? = some ls[i] := List.getElem?_eq_getElem hi
    have nx : (ls.take (i + 1)).filter T = (ls.take i).filter T ++ (if T ls[i] = true then [ls[i]] else []) := by
      rw [List.take_add_one, hl, List.filter_append]
      congr 1
      cases h : T ls[i] <;> simp [h]
    refine step i x ls[i] H' _ _ hx hl s1 (fun ht H4 s4 => ⟨_, s4 _ _ d1, ?_, fun b o e => ?_, ?_⟩) (fun ht H4 s4 => ⟨s1.trans s4, ?_⟩)
    · have : ((ls.take i).filter T).length ≤ (ls.take i).length := List.length_filter_le _ _
      rw [List.length_take] at this
      rw [List.length_map, sizeLine_eq]
      omega
    · rw [upd_ne (ne_of_none e n)]
      exact s4 _ _ (s1 _ _ e)
    · rw [upd_same, nx, if_pos ht, List.map_append]
      rfl
    · rw [nx, if_neg (by rw [ht]; exact Bool.false_ne_true), List.append_nil]
      exact s4 _ _ d1
  · obtain ⟨s1, d1⟩ := p
    rw [len, List.take_length] at d1
    exact fin H' s1 d1
/-- the same, where every member is taken -/
theorem lcA {α : Type} {J : It} {xs : List V} {Ok : Hp → Prop} {g : TG} {te : TE} {vs : List Nat} {σ : L2.St} {H1 : Hp} {D : Addr} {Qd : Hp → Prop} (ls : List α) (G : α → V) (S : Steady J xs Ok) (okS : ∀ H', Same H1 H' → Ok H') (n : H1 D = none) (len : xs.length = ls.length) (few : ls.length ≤ 100000)
    (step : ∀ (i : Nat) (x : V) (l : α) (H' : Hp) (QY : VK), xs[i]? = some x → ls[i]? = some l → Same H1 H' → (∀ H4, Same H' H4 → QY (G l) H4) → g x (wipe σ vs) H' fun σ2 H2 => wipe σ2 vs = wipe σ vs ∧ te σ2 H2 QY)
    (fin : ∀ H', Same H1 H' → H' D = some (.lst (ls.map G)) → Qd H') :
    ∃ W : Nat → Nat → Hp → Prop, (∃ m, W 0 m (upd H1 D (.lst []))) ∧ ∀ i m H, W i m H →
      (J.stop i H ∧ Qd H) ∨ (J.go i H ∧ ∃ Nx : Hp → Prop, (∀ H', Nx H' → ∃ m', m' < m ∧ W (i + 1) m' H') ∧ ∀ x H', J.yld i H x H' → g x (wipe σ vs) H' fun σ2 H2 => wipe σ2 vs = wipe σ vs ∧ tYes σ2 H2 fun b H3 =>
        if b = true then te σ2 H3 fun y H4 => ∃ acc, H4 D = some (.lst acc) ∧ acc.length < sizeLine ∧ Nx (upd H4 D (.lst (acc ++ [y]))) else Nx H3) := by
  refine lcF (tt := tYes) ls (fun _ => true) G S okS n len few (fun i x l H' QY QN hx hl s k _ => ?_) (fun H' s h => fin H' s (by rw [h, List.filter_eq_self.mpr (fun _ _ => rfl)]))
  exact step i x l H' QY hx hl s (k rfl)
end K11
end
section
set_option autoImplicit false
set_option maxRecDepth 100000
set_option maxHeartbeats 4000000
/-! is_point, is_difference, are_differences, check_differences -/
namespace K11
open PySem PySem.Spec PyProof.Rows L2 KX
theorem kit_tt : kitB "tuple" "tuple" = some true := by decide +kernel
theorem kit_st : kitB "str" "tuple" = some false := by decide +kernel
section
variable {P : Program} {w : World} {K : PySem.W.Frag} {mg : Str → Option Value} {base : Heap}
theorem ok_pt {f : Addr} {fd : FuncData} (F : Fun K "is_point" "is_point" sPt f fd) (B : Free mg) (N : Fnc P w K mg base CX0 1 "is_name" ["value"] (spName K)) (Wp : Fnc P w K mg base CX0 2 "is_word_point" ["value"] spWp) (Ig : Fnc P w K mg base CX0 2 "is_integer" ["value"] spIg) :
    FnOk P w K mg base CX0 3 f fd ["value"] spPt := by
  refine F.ok scPt (fun vs H Q E h => ?_) (fun cdv A outer s H vs Q E hr h => ?_)
  · obtain ⟨v, p, rfl, _⟩ := h
    rfl
  · obtain ⟨v, p, rfl, hp, hm, q⟩ := h
    refine ⟨_, pss_cons (ps_if (pt_not (pt_val (pe_callB call_isi (by rfl) (Free.isinstance B) (by decide +kernel) (pa_cons (pv 0) (pa_cons (pe_bltn (v := .ty "tuple") (by rfl) (Free.tuple B) (by decide +kernel) rfl) pa_nil))))) (pss_one (ps_ret (pe_fnc Wp hr (by omega) (by rfl) pass0 (pa_cons (pv 0) pa_nil)))) pss_nil)
      (pss_one (ps_ret (pe_and (pe_cmpR op_eq (pe_callB call_len_seq (by rfl) (Free.len B) PySem.boot_len (pa_cons (pv 0) pa_nil)) pe_int (nomark _)) (pe_and (pe_fnc N hr (by omega) (by rfl) pass0 (pa_cons (pe_ix ix_tup (pv 0) pe_int (fun _ _ => rfl)) pa_nil)) (pe_and (pe_fnc Wp hr (by omega) (by rfl) pass0 (pa_cons (pe_ix ix_tup (pv 0) pe_int (fun _ _ => rfl)) pa_nil)) (pe_one (pe_fnc Ig hr (by omega) (by rfl) pass0 (pa_cons (pe_ix ix_tup (pv 0) pe_int (fun _ _ => rfl)) pa_nil)))))))), ?_⟩
    rcases pt_shape hm with ⟨z, rfl⟩ | hc
    · cases mtext hp
      refine ⟨_, rfl, _, .ty "tuple", _, _, false, rfl, .ty _, .base (.str z), kit_ty kit_st, false, rfl, ?_⟩
      refine ⟨_, rfl, z, rfl, ?_, q⟩
      unfold PTS at hm
      unfold cA cB at hm
      simp only [List.mem_cons, List.not_mem_nil, or_false, NestedKey.text.injEq, reduceCtorEq, false_or] at hm
      unfold WPT
      simp only [List.mem_cons, List.not_mem_nil, or_false]
      rcases hm with h | h | h | h | h | h | h <;> simp [h]
    · have : ∃ (y : Str) (i : Int), p = .tup [.text "a", .text y, .num i] ∧ y ∈ WPT ∧ (-lim < i ∧ i < lim) := by
        rcases hc with rfl | rfl
        · exact ⟨"", 0, rfl, by decide, by unfold lim; omega⟩
        · exact ⟨"i", 1, rfl, by decide, by unfold lim; omega⟩
      obtain ⟨y, i, rfl, hy, hi⟩ := this
      obtain ⟨a, us, rfl, e, r⟩ := mtup hp
      cases r with
      | cons r1 r2 => cases r2 with
        | cons r3 r4 => cases r4 with
          | cons r5 r6 =>
            cases r6
            cases mtext r1
            cases mtext r3
            cases mnum r5
            refine ⟨_, rfl, _, .ty "tuple", _, _, true, rfl, .ty _, .base (.tup e), kit_ty kit_tt, true, rfl, ?_⟩
            refine ⟨_, rfl, a, _, rfl, .inr (SqT.of e), rfl, _, rfl, ?_⟩
            refine ⟨_, rfl, a, _, 0, _, rfl, rfl, SqT.of e, rfl, _, _, rfl, .str "a" (by decide +kernel) (by decide +kernel), fun H1 s1 => ⟨_, rfl, ?_⟩⟩
            have nn : nameS "a" = true := by decide +kernel
            rw [nn]
            have e1 := s1 _ _ e
            refine ⟨_, rfl, a, _, 1, _, rfl, rfl, SqT.of e1, rfl, y, rfl, hy, fun H2 s2 => ⟨_, rfl, ?_⟩⟩
            have e2 := s2 _ _ e1
            exact ⟨_, rfl, a, _, 2, _, rfl, rfl, SqT.of e2, rfl, i, rfl, hi, q _ (s1.trans s2)⟩
theorem ok_df {f : Addr} {fd : FuncData} (F : Fun K "is_difference" "is_difference" sDf f fd) (B : Free mg) (Pt : Fnc P w K mg base CX0 3 "is_point" ["value"] spPt) (Ig : Fnc P w K mg base CX0 2 "is_integer" ["value"] spIg) :
    FnOk P w K mg base CX0 4 f fd ["value"] spDf := by
  refine F.ok scDf (fun vs H Q E h => ?_) (fun cdv A outer s H vs Q E hr h => ?_)
  · obtain ⟨v, d, rfl, _⟩ := h
    rfl
  · obtain ⟨v, ⟨x, b, m⟩, rfl, hp, ⟨hx, hb⟩, hm, q⟩ := h
    refine ⟨_, pss_cons (ps_if (PW.pt (pw_or (pt_not (pt_val (pe_callB call_isi (by rfl) (Free.isinstance B) (by decide +kernel) (pa_cons (pv 0) (pa_cons (pe_bltn (v := .ty "tuple") (by rfl) (Free.tuple B) (by decide +kernel) rfl) pa_nil))))) (pw_or1 (pt_cmpR op_ne (pe_callB call_len_seq (by rfl) (Free.len B) PySem.boot_len (pa_cons (pv 0) pa_nil)) pe_int (nomark _))))) (pss_one (ps_ret pe_bl)) pss_nil)
      (pss_one (ps_ret (pe_and (pe_fnc Pt hr (by omega) (by rfl) pass0 (pa_cons (pe_ix ix_tup (pv 0) pe_int (fun _ _ => rfl)) pa_nil)) (pe_and (pe_fnc Pt hr (by omega) (by rfl) pass0 (pa_cons (pe_ix ix_tup (pv 0) pe_int (fun _ _ => rfl)) pa_nil)) (pe_one (pe_fnc Ig hr (by omega) (by rfl) pass0 (pa_cons (pe_ix ix_tup (pv 0) pe_int (fun _ _ => rfl)) pa_nil))))))), ?_⟩
    obtain ⟨a, us, rfl, e, r⟩ := mtup hp
    cases r with
    | cons r1 r2 => cases r2 with
      | cons r3 r4 => cases r4 with
        | cons r5 r6 =>
          cases r6
          cases mnum r5
          refine ⟨_, rfl, _, .ty "tuple", _, _, true, rfl, .ty _, .base (.tup e), kit_ty kit_tt, true, rfl, ?_⟩
          refine ⟨_, rfl, a, _, rfl, .inr (SqT.of e), rfl, _, rfl, ?_⟩
          refine ⟨_, rfl, a, _, 0, _, rfl, rfl, SqT.of e, rfl, _, x, rfl, r1, hx, fun H1 s1 => ⟨_, rfl, ?_⟩⟩
          have e1 := s1 _ _ e
          refine ⟨_, rfl, a, _, 1, _, rfl, rfl, SqT.of e1, rfl, _, b, rfl, MKeyAt.same s1 r3, hb, fun H2 s2 => ⟨_, rfl, ?_⟩⟩
          have e2 := s2 _ _ e1
          exact ⟨_, rfl, a, _, 2, _, rfl, rfl, SqT.of e2, rfl, m, rfl, hm, q _ (s1.trans s2)⟩
theorem ok_are {f : Addr} {fd : FuncData} {tk : Tok} (F : Fun K "are_differences" "are_differences" sAre f fd) (B : Free mg) (Df : Fnc P w K mg base CX0 4 "is_difference" ["value"] spDf) (gM : mg "MAX_DIFFERENCES" = some (.int 60 tk)) :
    FnOk P w K mg base CX0 5 f fd ["value"] spAre := by
  refine F.ok scAre (fun vs H Q E h => ?_) (fun cdv A outer s H vs Q E hr h => ?_)
  · obtain ⟨v, ds, rfl, _⟩ := h
    rfl
  · obtain ⟨v, ds, rfl, hd, ok, q⟩ := h
    refine ⟨_, pss_cons (ps_if (PW.pt (pw_or (pt_not (pt_val (pe_callB call_isi (by rfl) (Free.isinstance B) (by decide +kernel) (pa_cons (pv 0) (pa_cons (pe_bltn (v := .ty "tuple") (by rfl) (Free.tuple B) (by decide +kernel) rfl) pa_nil))))) (pw_or1 (pt_cmpR op_gt (pe_callB call_len_seq (by rfl) (Free.len B) PySem.boot_len (pa_cons (pv 0) pa_nil)) (pe_glob (v := .int 60) (by rfl) gM ⟨_, rfl⟩) (nomark _))))) (pss_one (ps_ret pe_bl)) pss_nil)
      (pss_one (ps_ret (pe_callB (cr_all rfl) (by rfl) B.all (by decide +kernel) (pa_cons (pe_lc (own := [("difference", 1)]) (g := gName 1) (tt := tYes) rfl scAre.nd (pi_tup (pv 0)) (blkOk_by (N := ["value", "difference"]) (sc := defScope sAre) (by decide +kernel))
          (fun _ _ _ _ _ => pg_name (i := 1) scAre.nd rfl (Or.inl rfl)) (fun _ _ _ _ _ => pts_nil) (fun _ _ _ _ _ => (pe_fnc Df hr (by omega) (by rfl) pass0 (pa_cons (pv 1) pa_nil)))) pa_nil)))), ?_⟩
    obtain ⟨a, us, rfl, e, r⟩ := mtup hd
    have ln : us.length = ds.length := by rw [MKeysAt.len r, List.length_map]
    have few := ok.few
    refine ⟨_, rfl, _, .ty "tuple", _, _, true, rfl, .ty _, .base (.tup e), kit_ty kit_tt, true, rfl, ?_⟩
    refine ⟨_, rfl, a, _, rfl, .inr (SqT.of e), _, _, rfl, rfl, _, rfl, ?_⟩
    rw [decide_eq_false (by omega)]
    refine ⟨_, rfl, a, rfl, ⟨_, SqT.of e⟩, fun D nD => ?_⟩
    refine lcA ds (fun _ => V.bl true) (steady_t K a us) (fun H' s => SqT.of (s _ _ e)) nD ln (by omega) (fun i x d H' QY hx hdi s k => ?_) (fun H' s hD => ?_)
    · obtain ⟨k2, hk, m⟩ := r.to hx
      rw [List.getElem?_map, hdi] at hk
      cases hk
      have hmem := List.mem_of_getElem? hdi
      exact ⟨rfl, _, rfl, x, d, rfl, MKeyAt.same s m, ok.pt d hmem, ok.sm d hmem, fun H4 s4 => k H4 s4⟩
    · refine ⟨D, ds.map fun _ => true, rfl, SqL.of (by rw [hD, List.map_map]; rfl), ?_⟩
      have : (ds.map fun _ => true).all id = true := by
        rw [List.all_map]
        exact List.all_eq_true.mpr fun _ _ => rfl
      rw [this]
      exact q H' s
theorem ok_chk {f : Addr} {fd : FuncData} (F : Fun K "check_differences" "check_differences" sChk f fd) (Ar : Fnc P w K mg base CX0 5 "are_differences" ["value"] spAre) :
    FnOk P w K mg base CX0 6 f fd ["differences"] spChk := by
  refine F.ok scChk (fun vs H Q E h => ?_) (fun cdv A outer s H vs Q E hr h => ?_)
  · obtain ⟨v, ds, rfl, _⟩ := h
    rfl
  · obtain ⟨v, ds, rfl, hd, ok, q⟩ := h
    refine ⟨_, pss_one (ps_if (pt_not (pt_val (pe_fnc Ar hr (by omega) (by rfl) pass0 (pa_cons (pv 0) pa_nil)))) (pss_one ps_never) pss_nil), ?_⟩
    exact ⟨_, rfl, v, ds, rfl, hd, ok, fun H' s => ⟨true, rfl, q H' s⟩⟩
end
end K11
end
section
set_option autoImplicit false
set_option maxRecDepth 100000
set_option maxHeartbeats 4000000
/-! a set of few tuples with integers and texts in them -/
namespace KX
open PySem PySem.Spec PyProof.Rows L2
/-- parts of a tuple which a set's look at the tuple passes by -/
structure Tame {P : Program} {w : World} {κ : Type} [DecidableEq κ] (knd : KeyKind P w κ) : Prop where
  cls : ∀ (k : κ) (v : Value) (n : Nat), knd.is k v = true → ofAClassStatement n v = pure false
  val : ∀ (k : κ) (v : Value) (n : Nat), knd.is k v = true → ∃ b, hashByValue n v = pure b
section
variable {P : Program} {w : World} {κ : Type} [DecidableEq κ] {knd : KeyKind P w κ} {A : Around} {E : Value → Shared → Prop} {s : Shared}
theorem tp_parts : ∀ {k : List κ} {vs : List Value}, ItemsAre knd k vs → ∀ v ∈ vs, ∃ x, knd.is x v = true
  | _, _, .nil, v, hv => nomatch hv
  | _, _, .cons (k := x) h r, v, hv => (List.mem_cons.mp hv).elim (fun e => ⟨x, e ▸ h⟩) fun m => tp_parts r v m
theorem tp_cls (T : Tame knd) {k : List κ} {b : Addr} {Q : Bool → Shared → Prop} (hk : IsTupleKey knd s.heap k b) (q : Q false s) : wpAny (model P w) A (ofAClassStatement 8 (.ref b)) Q E s := by
  have ty := hk.typeIs
  obtain ⟨o, items, n, eo, _, ed, all⟩ := hk
  have parts := tp_parts all
  unfold ofAClassStatement
  refine wpAny_bind (wpAny_typeOf ty ?_)
  dsimp only
  have e1 : (("tuple" : String) == "tuple") = true := by decide
  simp only [e1, if_true, Bool.not_true, Bool.false_eq_true, if_false]
  try refine wpAny_bind (wpAny_pure ?_)
  try simp only [Bool.not_true, Bool.false_eq_true, if_false]
  refine wpAny_bind (wpAny_seqItems eo ed (wpAny_bind ?_))
  show wpAny _ _ (forIn items _ _) _ _ s
  rw [← Array.forIn_toList]
  refine wpAny_forIn_list _ (fun rest c s2 => (c.1 = none ∧ s2 = s) ∧ ∀ v ∈ rest, ∃ x, knd.is x v = true) _ ?_ ?_ _ _ ⟨⟨rfl, rfl⟩, parts⟩
  · rintro v rest c s2 ⟨⟨_, rfl⟩, more⟩
    obtain ⟨x, hx⟩ := more v List.mem_cons_self
    rw [T.cls x v _ hx]
    refine wpAny_bind (wpAny_pure ?_)
    simp only [Bool.false_eq_true, if_false]
    exact wpAny_pure ⟨⟨rfl, rfl⟩, fun u m => more u (List.mem_cons_of_mem _ m)⟩
  · rintro ⟨c1, c2⟩ s2 ⟨⟨e, rfl⟩, _⟩
    have e : c1 = none := e
    subst e
    exact wpAny_pure q
theorem tp_val (T : Tame knd) {k : List κ} {b : Addr} {Q : Bool → Shared → Prop} (hk : IsTupleKey knd s.heap k b) (q : ∀ b, Q b s) : wpAny (model P w) A (hashByValue 8 (.ref b)) Q E s := by
  have ty := hk.typeIs
  obtain ⟨o, items, n, eo, _, ed, all⟩ := hk
  have parts := tp_parts all
  unfold hashByValue
  refine wpAny_bind (wpAny_specialOf ty F.slot_tuple_hash.lookup ?_)
  refine wpAny_bind (wpAny_seqItems eo ed (wpAny_bind ?_))
  show wpAny _ _ (forIn items _ _) _ _ s
  rw [← Array.forIn_toList]
  refine wpAny_forIn_list _ (fun rest c s2 => (c.1 = none ∧ s2 = s) ∧ ∀ v ∈ rest, ∃ x, knd.is x v = true) _ ?_ ?_ _ _ ⟨⟨rfl, rfl⟩, parts⟩
  · rintro v rest c s2 ⟨⟨_, rfl⟩, more⟩
    obtain ⟨x, hx⟩ := more v List.mem_cons_self
    obtain ⟨y, hy⟩ := T.val x v _ hx
    rw [hy]
    refine wpAny_bind (wpAny_pure ?_)
    cases y with
    | true =>
      simp only [Bool.not_true, Bool.false_eq_true, if_false]
      exact wpAny_pure ⟨⟨rfl, rfl⟩, fun u m => more u (List.mem_cons_of_mem _ m)⟩
    | false =>
      simp only [Bool.not_false, if_true]
      exact wpAny_pure (wpAny_pure (q false))
  · rintro ⟨c1, c2⟩ s2 ⟨⟨e, rfl⟩, _⟩
    have e : c1 = none := e
    subst e
    exact wpAny_pure (q true)
theorem tp_seen (T : Tame knd) {k : List κ} {b : Addr} {Q : Bool → Shared → Prop} (hk : IsTupleKey knd s.heap k b) {ys : List Value} (all : ∀ y ∈ ys, ∃ k2 c, y = Value.ref c ∧ IsTupleKey knd s.heap k2 c) (q : Q false s) :
    wpAny (model P w) A (searchCouldBeSeen (.ref b) ys) Q E s := by
  unfold searchCouldBeSeen
  refine wpAny_bind (wpAny_forIn_list _ (fun rest c s2 => (c.1 = none ∧ s2 = s) ∧ ∀ y ∈ rest, ∃ k2 c, y = Value.ref c ∧ IsTupleKey knd s.heap k2 c) _ ?_ ?_ _ _ ⟨⟨rfl, rfl⟩, all⟩)
  · rintro v rest c s2 ⟨⟨_, rfl⟩, more⟩
    obtain ⟨k2, b2, rfl, hb⟩ := more v List.mem_cons_self
    have more2 := fun u m => more u (List.mem_cons_of_mem _ m)
    dsimp only
    by_cases same : (b == b2 || (carriedByValue (.ref b) && carriedByValue (.ref b2))) = true
    · exact wp_if_pos same (wpAny_pure ⟨⟨rfl, rfl⟩, more2⟩)
    refine wp_if_neg same ?_
    refine wpAny_bind (wpAny_eqIsQuiet_tuple hk ?_)
    simp only [Bool.not_true, Bool.false_eq_true, if_false]
    refine wpAny_bind (wpAny_eqIsQuiet_tuple hb ?_)
    simp only [Bool.not_true, Bool.false_eq_true, if_false]
    refine wpAny_bind (tp_cls T hk ?_)
    simp only [Bool.false_eq_true, if_false]
    refine wpAny_bind (tp_cls T hb ?_)
    simp only [Bool.false_eq_true, if_false]
    exact wpAny_pure ⟨⟨rfl, rfl⟩, more2⟩
  · rintro ⟨c1, c2⟩ s2 ⟨⟨e, rfl⟩, _⟩
    have e : c1 = none := e
    subst e
    exact wpAny_pure q
end
end KX
end
section
set_option autoImplicit false
set_option maxRecDepth 100000
set_option maxHeartbeats 4000000
/-! such a set: where a tuple is looked for, and put in -/
namespace KX
open PySem PySem.Spec PyProof.Rows L2
section
variable {P : Program} {w : World} {κ : Type} [DecidableEq κ]
/-- a set of at most four tuples -/
structure TSet (knd : KeyKind P w κ) (h : Heap) (a : Addr) (L : List (Addr × List κ)) (es : Array (Int × Value)) (ep : Nat) (t : SetTable) : Prop where
  ob : ∃ o, h.get? a = some o ∧ o.ExactSet ∧ o.data = .set es ep t
  rows : es.toList = L.map fun p => (tupleKeyHash knd p.2, Value.ref p.1)
  tab : TabOk t (L.map fun p => tupleKeyHash knd p.2)
  mask : t.mask = 7
  few : L.length ≤ 4
  nd : (L.map (·.2)).Nodup
  tup : ∀ p ∈ L, IsTupleKey knd h p.2 p.1
variable {knd : KeyKind P w κ} {A : Around} {E : Value → Shared → Prop} {s : Shared} {a : Addr} {L : List (Addr × List κ)} {es : Array (Int × Value)} {ep : Nat} {t : SetTable}
theorem TSet.sz {h : Heap} (R : TSet knd h a L es ep t) : es.size = L.length := by
  have := congrArg List.length R.rows
  rwa [Array.length_toList, List.length_map] at this
theorem TSet.psz {h : Heap} (R : TSet knd h a L es ep t) : t.place.toList.length = L.length := by
  rw [Array.length_toList, R.tab.sz, List.length_map]
theorem TSet.fit {h : Heap} (R : TSet knd h a L es ep t) : t.fits es.size = true := by
  have p := R.psz
  rw [Array.length_toList] at p
  have f := R.few
  unfold SetTable.fits SetTable.fill
  rw [R.sz, R.tab.dm, R.mask, p]
  simp only [beq_self_eq_true, Bool.true_and, decide_eq_true_eq]
  show L.length + 0 ≤ 7
  omega
theorem TSet.at_ {h : Heap} (R : TSet knd h a L es ep t) {i : Nat} {p : Addr × List κ} (e : L[i]? = some p) : es[i]? = some (tupleKeyHash knd p.2, Value.ref p.1) := by
  rw [← Array.getElem?_toList, R.rows, List.getElem?_map, e]
  rfl
abbrev prb (t : SetTable) (x : Int) (c : Nat) : SetTable.Probe := nth t.mask (runAt t.mask (SetTable.bits x % (t.mask + 1)) (SetTable.bits x)) c
theorem prb_dummy (t : SetTable) (x : Int) (c : Nat) : (prb t x c).dummy = none := by
  have go : ∀ (n : Nat) (p : SetTable.Probe), p.dummy = none → (nth t.mask p n).dummy = none := fun n => by
    induction n with
    | zero => exact fun _ h => h
    | succ n ih =>
      intro p h
      refine ih _ ?_
      unfold adv
      split
      · exact h
      · exact h
  exact go c _ rfl
theorem prb_add (t : SetTable) (x : Int) (c q : Nat) : nth t.mask (prb t x c) q = prb t x (c + q) := (nth_add t.mask c _ q).symm
theorem ts_from (T : Tame knd) (R : TSet knd s.heap a L es ep t) {x : Addr} {k : List κ} (hx : IsTupleKey knd s.heap k x) (hu : A.units < cLine) {K : Nat} (K1 : K < 10 * SetTable.turns t.mask) (K2 : (prb t (tupleKeyHash knd k) K).j ∉ t.place.toList)
    (K3 : ∀ c, c < K → (prb t (tupleKeyHash knd k) c).j ∈ t.place.toList) {Q : SetFound → Shared → Prop} (there : k ∈ L.map (·.2) → Q (.there none) s) (free : k ∉ L.map (·.2) → Q (.free (prb t (tupleKeyHash knd k) K).j false) s) :
    ∀ (f c : Nat) (st : Option SetTable.Probe), st.getD (t.probeStart (tupleKeyHash knd k)) = prb t (tupleKeyHash knd k) c → c ≤ K → K < c + f →
      (∀ (i : Nat) p, L[i]? = some p → p.2 = k → ∃ c2, c ≤ c2 ∧ c2 < K ∧ t.place.toList[i]? = some (prb t (tupleKeyHash knd k) c2).j) →
      wpAny (model P w) A (setSearchFrom a (.ref x) (tupleKeyHash knd k) true f st) Q E s := by
  obtain ⟨o, eo, ex, ed⟩ := R.ob
  generalize hz : tupleKeyHash knd k = z at *
  intro f
  induction f with
  | zero => intro c st _ h1 h2; omega
  | succ f ih =>
    intro c st es0 h1 h2 left
    rw [setSearchFrom_succ]
    refine wpAny_bind (wpAny_setState_of eo ed R.fit ?_)
    dsimp only
    have gw : ¬ t.gaveWay = true := by
      unfold SetTable.gaveWay
      rw [R.mask]
      decide
    refine wp_if_neg gw ?_
    try refine wpAny_bind (wpAny_pure ?_)
    have at0 : ∀ (i : Nat) p, L[i]? = some p → (es[i]?.map (·.1)).getD 0 = tupleKeyHash knd p.2 := fun i p e => by rw [R.at_ e]; rfl
    have sp := go_spec t R.tab.ris R.tab.dm (fun i => (es[i]?.map (·.1)).getD 0) z (10 * SetTable.turns t.mask) (K - c) (prb t z c) (prb_dummy t z c) (by omega) (fun q hq => by rw [prb_add]; exact K3 _ (by omega)) (by rw [prb_add, show c + (K - c) = K by omega]; exact K2)
    simp only [prb_add] at sp
    rw [show c + (K - c) = K by omega] at sp
    rw [show ∀ F, t.probe F z (st.getD (t.probeStart z)) = SetTable.probe.go t F z (10 * SetTable.turns t.mask) (prb t z c) from fun F => by rw [es0]; rfl]
    rcases sp with ⟨q, i, q1, q2, q3, q4, q5⟩ | ⟨q1, q2⟩
    · rw [q5]
      dsimp only
      have il : i < L.length := by rw [← R.psz]; exact (List.getElem?_eq_some_iff.mp q2).1
      obtain ⟨p, ep0⟩ : ∃ p, L[i]? = some p := ⟨_, List.getElem?_eq_getElem il⟩
      have pm := List.mem_of_getElem? ep0
      have rest : wpAny (model P w) A (searchRest a (.ref x) z true f es t (prb t z (c + q)).j i (prb t z (c + (q + 1)))) Q E s := by
        unfold searchRest
        rw [R.at_ ep0]
        dsimp only
        refine wpAny_bind (wpAny_holding (wpAny_eqBool_tuple hu (R.tup p pm) hx ?_))
        refine wpAny_bind (wpAny_setState_of eo ed R.fit ?_)
        dsimp only
        by_cases same : p.2 = k
        · exact wp_if_pos (by rw [decide_eq_true same]; rfl) (wpAny_pure (there (List.mem_map.mpr ⟨p, pm, same⟩)))
        · refine wp_if_neg (by rw [decide_eq_false same]; decide) ?_
          try refine wpAny_bind (wpAny_pure ?_)
          rw [sameMem]
          dsimp only
          have live := slot_live R.tab.ris q2
          simp only [if_true, live, R.at_ ep0]
          refine wpAny_bind (wpAny_isSame_ref_self (wpAny_bind (wpAny_pure ?_)))
          simp only [if_true]
          refine wp_if_neg (by rw [decide_eq_false same]; decide) ?_
          refine ih (c + (q + 1)) _ rfl (by omega) (by omega) fun i0 p0 e0 k0 => ?_
          obtain ⟨c2, a1, a2, a3⟩ := left i0 p0 e0 k0
          have h0 : (es[i0]?.map (·.1)).getD 0 = z := by rw [at0 i0 p0 e0, k0, hz]
          refine ⟨c2, ?_, a2, a3⟩
          rcases Nat.lt_trichotomy c2 (c + q) with y | y | y
          · exact absurd h0 (q4 (c2 - c) i0 (by omega) (by rw [show c + (c2 - c) = c2 by omega]; exact a3))
          · subst y
            have l2 := slot_live R.tab.ris a3
            rw [live] at l2
            injection l2 with l2
            rw [← l2, ep0] at e0
            cases e0
            exact absurd k0 same
          · omega
      by_cases led : t.led = true
      · refine wp_if_neg (by rw [led]; decide) ?_
        try refine wpAny_bind (wpAny_pure ?_)
        exact rest
      · refine wp_if_pos (by rw [Bool.not_eq_true] at led; rw [led]; rfl) ?_
        refine wpAny_bind (tp_seen T hx (fun y hy => ?_) ?_)
        · obtain ⟨e, he, rfl⟩ := List.mem_map.mp hy
          have he1 : e ∈ es := by
            have := he
            simp only [Array.toList_filter, List.mem_filter, Array.mem_toList_iff] at this
            exact this.1
          have he2 : e ∈ es.toList := Array.mem_toList_iff.mpr he1
          rw [R.rows] at he2
          obtain ⟨p2, m2, rfl⟩ := List.mem_map.mp he2
          exact ⟨p2.2, p2.1, rfl, R.tup p2 m2⟩
        · refine wp_if_neg (by decide) ?_
          try refine wpAny_bind (wpAny_pure ?_)
          exact rest
    · rw [q2]
      dsimp only
      refine wpAny_pure (free fun m => ?_)
      obtain ⟨p0, m0, k0⟩ := List.mem_map.mp m
      obtain ⟨i0, hi0, e0⟩ := List.getElem_of_mem m0
      have e0 : L[i0]? = some p0 := by rw [List.getElem?_eq_getElem hi0, e0]
      obtain ⟨c2, a1, a2, a3⟩ := left i0 p0 e0 k0
      exact q1 (c2 - c) i0 (by omega) (by rw [show c + (c2 - c) = c2 by omega]; exact a3) (by show (es[i0]?.map (·.1)).getD 0 = z; rw [at0 i0 p0 e0, k0, hz])
theorem ts_search (T : Tame knd) (R : TSet knd s.heap a L es ep t) {x : Addr} {k : List κ} (hx : IsTupleKey knd s.heap k x) (hu : A.units < cLine) {Q : SetFound → Shared → Prop} (there : k ∈ L.map (·.2) → Q (.there none) s)
    (free : ∀ K, k ∉ L.map (·.2) → way t.mask (tupleKeyHash knd k) K ∉ t.place.toList → (∀ c, c < K → way t.mask (tupleKeyHash knd k) c ∈ t.place.toList) → Q (.free (way t.mask (tupleKeyHash knd k) K) false) s) :
    wpAny (model P w) A (setSearch a (.ref x) (tupleKeyHash knd k) true) Q E s := by
  obtain ⟨K, K1, K2, K3⟩ := R.tab.first (by rw [List.length_map, R.mask]; have := R.few; omega) (tupleKeyHash knd k)
  have big : K < 100000 := by
    rw [R.mask] at K1
    have : 10 * SetTable.turns 7 ≤ 1000 := by decide
    omega
  unfold setSearch
  refine ts_from T R hx hu K1 K2 K3 there (fun n => free K n K2 K3) 100000 0 none rfl (Nat.zero_le _) (by omega) fun i p e ek => ?_
  have hi : (L.map fun p => tupleKeyHash knd p.2)[i]? = some (tupleKeyHash knd k) := by rw [List.getElem?_map, e, ← ek]; rfl
  have il : i < t.place.toList.length := by rw [R.psz]; exact (List.getElem?_eq_some_iff.mp e).1
  obtain ⟨c, c1, c2⟩ := R.tab.before K2 hi (List.getElem?_eq_getElem il)
  exact ⟨c, Nat.zero_le _, c1, by rw [List.getElem?_eq_getElem il]; exact congrArg some c2.symm⟩
end
end KX
end
section
set_option autoImplicit false
set_option maxRecDepth 100000
set_option maxHeartbeats 4000000
/-! such a set, made of a list of tuples; how many it has -/
namespace KX
open PySem PySem.Spec PyProof.Rows L2
section
variable {P : Program} {w : World} {κ : Type} [DecidableEq κ]
variable {knd : KeyKind P w κ} {A : Around} {E : Value → Shared → Prop} {s : Shared} {a : Addr} {L : List (Addr × List κ)} {es : Array (Int × Value)} {ep : Nat} {t : SetTable}
theorem tk_same {h h' : Heap} {k : List κ} {a b : Addr} {o : Obj} {es : Array (Int × Value)} {ep : Nat} {t : SetTable} (hb : IsTupleKey knd h k b) (eo : h.get? a = some o) (ed : o.data = .set es ep t) (sb : Heap.SameBut a h h') : IsTupleKey knd h' k b := by
  obtain ⟨o2, items, n, e1, e2, e3, e4⟩ := hb
  refine ⟨o2, items, n, (sb.2 b fun z => ?_).trans e1, e2, e3, e4⟩
  rw [z, eo] at e1
  cases e1
  rw [ed] at e3
  cases e3
theorem ts_add (T : Tame knd) (R : TSet knd s.heap a L es ep t) {x : Addr} {k : List κ} (hx : IsTupleKey knd s.heap k x) (hu : A.units < cLine) (few : L.length + 1 ≤ 4) {Q : Bool → Shared → Prop}
    (q : ∀ b h' L' es' ep' t', Heap.SameBut a s.heap h' → TSet knd h' a L' es' ep' t' → (k ∈ L.map (·.2) → L' = L) → (k ∉ L.map (·.2) → L'.Perm ((x, k) :: L)) → t'.led = t.led → Q b { s with heap := h' }) :
    wpAny (model P w) A (setAddHashed a (.ref x) (tupleKeyHash knd k)) Q E s := by
  obtain ⟨o, eo, ex, ed⟩ := R.ob
  unfold setAddHashed
  refine wpAny_holding ?_
  rw [show (100000 : Nat) = 99999 + 1 from rfl, setAddHashedIn_succ]
  refine wpAny_bind (wpAny_setState_of eo ed R.fit ?_)
  dsimp only
  refine wp_if_neg (by simp [byScan, Value.scannable]) ?_
  try refine wpAny_bind (wpAny_pure ?_)
  refine wpAny_bind (ts_search T R hx hu (fun m => ?_) fun K new K2 K3 => ?_)
  · dsimp only
    exact wpAny_pure (q false s.heap L es ep t (Heap.SameBut.refl a s.heap) R (fun _ => rfl) (fun z => absurd m z) rfl)
  · dsimp only
    refine wpAny_bind (wpAny_setState_of eo ed R.fit ?_)
    dsimp only
    obtain ⟨p1, p2, p3, p4, -, -, -, -, p9⟩ := R.tab.put K2 K3
    generalize hj : way t.mask (tupleKeyHash knd k) K = j at *
    have pl : ∀ b : Bool, TabOk (if b = true then (t.put j).1 else { (t.put j).1 with plain := false }) ((L.map fun p => tupleKeyHash knd p.2).take (SetTable.below t.place j) ++ tupleKeyHash knd k :: (L.map fun p => tupleKeyHash knd p.2).drop (SetTable.below t.place j)) := fun b => by
      cases b with
      | true => exact p3
      | false => exact ⟨p3.ris, p3.dm, p3.sz, p3.mok, p3.bd, p3.reach⟩
    have mk : ∀ b : Bool, (if b = true then (t.put j).1 else { (t.put j).1 with plain := false }).mask = 7 := fun b => by
      cases b <;> exact p4.trans R.mask
    have ld : ∀ b : Bool, (if b = true then (t.put j).1 else { (t.put j).1 with plain := false }).led = t.led := fun b => by
      cases b <;> rfl
    have fl : ∀ b : Bool, (if b = true then (t.put j).1 else { (t.put j).1 with plain := false }).tooFull = false := fun b => by
      have f : ∀ b : Bool, (if b = true then (t.put j).1 else { (t.put j).1 with plain := false }).fill = L.length + 1 := fun b => by
        rw [List.length_map] at p9
        cases b <;> exact p9
      unfold SetTable.tooFull
      rw [f, mk, decide_eq_false]
      omega
    have fin : ∀ b : Bool, wpAny (model P w) A (do
        storeSet a (SetTable.insertAt es (t.put j).2 (tupleKeyHash knd k, Value.ref x)) (if b = true then (t.put j).1 else { (t.put j).1 with plain := false })
        if (!false && (if b = true then (t.put j).1 else { (t.put j).1 with plain := false }).tooFull) = true then setRelay a (SetTable.grown (es.size + 1))
        return true) Q E s := fun b => by
      rw [fl b]
      have e1 := pl b
      have e2 := mk b
      have e3 := ld b
      generalize (if b = true then (t.put j).1 else { (t.put j).1 with plain := false }) = t1 at e1 e2 e3 ⊢
      rw [p1]
      generalize hpp : SetTable.below t.place j = p at e1 p2 ⊢
      have ins : (SetTable.insertAt es p (tupleKeyHash knd k, Value.ref x)).toList = (L.take p ++ (x, k) :: L.drop p).map fun q => (tupleKeyHash knd q.2, Value.ref q.1) := by
        rw [SetTable.toList_insertAt, R.rows, List.map_append, List.map_cons, List.map_take, List.map_drop]
      have hs : (L.map fun p => tupleKeyHash knd p.2).take p ++ tupleKeyHash knd k :: (L.map fun p => tupleKeyHash knd p.2).drop p = (L.take p ++ (x, k) :: L.drop p).map fun q => tupleKeyHash knd q.2 := by
        rw [List.map_append, List.map_cons, List.map_take, List.map_drop]
      rw [hs] at e1
      have pm := put_perm L p (x, k)
      have len : (L.take p ++ (x, k) :: L.drop p).length = L.length + 1 := pm.length_eq
      generalize L.take p ++ (x, k) :: L.drop p = L1 at ins e1 pm len
      have nd1 : (L1.map (·.2)).Nodup := (pm.map (·.2)).nodup_iff.mpr (List.nodup_cons.mpr ⟨new, R.nd⟩)
      have siz : (SetTable.insertAt es p (tupleKeyHash knd k, Value.ref x)).size = L.length + 1 := by
        have := congrArg List.length ins
        rwa [Array.length_toList, List.length_map, len] at this
      generalize SetTable.insertAt es p (tupleKeyHash knd k, Value.ref x) = es1 at ins siz ⊢
      refine wpAny_bind (wpAny_storeSet_of eo ed ?_ (by rw [siz, sizeLine_eq]; omega))
      have sb : Heap.SameBut a s.heap (s.heap.update a (Obj.putSet es1 t1)) := Heap.SameBut.update ..
      have eo1 := store_at (es' := es1) (t' := t1) eo ed
      generalize s.heap.update a (Obj.putSet es1 t1) = h1 at sb eo1 ⊢
      first
        | refine wp_if_neg (by decide) ?_
        | (refine wpAny_bind ?_; refine wp_if_neg (by decide) ?_; refine wpAny_pure ?_)
      refine wpAny_pure (q true h1 L1 es1 (ep + 1) t1 sb ⟨⟨_, eo1, ⟨ex.1, ex.2.1, ex.2.2⟩, rfl⟩, ins, e1, e2, by omega, nd1, fun y hy => ?_⟩ (fun z => absurd z new) (fun _ => pm) e3)
      rcases List.mem_cons.mp (pm.mem_iff.mp hy) with e | hy
      · rw [e]; exact tk_same hx eo ed sb
      · exact tk_same (R.tup y hy) eo ed sb
    generalize hpt : t.put j = pt at fin ⊢
    obtain ⟨t1, p⟩ := pt
    dsimp only at fin ⊢
    by_cases hp : t1.plain = true
    · first
        | (refine wpAny_bind ?_; refine wp_if_pos hp (tp_val T hx ?_); exact fin)
        | (refine wp_if_pos hp (wpAny_bind (tp_val T hx ?_)); exact fin)
    · first
        | (refine wpAny_bind ?_; refine wp_if_neg hp (wpAny_pure ?_); exact fin true)
        | (refine wp_if_neg hp (wpAny_bind (wpAny_pure ?_)); exact fin true)
        | (refine wp_if_neg hp ?_; exact fin true)
end
end KX
end
section
set_option autoImplicit false
set_option maxRecDepth 100000
set_option maxHeartbeats 4000000
/-! set(list of tuples), len(set(..)) -/
namespace KX
open PySem PySem.Spec PyProof.Rows L2
section
variable {P : Program} {w : World} {κ : Type} [DecidableEq κ]
variable {knd : KeyKind P w κ} {A : Around} {R : Result → Shared → Prop} {I : Addr} {fp wr : List Addr} {G : Array GenState → Array GenState → Prop} {n : Nat} {Pv : Nat → Value → Prop} {St : Nat → Shared → Prop}
theorem tk_keep {h h' : Heap} {k : List κ} {b : Addr} (x : IsTupleKey knd h k b) (kp : ∀ c o, h.get? c = some o → h'.get? c = some o) : IsTupleKey knd h' k b := by
  obtain ⟨o, items, n, e, r⟩ := x
  exact ⟨o, items, n, kp _ _ e, r⟩
/-- what is in the set behind so many items -/
structure TGot (ks : List (Addr × List κ)) (i : Nat) (L : List (Addr × List κ)) : Prop where
  sub : ∀ p ∈ L, p ∈ ks
  keys : (L.map (·.2)).Perm (once ((ks.take i).map (·.2)))
theorem TSet.on {h h' : Heap} {a : Addr} {L : List (Addr × List κ)} {es : Array (Int × Value)} {ep : Nat} {t : SetTable} (R : TSet knd h a L es ep t) (e : ∀ o, h.get? a = some o → h'.get? a = some o) (m : ∀ p ∈ L, IsTupleKey knd h' p.2 p.1) : TSet knd h' a L es ep t := by
  obtain ⟨o, e1, r⟩ := R.ob
  exact ⟨⟨o, e _ e1, r⟩, R.rows, R.tab, R.mask, R.few, R.nd, m⟩
theorem ts_new {h : Heap} {a : Addr} (led : Bool) (e : h.get? a = some (setNew led)) : TSet knd h a [] #[] 0 (.fresh 0 0 led) :=
  ⟨⟨_, e, ⟨rfl, rfl, rfl⟩, rfl⟩, rfl, ⟨List.Pairwise.nil, rfl, rfl, .inl rfl, fun _ h => (nomatch h), fun _ _ _ h => (nomatch h)⟩, rfl, Nat.zero_le _, List.nodup_nil, fun _ h => (nomatch h)⟩
theorem once_app {κ : Type} [DecidableEq κ] (a : List κ) : ∀ b : List κ, (once a).length ≤ (once (a ++ b)).length := fun b => by
  induction b generalizing a with
  | nil =>
    rw [List.append_nil]
    exact Nat.le_refl _
  | cons x b ih =>
    have := ih (a ++ [x])
    rw [List.append_assoc] at this
    refine Nat.le_trans ?_ this
    rw [once_snoc]
    split
    · exact Nat.le_refl _
    · rw [List.length_append]
      exact Nat.le_add_right _ _
theorem fill_tups {ld : Bool} (T : Tame knd) (W : WalksS P w A.in1 I fp wr G n Pv St) (S : Addr) (out : S ∉ fp) (ks : List (Addr × List κ)) (len : ks.length = n) (few : (once (ks.map (·.2))).length ≤ 3) (is : ∀ i v, Pv i v → ∃ p, ks[i]? = some p ∧ v = .ref p.1)
    (h0 : Heap) (tk : ∀ p ∈ ks, IsTupleKey knd h0 p.2 p.1) (S0 : h0.get? S = none) (w0 : ∀ b ∈ wr, h0.get? b = none) (hu : A.in1.units < cLine) :
    ∀ (k i : Nat) (s : Shared), n - i = k → i ≤ n → St i s → (∀ b o, h0.get? b = some o → s.heap.get? b = some o) → (∃ L es ep t, TSet knd s.heap S L es ep t ∧ TGot ks i L ∧ t.led = ld) →
      (∀ s' L es ep t, Moved (S :: wr) G s s' → TSet knd s'.heap S L es ep t → TGot ks n L → t.led = ld → (∀ b o, h0.get? b = some o → s'.heap.get? b = some o) → R (.ok (.ret .none)) s') →
      codeAny (model P w) A (.builtin "set.update.loop" ⟨[.ref S, .ref I], []⟩) R s := by
  have out2 : S ∉ wr := fun h => out (W.sub _ h)
  have wider : ∀ b ∈ wr, b ∈ S :: wr := fun b hb => List.mem_cons_of_mem _ hb
  have stay : ∀ {s s' : Shared}, Moved wr G s s' → (∀ b o, h0.get? b = some o → s.heap.get? b = some o) → ∀ b o, h0.get? b = some o → s'.heap.get? b = some o := fun mv kp b o e =>
    mv.heap b o (fun hb => by rw [w0 b hb] at e; cases e) (kp b o e)
  intro k
  induction k with
  | zero =>
    intro i s hk hi st kp ⟨L, es, ep, t, TS, g, gl⟩ hR
    obtain rfl : i = n := by omega
    refine codeAny_builtin PyProof.Rows.F.entry_set_update_loop ?_
    rw [Around.under_plainId PyProof.Rows.F.plain_set_update_loop _]
    show wpAny _ A.in1 (pyNext (.ref I) >>= _) _ _ s
    refine wpAny_bind (W.done s _ _ st fun s' mv => ?_)
    show wpAny _ A.in1 (ret Value.none) _ _ s'
    have kp2 := stay mv kp
    exact wpAny_pure (hR s' L es ep t (mv.mono wider) (TS.on (fun o e => mv.heap S o out2 e) fun p hp => tk_keep (tk p (g.sub p hp)) kp2) g gl kp2)
  | succ k ih =>
    intro i s hk hi st kp ⟨L, es, ep, t, TS, g, gl⟩ hR
    have lt : i < n := by omega
    refine codeAny_builtin PyProof.Rows.F.entry_set_update_loop ?_
    rw [Around.under_plainId PyProof.Rows.F.plain_set_update_loop _]
    show wpAny _ A.in1 (pyNext (.ref I) >>= _) _ _ s
    refine wpAny_bind (W.item i s _ _ lt st fun v s' hP st' mv => ?_)
    obtain ⟨p, hp, rfl⟩ := is i v hP
    have kp2 := stay mv kp
    have pm := List.mem_of_getElem? hp
    have TS1 := TS.on (fun o e => mv.heap S o out2 e) (fun p hp => tk_keep (tk p (g.sub p hp)) kp2)
    have hx : IsTupleKey knd s'.heap p.2 p.1 := tk_keep (tk p pm) kp2
    have ll : L.length + 1 ≤ 4 := by
      have h1 := g.keys.length_eq
      have h2 := once_app ((ks.take i).map (·.2)) ((ks.drop i).map (·.2))
      rw [← List.map_append, List.take_append_drop] at h2
      rw [List.length_map] at h1
      omega
    show wpAny _ A.in1 (holding [Value.ref p.1] (setAdd S (.ref p.1)) >>= _) _ _ s'
    refine wpAny_bind (wpAny_holding ?_)
    unfold setAdd
    refine wpAny_holding (wpAny_bind (wpAny_pyHash_tuple hu hx ?_))
    refine ts_add (s := { s' with toks := s'.toks + (p.2.length + 1) }) T TS1 hx hu ll fun b h' L' es' ep' t' sb TS2 c1 c2 c3 => ?_
    have g2 : TGot ks (i + 1) L' := by
      have e : (ks.take (i + 1)).map (·.2) = (ks.take i).map (·.2) ++ [p.2] := by rw [List.take_add_one, hp, List.map_append]; rfl
      by_cases m : p.2 ∈ L.map (·.2)
      · rw [c1 m]
        refine ⟨g.sub, ?_⟩
        rw [e, once_snoc, if_pos (g.keys.mem_iff.mp m)]
        exact g.keys
      · have pr := c2 m
        refine ⟨fun y hy => ?_, ?_⟩
        · rcases List.mem_cons.mp (pr.mem_iff.mp hy) with z | z
          · rw [z]; exact pm
          · exact g.sub y z
        · rw [e, once_snoc, if_neg (fun z => m (g.keys.mem_iff.mpr z))]
          refine (pr.map (·.2)).trans ?_
          rw [List.map_cons]
          exact (List.Perm.cons _ g.keys).trans (List.perm_append_singleton _ _).symm
    have kp3 : ∀ b o, h0.get? b = some o → h'.get? b = some o := fun b o e => (sb.2 b (fun z => by rw [z, S0] at e; cases e)).trans (kp2 b o e)
    refine wpAny_pure ⟨plainId_quiet PyProof.Rows.F.plain_set_update_loop _, ih (i + 1) _ (by omega) lt (W.frame _ s' _ _ st' (Nat.le_add_right _ _) fun b hb o e => ?_) kp3 ⟨L', es', ep', t', TS2, g2, c3.trans gl⟩ fun s2 L2 es2 ep2 t2 mv2 TS3 g3 l3 kp4 => ?_⟩
    · rw [sb.2 b (fun z : b = S => out (by rw [← z]; exact hb))]
      exact e
    · refine hR s2 L2 es2 ep2 t2 (Moved.trans W.gtrans ((mv.mono wider).then_heap (Nat.le_add_right _ _) fun b o hb e => ?_) mv2) TS3 g3 l3 kp4
      rw [sb.2 b (fun z : b = S => hb (by rw [z]; exact List.mem_cons_self))]
      exact e
end
section
variable {prog : Program} {w : World} {A : Around} {E : Value → Shared → Prop} {s : Shared}
abbrev setNewT (w : World) : Obj := setNew (!w.params.followText "set-order")
theorem set_of_tups {κ : Type} [DecidableEq κ] {knd : KeyKind prog w κ} (T : Tame knd) {l : Addr} {items : Array Value} (ks : List (Addr × List κ)) {Q : Value → Shared → Prop} (hh : A.handled = none) (seq : s.heap.IsList l items) (its : items.toList = ks.map fun p => Value.ref p.1) (few : (once (ks.map (·.2))).length ≤ 3)
    (tk : ∀ p ∈ ks, IsTupleKey knd s.heap p.2 p.1) (hu : A.units + 3 < cLine)
    (q : ∀ (h' : Heap) (tk : Nat) L es ep t, TSet knd h' s.heap.objs.size L es ep t → TGot ks ks.length L → (w.params.followText "set-order" = true ∨ t.led = true) → (∀ b o, s.heap.get? b = some o → h'.get? b = some o) → Q (.ref s.heap.objs.size) { s with heap := h', toks := tk }) :
    wpAny (model prog w) A (call (.type "set") [.ref l]) Q E s := by
  have len : ks.length = items.size := by
    have := congrArg List.length its
    rw [Array.length_toList, List.length_map] at this
    exact this.symm
  obtain ⟨c0, t0, y_mro⟩ := PySem.F.called_set.mro
  have y_made := PySem.F.called_set.made
  have y_sub := PySem.F.called_set.sub
  refine wpAny_call (codeAny_of_tree ?_)
  show wpAny _ _ (callAny (.type "set") _) _ _ _
  refine wpAny_pure ⟨Code.quiet_builtin _ (by decide +kernel), codeAny_builtin PySem.F.entry_type_call ?_⟩
  rw [Around.under_plain (weight_type_call_type "set" [.ref l] []) rfl]
  have y_not := PySem.F.called_set.notType
  have y_can := PySem.F.called_set.canCreate
  have y_chk := PySem.F.typeCall_set_1 (.ref l)
  repeat (any_goals (first | assumption | wp_step))
  refine codeAny_mono (code_set_led1 (.ref l) (E := E) (Q₁ := fun y s1 => y = .ref s.heap.objs.size ∧ s1 = { s with heap := s.heap.push (setNewT w) }) ⟨rfl, rfl⟩) fun r s1 hr => ?_
  match r, hr with
  | .error e, hr => exact hr
  | .ok .next, hr => exact hr.elim
  | .ok .brk, hr => exact hr.elim
  | .ok .cont, hr => exact hr.elim
  | .ok (.ret y), hr =>
    obtain ⟨rfl, rfl⟩ := hr
    have hS : (s.heap.push (setNewT w)).get? s.heap.objs.size = some (setNewT w) := Heap.get?_push_size _ rfl
    have hT : Shared.TypeIs { s with heap := s.heap.push (setNewT w) } (.ref s.heap.objs.size) "set" := ⟨_, hS, rfl⟩
    have y_look := PySem.F.called_set.init.lookup
    have y_bind := PySem.F.called_set.init.bind (.ref s.heap.objs.size)
    repeat (any_goals (first | assumption | wp_step))
    refine codeAny_mono (codeAny_call_builtin (R := wants (fun r s2 => r = .none ∧ ∃ h' tk L es ep t, s2 = { s with heap := h', toks := tk } ∧ TSet knd h' s.heap.objs.size L es ep t ∧ TGot ks ks.length L ∧ t.led = (!w.params.followText "set-order") ∧
        (∀ b o, s.heap.get? b = some o → h'.get? b = some o)) E) PySem.F.called_set.init.plain PySem.F.entry_set_init (check_set_init_1 hT ?_)) fun r2 s2 hr2 => ?_
    · obtain ⟨ol, hol, oc, nl, od⟩ := seq
      obtain ⟨o1, o2, o3, o4⟩ := ol
      dsimp only at oc od
      subst oc od
      have there : (s.heap.push (setNewT w)).get? l = some { cls := .type "list", dict := o2, data := .seq items nl, slots := o4 } := Heap.get?_push_of_some _ hol
      have y_s1 := PySem.F.sub_list_set
      have y_s2 := PySem.F.sub_list_frozenset
      have y_ne : (Value.type "list" == Value.type "dict") = false := by decide
      have seq1 : (s.heap.push (setNewT w)).IsList l items := ⟨_, there, rfl, nl, rfl⟩
      unfold Builtin.«set.__init__» noKeywords Builtin.Frozenset.updateFrom
      generalize y_it : pyIter = PI
      wp_walk
      subst y_it
      refine wpAny_pyIter_list seq1 (wpAny_bind (wpAny_runValue ?_))
      have low : l < s.heap.objs.size := Heap.lt_size hol
      have hh3 : A.in1.in1.in1.handled = none := by simp [hh]
      have apart : l ≠ (s.heap.push (setNewT w)).objs.size := by
        rw [Heap.size_push]
        exact Nat.ne_of_lt (Nat.lt_succ_of_lt low)
      have out : s.heap.objs.size ∉ [(s.heap.push (setNewT w)).objs.size, l] := by
        intro z
        rw [Heap.size_push] at z
        rcases List.mem_cons.mp z with z | z
        · exact absurd z (Nat.ne_of_lt (Nat.lt_succ_self _))
        · exact absurd (List.mem_singleton.mp z).symm (Nat.ne_of_lt low)
      have gone : ∀ b, s.heap.objs.size ≤ b → s.heap.get? b = none := fun b hb => by
        cases z : s.heap.get? b with
        | none => rfl
        | some o => exact absurd (Heap.lt_size z) (Nat.not_lt.mpr hb)
      refine fill_tups (ld := !w.params.followText "set-order") T ((Walks.list hh3 _ l apart items).toS) s.heap.objs.size out ks len few (fun i v hv => ?_) s.heap tk (gone _ (Nat.le_refl _)) (fun b hb => gone b (by
          rw [List.mem_singleton.mp hb, Heap.size_push]
          exact Nat.le_succ _)) hu (items.size - 0) 0 _ (by omega) (Nat.zero_le _) ⟨⟨_, Heap.get?_push_size _ rfl, rfl, rfl⟩, (seq1.push _)⟩ (fun b o e => Heap.get?_push_of_some _ (Heap.get?_push_of_some _ e)) ?_ ?_
      · have z : items.toList[i]? = some v := by rw [Array.getElem?_toList]; exact hv
        rw [its, List.getElem?_map] at z
        obtain ⟨p, e1, e2⟩ := Option.map_eq_some_iff.mp z
        exact ⟨p, e1, e2.symm⟩
      · have got : ((s.heap.push (setNewT w)).push { cls := .type "list_iterator", data := .fields #[.ref l, .int 0 0] }).get? s.heap.objs.size = some (setNewT w) := Heap.get?_push_of_some _ hS
        exact ⟨[], #[], 0, _, ts_new _ got, ⟨fun p h => (nomatch h), by rw [List.take_zero]; exact List.Perm.refl _⟩, rfl⟩
      · rintro ⟨h', g', d', tk', os'⟩ L es ep t mv hS2 g gl kp
        obtain rfl : g' = s.gens := mv.gens
        obtain rfl : d' = s.drawn := mv.drawn
        obtain rfl : os' = s.os := mv.os
        show wpAny _ _ _ _ _ _
        refine wpAny_pure ?_
        show wpAny _ _ (ret Value.none) _ _ _
        rw [← len] at g
        exact wpAny_pure ⟨rfl, h', tk', L, es, ep, t, rfl, hS2, g, gl, kp⟩
    · match r2, hr2 with
      | .error e, hr2 => exact hr2
      | .ok .next, hr2 => exact hr2.elim
      | .ok .brk, hr2 => exact hr2.elim
      | .ok .cont, hr2 => exact hr2.elim
      | .ok (.ret r), hr2 =>
        obtain ⟨rfl, h', tk, L, es, ep, t, rfl, hS2, g, gl, kp⟩ := hr2
        repeat (any_goals (first | assumption | wp_step))
        exact q _ _ _ _ _ _ hS2 g (by rw [gl]; cases w.params.followText "set-order" <;> simp) kp
end
end KX
end
section
set_option autoImplicit false
set_option maxRecDepth 100000
set_option maxHeartbeats 4000000
/-! sorted(set of tuples) -/
namespace KX
open PySem PySem.Spec PyProof.Rows L2
section
variable {prog : Program} {w : World} {A : Around} {E : Value → Shared → Prop} {s : Shared} {a : Addr} {κ : Type} [DecidableEq κ] {knd : KeyKind prog w κ} {L : List (Addr × List κ)} {es : Array (Int × Value)} {ep : Nat} {t : SetTable}
theorem each_refs {h : Heap} {D : Addr × List κ → PyData} : ∀ {M : List (Addr × List κ)}, (∀ p ∈ M, Reads h (.ref p.1) (D p) []) → ∀ {c : Addr}, PySem.W.EachIs (fun v p => ∃ as, Reads h v (D p) as ∧ c ∉ as) (M.map fun p => Value.ref p.1) M
  | [], _, _ => .nil
  | p :: M, r, c => .cons ⟨[], r p List.mem_cons_self, List.not_mem_nil⟩ (each_refs fun q hq => r q (List.mem_cons_of_mem _ hq))
theorem each_same : ∀ M : List (Addr × List κ), PySem.W.EachIs (fun v (p : Addr × List κ) => v = Value.ref p.1) (M.map fun p => Value.ref p.1) M
  | [] => .nil
  | p :: M => .cons rfl (each_same M)
theorem perm_refs {vs : List Value} (h : vs.Perm (L.map fun p => Value.ref p.1)) : ∃ M : List (Addr × List κ), M.Perm L ∧ vs = M.map fun p => Value.ref p.1 := by
  have go : ∀ {us vs : List Value}, us.Perm vs → ∀ M : List (Addr × List κ), vs = M.map (fun p => Value.ref p.1) → ∃ N : List (Addr × List κ), N.Perm M ∧ us = N.map fun p => Value.ref p.1 := fun {us vs} pm => by
    induction pm with
    | nil => exact fun M e => ⟨M, List.Perm.refl _, e⟩
    | cons x _ ih =>
      intro M e
      cases M with
      | nil => cases e
      | cons p M =>
        rw [List.map_cons] at e
        injection e with e1 e2
        obtain ⟨N, n1, n2⟩ := ih M e2
        exact ⟨p :: N, List.Perm.cons p n1, by rw [List.map_cons, e1, n2]⟩
    | swap x y l =>
      intro M e
      match M, e with
      | p :: q :: M, e =>
        rw [List.map_cons, List.map_cons] at e
        injection e with e1 e2
        injection e2 with e2 e3
        exact ⟨q :: p :: M, List.Perm.swap p q M, by rw [List.map_cons, List.map_cons, e1, e2, e3]⟩
    | trans _ _ ih1 ih2 =>
      intro M e
      obtain ⟨N, n1, n2⟩ := ih2 M e
      obtain ⟨N2, n3, n4⟩ := ih1 N n2
      exact ⟨N2, n3.trans n1, n4⟩
  exact go h L rfl
theorem sorted_ts (R : TSet knd s.heap a L es ep t) (led : w.params.followText "set-order" = true ∨ t.led = true) (D : Addr × List κ → PyData) (rd : ∀ p ∈ L, Reads s.heap (.ref p.1) (D p) []) (al : PySem.W.AllAlike (L.map D)) (so : PySem.W.Sortable (L.map D)) (dd : ∀ p ∈ L, PyData.depth (D p) ≤ 16)
    (hh : A.handled = none) (hu : A.units + 64 < cLine) {Q : Value → Shared → Prop}
    (q : ∀ s' p (out : List Value) (c : Nat) (M : List (Addr × List κ)), (∀ b o, s.heap.get? b = some o → s'.heap.get? b = some o) → s'.gens = s.gens → s'.os = s.os → s.heap.objs.size ≤ p → s'.heap.get? p = some (seqObj "list" out.toArray c) →
      M.Perm L → PySem.W.EachIs (fun v (p : Addr × List κ) => v = Value.ref p.1) out (M.mergeSort (PySem.W.dataLe false D)) → Q (.ref p) s') :
    wpAny (model prog w) A (call (.builtin "sorted") [.ref a]) Q E s := by
  obtain ⟨ob, ho, ex, hd⟩ := R.ob
  have few := R.few
  have sz := R.sz
  refine Calls.call_function_entry kind_sorted plain_sorted entry_sorted (args_sorted1 _) ?_
  unfold Builtin.«sorted»
  refine wpAny_bind (m := checkCount "sorted" 1 1 _) (wpAny_pure ?_)
  refine wpAny_bind (collect_set (A := A.in1) hh ⟨ob, ho, ex.1, hd⟩ R.fit (by rw [sz]; exact Nat.lt_of_le_of_lt few (by decide)) R.tab.ris led fun s1 vs kp hz g1 o1 pm => ?_)
  have rows : es.toList.map (·.2) = L.map fun p => Value.ref p.1 := by
    rw [R.rows, List.map_map]
    rfl
  rw [rows] at pm
  obtain ⟨M, pM, rfl⟩ := perm_refs pm
  have lM : M.length ≤ 4 := by rw [pM.length_eq]; exact few
  have lz : M.length ≤ sizeLine := by rw [sizeLine_eq]; omega
  refine wpAny_bind (wpAny_newList ?_ (by rw [List.length_map]; exact lz))
  have hoL : (s1.heap.push (seqObj "list" (M.map fun p => Value.ref p.1).toArray 0)).get? s1.heap.objs.size = some (seqObj "list" (M.map fun p => Value.ref p.1).toArray 0) := Heap.get?_push_size _ rfl
  have rd2 : ∀ p ∈ M, Reads (s1.heap.push (seqObj "list" (M.map fun p => Value.ref p.1).toArray 0)) (.ref p.1) (D p) [] := fun p hp => Reads.keeps (fun b o e => Heap.get?_push_of_some _ (kp b o e)) (rd p (pM.mem_iff.mp hp))
  have alM : PySem.W.AllAlike (M.map D) := fun d hd d' hd' => al d ((pM.map D).mem_iff.mp hd) d' ((pM.map D).mem_iff.mp hd')
  have soM : PySem.W.Sortable (M.map D) := so.imp (fun h d hd => h d ((pM.map D).mem_iff.mp hd)) fun h d hd => h d ((pM.map D).mem_iff.mp hd)
  refine wpAny_bind (wpAny_holding (PySem.W.list_sort_data (s := { s1 with heap := s1.heap.push (seqObj "list" (M.map fun p => Value.ref p.1).toArray 0) }) (R := fun v (p : Addr × List κ) => v = Value.ref p.1) (enc := D) (bs := M) hoL (each_same M) (each_refs rd2) alM soM lz (fun p hp => ?_) fun out lo eo => ?_))
  · have := dd p (pM.mem_iff.mp hp)
    show A.units + 1 + 1 + _ < cLine
    omega
  · obtain ⟨c, hc⟩ := sortedHeap_at (vs := M.map fun p => Value.ref p.1) (out := out.toArray) hoL
    refine wpAny_pure ⟨_, rfl, q _ s1.heap.objs.size out c M (fun b u e => ?_) g1 o1 hz hc pM eo⟩
    have old := kp b u e
    have lt := Heap.lt_size old
    show (sortedHeap (s1.heap.push (seqObj "list" (M.map fun p => Value.ref p.1).toArray 0)) s1.heap.objs.size (M.map fun p => Value.ref p.1) _).get? b = some u
    rw [sortedHeap_old (Nat.ne_of_lt lt) (by rw [size_push']; exact Nat.lt_succ_of_lt lt)]
    exact Heap.get?_push_of_some _ old
end
end KX
end
section
set_option autoImplicit false
set_option maxRecDepth 100000
set_option maxHeartbeats 4000000
/-! sorted(set(list of tuples)) as a term of rules -/
namespace KX
open PySem PySem.Spec PyProof.Rows L2
def kD : L2.Key → PyData
  | .inl i => .int i
  | .inr z => .str z
def tupD (p : Addr × List L2.Key) : PyData := .tuple (p.2.map kD)
theorem boot_sortedT : bootBuiltins "sorted" = some (.builtin "sorted") := by decide +kernel
theorem tame_mixT (P : Program) (w : World) : Tame (mixKind P w) := by
  refine ⟨fun k v n h => ?_, fun k v n h => ?_⟩
  · rcases keyIs_shape h with ⟨i, t, rfl, rfl⟩ | ⟨x, t, rfl, rfl⟩ <;> cases n <;> rfl
  · rcases keyIs_shape h with ⟨i, t, rfl, rfl⟩ | ⟨x, t, rfl, rfl⟩ <;> cases n <;> exact ⟨_, rfl⟩
theorem refs_areT : ∀ {ks : List (Addr × List L2.Key)} {us : List Value}, Vals (ks.map fun p => V.ref p.1) us → us = ks.map fun p => Value.ref p.1
  | [], _, .nil => rfl
  | p :: ks, _, .cons r t => by
    obtain rfl := r
    rw [refs_areT t]
    rfl
theorem reads_kD {h : Heap} : ∀ {ks : List L2.Key} {us : List Value}, Vals (ks.map kV) us → ReadsAll h us (ks.map kD) []
  | [], _, .nil => .nil
  | .inl i :: ks, _, .cons r t => by
    obtain ⟨tk, rfl⟩ := (show ∃ t, _ = Value.int i t from r)
    exact ReadsAll.cons (as := []) (bs := []) (.int i tk) (reads_kD t)
  | .inr z :: ks, _, .cons r t => by
    obtain ⟨tk, rfl⟩ := (show ∃ t, _ = Value.str z t from r)
    exact ReadsAll.cons (as := []) (bs := []) (.str z tk) (reads_kD t)
theorem depth_kD : ∀ ks : List L2.Key, PyData.depthAll (ks.map kD) = 0
  | [] => by simp [PyData.depthAll]
  | .inl i :: ks => by
    rw [List.map_cons]
    simp [PyData.depthAll, kD, PyData.depth, depth_kD ks]
  | .inr z :: ks => by
    rw [List.map_cons]
    simp [PyData.depthAll, kD, PyData.depth, depth_kD ks]
def tSortTups (K : PySem.W.Frag) (ta : TE) : TE := fun σ H Q => ta σ H fun x H1 => ∃ (l : Addr) (ks : List (Addr × List L2.Key)), x = .ref l ∧ SqL K H1 l (ks.map fun p => V.ref p.1) ∧ (once (ks.map (·.2))).length ≤ 3 ∧ (∀ p ∈ ks, SqT K H1 p.1 (p.2.map kV)) ∧ PySem.W.AllAlike (ks.map tupD) ∧ PySem.W.Sortable (ks.map tupD) ∧
  ∀ (M : List (Addr × List L2.Key)) (p : Addr), (∀ q ∈ M, q ∈ ks) → (M.map (·.2)).Perm (once (ks.map (·.2))) → H1 p = none → Q (.ref p) (upd H1 p (.lst ((M.mergeSort (PySem.W.dataLe false tupD)).map fun q => V.ref q.1)))
theorem vals_refs : ∀ {out : List Value} {M : List (Addr × List L2.Key)}, PySem.W.EachIs (fun v (p : Addr × List L2.Key) => v = Value.ref p.1) out M → Vals (M.map fun q => V.ref q.1) out
  | _, _, .nil => .nil
  | _, _, .cons r t => .cons r (vals_refs t)
theorem pe_sortTups {X : Cx} {a : Expr} {ta : TE} {p p2 q pos : Pos} (hu : X.A.units + 96 < cLine) (hg : Gl X "sorted") (hm : X.mg "sorted" = none) (hg2 : Gl X "set") (hm2 : X.mg "set" = none) (ha : PE X a ta) (hc : X.calm = true := by rfl)
    (na : starEach [a] X.env = (false, eval a X.env) :: starEach [] X.env := by rfl) : PE X (.Call (.Name "sorted" p) [.Call (.Name "set" p2) [a] [] q] [] pos) (tSortTups X.K ta) := by
  refine ⟨fun pins s σ H Q I h => ?_⟩
  refine Call_ (ld_blt I hg hm boot_sortedT (PyProof.Rows.callWith_builtin1 (PyProof.Rows.args_cons ?_ rfl) rfl rfl))
  refine Call_ (ld_blt I hg2 hm2 boot_set ?_)
  refine PyProof.Rows.callWith_type1 (PyProof.Rows.args_cons (thn (ha.run pins s σ H _ I h) fun v s1 ⟨x, H1, I1, r1, q1⟩ => PyProof.Rows.args_nil ?_) na) na rfl
  obtain ⟨l, ks, rfl, hq, few, hk, al, so, q1⟩ := q1
  obtain rfl : v = Value.ref l := r1
  obtain ⟨its, r, pl, hz⟩ := I1.list hq
  refine set_of_tups (tame_mixT X.prog X.w) ks (I1.ok.hd hc) pl.isList (by simpa using refs_areT r) few (fun p hp => ?_) (by omega) fun h' tk L es ep t TS g led kp => ?_
  · obtain ⟨its2, r2, ⟨o, ho, hc2, n, hd⟩, _⟩ := I1.tuple (hk p hp)
    exact ⟨o, its2.toArray, n, ho, hc2, hd, by simpa using items_are r2⟩
  · refine PyProof.Rows.args_nil ?_
    have I2 : Inv X pins σ H1 { s1 with heap := h', toks := tk } := I1.kept kp
    refine sorted_ts (s := { s1 with heap := h', toks := tk }) TS led tupD (fun p hp => ?_) (fun d hd d' hd' => ?_) (so.imp (fun h d hd => ?_) fun h d hd => ?_) (fun p hp => ?_) (I1.ok.hd hc) (by omega) fun s' p out c M k g1 o hp hg3 pm eo => ?_
    · obtain ⟨its2, r2, ⟨o, ho, hc2, n, hd⟩, _⟩ := I2.tuple (hk p (g.sub p hp))
      exact .tuple ho hc2 hd (by simpa using reads_kD r2)
    · obtain ⟨p, hp, rfl⟩ := List.mem_map.mp hd
      obtain ⟨p', hp', rfl⟩ := List.mem_map.mp hd'
      exact al _ (List.mem_map.mpr ⟨p, g.sub p hp, rfl⟩) _ (List.mem_map.mpr ⟨p', g.sub p' hp', rfl⟩)
    · obtain ⟨p, hp, rfl⟩ := List.mem_map.mp hd
      exact h _ (List.mem_map.mpr ⟨p, g.sub p hp, rfl⟩)
    · obtain ⟨p, hp, rfl⟩ := List.mem_map.mp hd
      exact h _ (List.mem_map.mpr ⟨p, g.sub p hp, rfl⟩)
    · show PyData.depth (.tuple (p.2.map kD)) ≤ 16
      simp only [PyData.depth, depth_kD]
      omega
    · have fw := TS.few
      have lny : ((M.mergeSort (PySem.W.dataLe false tupD)).map fun q => V.ref q.1).length ≤ sizeLine := by
        rw [List.length_map, List.length_mergeSort, pm.length_eq, sizeLine_eq]
        omega
      have hn : H1 p = none := I2.hok.fresh hp
      have J : Inv X pins σ (upd H1 p (.lst ((M.mergeSort (PySem.W.dataLe false tupD)).map fun q => V.ref q.1))) { ({ s1 with heap := h', toks := tk } : Shared) with heap := s'.heap, gens := s'.gens, drawn := s'.drawn, toks := s'.toks } :=
        I2.call (ch := []) (Un.laid k hp hn) (I2.hok.laid k hp ⟨lny, out, c, vals_refs eo, hg3⟩) (by rw [g1]; exact I2.bare) (fun _ z => nomatch z)
      have e : s' = { s1 with heap := s'.heap, gens := s'.gens, drawn := s'.drawn, toks := s'.toks } := by
        cases s'
        cases s1
        cases o
        rfl
      rw [e]
      refine ⟨.ref p, _, J, rfl, q1 M p (fun q hq => g.sub q (pm.mem_iff.mp hq)) ((pm.map _).trans ?_) hn⟩
      have := g.keys
      rw [List.take_length] at this
      exact this
end KX
end
section
set_option autoImplicit false
set_option maxRecDepth 100000
set_option maxHeartbeats 4000000
/-! points_of -/
namespace K11
open PySem PySem.Spec PyProof.Rows L2 KX
def keyA : List L2.Key := [.inr "a", .inr "", .inl 0]
def keyB : List L2.Key := [.inr "a", .inr "i", .inl 1]
def isTx : NestedKey → Bool
  | .text _ => true
  | _ => false
theorem leAB (p q : Addr) : PySem.W.dataLe false tupD (p, keyA) (q, keyB) = true := by
  show PySem.W.dataLe false tupD (0, keyA) (0, keyB) = true
  decide +kernel
theorem leBA (p q : Addr) : PySem.W.dataLe false tupD (p, keyB) (q, keyA) = false := by
  show PySem.W.dataLe false tupD (0, keyB) (0, keyA) = false
  decide +kernel
theorem sort2 {α : Type} (a b : α) (le : α → α → Bool) : [a, b].mergeSort le = if le a b then [a, b] else [b, a] := by
  simp [List.mergeSort, List.MergeSort.Internal.splitInTwo, List.merge]
def kOf : List L2.Key → NestedKey
  | [.inr x, .inr y, .inl i] => .tup [.text x, .text y, .num i]
  | _ => .none
/-- few cells, sorted: always the same order -/
theorem cells_sorted {M : List (Addr × List L2.Key)} (h : ∀ p ∈ M, p.2 = keyA ∨ p.2 = keyB) (n : (M.map (·.2)).Nodup) :
    (M.mergeSort (PySem.W.dataLe false tupD)).map (·.2) = [keyA, keyB].filter fun k => M.any fun p => decide (p.2 = k) := by
  have nab : keyA ≠ keyB := by decide
  match M, h, n with
  | [], _, _ =>
    rw [List.mergeSort_nil]
    rfl
  | [(p, k)], h, _ =>
    rw [List.mergeSort_singleton]
    rcases h (p, k) List.mem_cons_self with e | e
    · subst e
      show [keyA] = _
      simp [nab, nab.symm]
    · subst e
      show [keyB] = _
      simp [nab, nab.symm]
  | [(p, k), (q, j)], h, n =>
    rw [sort2]
    have n2 : k ≠ j := by
      intro e
      subst e
      simp at n
    rcases h (p, k) List.mem_cons_self with e | e <;> rcases h (q, j) (by simp) with e2 | e2 <;> dsimp only at e e2
    · exact absurd (e.trans e2.symm) n2
    · subst e e2
      rw [if_pos (leAB p q)]
      simp [nab]
    · subst e e2
      rw [if_neg (by rw [leBA]; exact Bool.false_ne_true)]
      simp [nab]
    · exact absurd (e.trans e2.symm) n2
  | (p, k) :: (q, j) :: (r, i) :: M, h, n =>
    exfalso
    have h1 := h (p, k) (by simp)
    have h2 := h (q, j) (by simp)
    have h3 := h (r, i) (by simp)
    simp only [List.map_cons, List.nodup_cons, List.mem_cons, not_or] at n
    rcases h1 with h1 | h1 <;> rcases h2 with h2 | h2 <;> rcases h3 with h3 | h3 <;> dsimp only at h1 h2 h3 <;> subst h1 h2 h3 <;> simp at n
section
variable {H H' : Hp} {ks : List NestedKey} {zs : List V}
theorem MKeysAt.tp' (t : Tup H H') (h : MKeysAt H ks zs) : MKeysAt H' ks zs := MKeysAt.tupd t h
/-- the texts among points -/
theorem words_zip : ∀ {ks : List NestedKey} {zs : List V}, MKeysAt H ks zs → ((zs.zip ks).filter fun p => isTx p.2).map (·.1) = (wordsF ks).map V.str
  | _, _, .nil => rfl
  | k :: ks, v :: zs, .cons r t => by
    rw [List.zip_cons_cons]
    have ih := words_zip t
    cases r with
    | text z =>
      rw [List.filter_cons_of_pos (by rfl), List.map_cons, ih]
      rfl
    | non => rw [List.filter_cons_of_neg (by exact Bool.false_ne_true), ih]; rfl
    | num i => rw [List.filter_cons_of_neg (by exact Bool.false_ne_true), ih]; rfl
    | tup e rr => rw [List.filter_cons_of_neg (by exact Bool.false_ne_true), ih]; rfl
def cellsF (ks : List NestedKey) : List NestedKey := ks.filter fun k => !isTx k
/-- the cells among points -/
theorem cells_zip : ∀ {ks : List NestedKey} {zs : List V}, (∀ k ∈ ks, k ∈ PTS) → MKeysAt H ks zs → ∃ cs : List (Addr × List L2.Key), ((zs.zip ks).filter fun p => !isTx p.2).map (·.1) = cs.map (fun p => V.ref p.1) ∧
    (∀ p ∈ cs, H p.1 = some (.tup (p.2.map kV))) ∧ (∀ p ∈ cs, p.2 = keyA ∨ p.2 = keyB) ∧ cs.map (fun p => kOf p.2) = cellsF ks
  | _, _, _, .nil => ⟨[], rfl, fun _ h => (nomatch h), fun _ h => (nomatch h), rfl⟩
  | k :: ks, v :: zs, hp, .cons r t => by
    obtain ⟨cs, e1, e2, e3, e4⟩ := cells_zip (fun j hj => hp j (List.mem_cons_of_mem _ hj)) t
    rw [List.zip_cons_cons]
    rcases pt_shape (hp k List.mem_cons_self) with ⟨z, rfl⟩ | hc
    · refine ⟨cs, ?_, e2, e3, ?_⟩
      · rw [List.filter_cons_of_neg (by exact Bool.false_ne_true), e1]
      · rw [e4]
        unfold cellsF
        rw [List.filter_cons_of_neg (by exact Bool.false_ne_true)]
    · have : ∃ b key, v = .ref b ∧ H b = some (.tup (key.map kV)) ∧ (key = keyA ∨ key = keyB) ∧ kOf key = k ∧ isTx k = false := by
        rcases hc with rfl | rfl
        all_goals
          obtain ⟨b, us, rfl, eb, rr⟩ := mtup r
          cases rr with
          | cons r1 r2 => cases r2 with
            | cons r3 r4 => cases r4 with
              | cons r5 r6 =>
                cases r6
                cases mtext r1
                cases mtext r3
                cases mnum r5
                first
                  | exact ⟨b, keyA, rfl, eb, .inl rfl, rfl, rfl⟩
                  | exact ⟨b, keyB, rfl, eb, .inr rfl, rfl, rfl⟩
      obtain ⟨b, key, rfl, eb, hk, ek, ht⟩ := this
      refine ⟨(b, key) :: cs, ?_, fun p hp => ?_, fun p hp => ?_, ?_⟩
      · rw [List.filter_cons_of_pos (by show (!isTx k) = true; rw [ht]; rfl), List.map_cons, e1]
        rfl
      · rcases List.mem_cons.mp hp with rfl | hp
        · exact eb
        · exact e2 p hp
      · rcases List.mem_cons.mp hp with rfl | hp
        · exact hk
        · exact e3 p hp
      · rw [List.map_cons, e4]
        unfold cellsF
        rw [List.filter_cons_of_pos (by rw [ht]; rfl), ek]
end
theorem kOf_A : kOf keyA = cA := rfl
theorem kOf_B : kOf keyB = cB := rfl
theorem alike_cells {cs : List (Addr × List L2.Key)} (h : ∀ p ∈ cs, p.2 = keyA ∨ p.2 = keyB) : PySem.W.AllAlike (cs.map tupD) := fun d hd d' hd' => by
  obtain ⟨p, hp, rfl⟩ := List.mem_map.mp hd
  obtain ⟨q, hq, rfl⟩ := List.mem_map.mp hd'
  unfold tupD
  rcases h p hp with e | e <;> rcases h q hq with e2 | e2 <;> rw [e, e2] <;> decide +kernel
theorem sortable_cells {cs : List (Addr × List L2.Key)} (h : ∀ p ∈ cs, p.2 = keyA ∨ p.2 = keyB) : PySem.W.Sortable (cs.map tupD) := .inl fun d hd => by
  obtain ⟨p, hp, rfl⟩ := List.mem_map.mp hd
  unfold tupD
  rcases h p hp with e | e <;> rw [e] <;> exact ⟨_, _, rfl⟩
theorem once_cells {cs : List (Addr × List L2.Key)} (h : ∀ p ∈ cs, p.2 = keyA ∨ p.2 = keyB) : (once (cs.map (·.2))).length ≤ 3 := by
  have := short_of_subset (once (cs.map (·.2))) [keyA, keyB] (nd_once' _) fun x hx => by
    obtain ⟨p, hp, rfl⟩ := List.mem_map.mp (mem_once'.mp hx)
    rcases h p hp with e | e <;> simp [e]
  have e : [keyA, keyB].length = 2 := rfl
  omega
/-- the cells that are told, in order -/
theorem cells_told {H : Hp} {ks : List NestedKey} {cs M : List (Addr × List L2.Key)} (e2 : ∀ p ∈ cs, H p.1 = some (.tup (p.2.map kV))) (e3 : ∀ p ∈ cs, p.2 = keyA ∨ p.2 = keyB) (e4 : cs.map (fun p => kOf p.2) = cellsF ks)
    (hM : ∀ q ∈ M, q ∈ cs) (pm : (M.map (·.2)).Perm (once (cs.map (·.2)))) : MKeysAt H ([cA, cB].filter fun c => decide (c ∈ ks)) ((M.mergeSort (PySem.W.dataLe false tupD)).map fun q => V.ref q.1) := by
  have so := cells_sorted (fun p hp => e3 p (hM p hp)) (pm.nodup_iff.mpr (nd_once' _))
  have mem : ∀ key, key ∈ M.map (·.2) ↔ key ∈ cs.map (·.2) := fun key => by rw [pm.mem_iff, mem_once']
  have mem0 : ∀ key, (M.any fun p => decide (p.2 = key)) = true ↔ key ∈ M.map (·.2) := fun key => by
    rw [List.any_eq_true, List.mem_map]
    exact ⟨fun ⟨p, hp, e⟩ => ⟨p, hp, of_decide_eq_true e⟩, fun ⟨p, hp, e⟩ => ⟨p, hp, decide_eq_true e⟩⟩
  have mem2 : ∀ key, (key = keyA ∨ key = keyB) → (key ∈ M.map (·.2) ↔ kOf key ∈ ks) := fun key hk => by
    rw [mem]
    have : kOf key ∈ cellsF ks ↔ kOf key ∈ ks := by
      unfold cellsF
      rw [List.mem_filter]
      refine ⟨fun h => h.1, fun h => ⟨h, ?_⟩⟩
      rcases hk with rfl | rfl <;> rfl
    rw [← this, ← e4]
    constructor
    · intro h
      obtain ⟨p, hp, e⟩ := List.mem_map.mp h
      exact List.mem_map.mpr ⟨p, hp, by rw [e]⟩
    · intro h
      obtain ⟨p, hp, e⟩ := List.mem_map.mp h
      refine List.mem_map.mpr ⟨p, hp, ?_⟩
      rcases e3 p hp with a | a <;> rcases hk with b | b <;> rw [a, b] <;> rw [a, b] at e <;> revert e <;> decide
  have e : [cA, cB].filter (fun c => decide (c ∈ ks)) = ((M.mergeSort (PySem.W.dataLe false tupD)).map (·.2)).map kOf := by
    rw [so]
    have a := mem2 keyA (.inl rfl)
    have b := mem2 keyB (.inr rfl)
    rw [kOf_A] at a
    rw [kOf_B] at b
    rw [← mem0] at a b
    simp only [List.filter_cons, List.filter_nil, decide_eq_true_eq]
    by_cases ha : cA ∈ ks <;> by_cases hb : cB ∈ ks <;> simp only [a, b, ha, hb, if_true, if_false] <;> rfl
  rw [e]
  have all : ∀ N : List (Addr × List L2.Key), (∀ q ∈ N, q ∈ cs) → MKeysAt H ((N.map (·.2)).map kOf) (N.map fun q => V.ref q.1) := fun N => by
    induction N with
    | nil => exact fun _ => .nil
    | cons q N ih =>
      intro h
      have hq := h q List.mem_cons_self
      refine .cons ?_ (ih fun p hp => h p (List.mem_cons_of_mem _ hp))
      have at_ := e2 q hq
      show MKeyAt H (kOf q.2) (.ref q.1)
      rcases e3 q hq with a | a
      · rw [a] at at_ ⊢
        exact .tup at_ (.cons (.text _) (.cons (.text _) (.cons (.num _) .nil)))
      · rw [a] at at_ ⊢
        exact .tup at_ (.cons (.text _) (.cons (.text _) (.cons (.num _) .nil)))
  exact all _ fun q hq => hM q ((List.mergeSort_perm _ _).mem_iff.mp hq)
theorem flat_take {ds : List Dif} {i : Nat} {d : Dif} (h : ds[i]? = some d) : flat (ds.take (i + 1)) = flat (ds.take i) ++ [d.1, d.2.1] := by
  unfold flat
  rw [List.take_add_one, h, List.flatMap_append]
  rfl
theorem flat_len (ds : List Dif) : (flat ds).length = 2 * ds.length := by
  unfold flat
  induction ds with
  | nil => rfl
  | cons d ds ih => rw [List.flatMap_cons, List.length_append, ih, List.length_cons]; simp; omega
theorem words_keys {H : Hp} : ∀ zs : List Str, MKeysAt H (zs.map NestedKey.text) (zs.map V.str)
  | [] => .nil
  | z :: zs => .cons (.text z) (words_keys zs)
abbrev nPo : List Str := ["differences", "points", "words", "one", "other", "most", "point"]
theorem scPo : FnScope nPo ["differences"] (defScope sPo) := ⟨rfl, rfl, rfl, by decide +kernel, rfl, by decide +kernel, by decide +kernel⟩
def spPo : Sp := fun vs H Q _ => ∃ v ds, vs = [v] ∧ Ds H v ds ∧ OkDs ds ∧ ∀ (p : Addr) (ys : List V) (H' : Hp), Same H H' → H p = none → H' p = some (.lst ys) → MKeysAt H' (pointsOf ds) ys → Q (.ref p) H'
section
variable {P : Program} {w : World} {K : PySem.W.Frag} {mg : Str → Option Value} {base : Heap}
theorem ok_po {f : Addr} {fd : FuncData} (F : Fun K "points_of" "points_of" sPo f fd) (B : Free mg) (mS : mg "sorted" = none) : FnOk P w K mg base CX0 1 f fd ["differences"] spPo := by
  refine F.ok scPo (fun vs H Q E h => ?_) (fun cdv A outer s H vs Q E hr h => ?_)
  · obtain ⟨v, ds, rfl, _⟩ := h
    rfl
  obtain ⟨v, ds, rfl, hd, ok, q⟩ := h
  have hu := hu_of hr
  refine ⟨_, pss_cons (ps_setLc2 (i := 1) (own := [("one", 3), ("other", 4), ("most", 5), ("point", 6)]) (vs1 := [6]) (g := gTup K 3 (gCons (gName 3) (gCons (gName 4) (gCons (gName 5) gNil)))) (g1 := gName 6) (tt := tYes) (tt1 := tYes) (wi1 := iTup K (tTup (tCons (tVar 3) (tCons (tVar 4) tNil)))) (te := tVar 6) rfl scPo.nd rfl rfl (sw_true rfl rfl rfl (by decide +kernel)) (pi_tup (pv 0)) (blkOk_by (N := nPo) (sc := defScope sPo) (by decide +kernel)) (by decide)
      (fun _ _ _ _ _ => pg_tup rfl (pgs_cons (pg_name (i := 3) scPo.nd rfl (Or.inl rfl) (Or.inr rfl)) (pgs_cons (pg_name (i := 4) scPo.nd rfl (Or.inl rfl) (Or.inr rfl)) (pgs_cons (pg_name (i := 5) scPo.nd rfl (Or.inl rfl) (Or.inr rfl)) pgs_nil)))) (fun _ _ _ _ _ => pts_nil) (fun _ _ _ _ _ => pi_tup (pe_tup (pa_cons (pv 3) (pa_cons (pv 4) pa_nil))))
      (fun _ _ _ _ _ => pg_name (i := 6) scPo.nd rfl (Or.inl rfl) (Or.inr rfl)) (fun _ _ _ _ _ => pts_nil) (fun _ _ _ _ _ => pv 6)) <|
    pss_cons (ps_set (i := 2) scPo.nd rfl (.inl rfl) (pe_sortSet (by rfl) mS (by rfl) B.set (pe_op op_cat (pe_lc (own := [("point", 6)]) (g := gName 6) (te := tVar 6) rfl scPo.nd (pi_list (pv 1)) (blkOk_by (N := nPo) (sc := defScope sPo) (by decide +kernel))
        (fun _ _ _ _ _ => pg_name (i := 6) scPo.nd rfl (Or.inl rfl) (Or.inr rfl)) (fun _ _ _ _ _ => pts_one (pt_val (pe_callB (id := "isinstance") (r := rIsi K) call_isi (by rfl) (Free.isinstance B) (by decide +kernel) (pa_cons (pv 6) (pa_cons (pe_bltn (v := .ty "str") (by rfl) (Free.str B) (by decide +kernel) rfl) pa_nil))))) (fun _ _ _ _ _ => pv 6)) (pe_lst (pa_cons pe_str pa_nil))))) <|
    pss_one (ps_ret (pe_op op_cat (pv 2) (pe_sortTups (u96 hr) (by rfl) mS (by rfl) B.set (pe_lc (own := [("point", 6)]) (g := gName 6) (te := tVar 6) rfl scPo.nd (pi_list (pv 1)) (blkOk_by (N := nPo) (sc := defScope sPo) (by decide +kernel))
        (fun _ _ _ _ _ => pg_name (i := 6) scPo.nd rfl (Or.inl rfl) (Or.inr rfl)) (fun _ _ _ _ _ => pts_one (pt_val (pe_callB (id := "isinstance") (r := rIsi K) call_isi (by rfl) (Free.isinstance B) (by decide +kernel) (pa_cons (pv 6) (pa_cons (pe_bltn (v := .ty "tuple") (by rfl) (Free.tuple B) (by decide +kernel) rfl) pa_nil))))) (fun _ _ _ _ _ => pv 6))))), ?_⟩
  obtain ⟨a, us, rfl, ea, lu, rows⟩ := Ds.row hd
  have few := ok.few
  refine ⟨.ref a, rfl, a, rfl, ⟨_, SqT.of ea⟩, fun D nD => ?_⟩
  refine lc2_out (steady_t K a us) (fun i H' => Same H H' ∧ ∃ zs, H' D = some (.lst zs) ∧ MKeysAt H' (flat (ds.take i)) zs) (fun j H' _ hP => SqT.of (hP.1 _ _ ea)) ⟨same_upd nD, [], upd_same, .nil⟩ (fun i x H1 hi hP => ?_) (fun H1 hP => ?_)
  · obtain ⟨s1, zs, d1, k1⟩ := hP
    obtain ⟨d, t, p1, p2, hdi, rfl, et, m1, m2⟩ := rows i x hi
    have ln := MKeysAt.len k1
    have l1 : (flat (ds.take i)).length ≤ 18 := by rw [flat_len, List.length_take]; omega
    refine ⟨t, _, rfl, SqT.of (s1 _ _ et), rfl, _, _, rfl, _, _, rfl, _, _, rfl, rfl, rfl, _, rfl, _, rfl, ?_⟩
    refine ⟨le_line (by simp), fun p np => ⟨p, rfl, ⟨_, SqT.of upd_same⟩, ?_⟩⟩
    have s2 := same_upd (p := p) (o := .tup [p1, p2]) np
    have ep : (upd H1 p (.tup [p1, p2])) p = some (.tup [p1, p2]) := upd_same
    have pD : p ≠ D := fun y => by rw [y, d1] at np; cases np
    have m1' := MKeyAt.same (s1.trans s2) m1
    have m2' := MKeyAt.same (s1.trans s2) m2
    have d2 := s2 _ _ d1
    have k2 := MKeysAt.tp' (Same.tp s2) k1
    have s12 := s1.trans s2
    generalize upd H1 p (.tup [p1, p2]) = H2 at s2 ep m1' m2' d2 k2 s12 ⊢
    refine lc2_in (steady_t K p [p1, p2]) (fun j H' => Same H H' ∧ Tup H2 H' ∧ ∃ ys, H' D = some (.lst ys) ∧ MKeysAt H' (flat (ds.take i) ++ [d.1, d.2.1].take j) ys) (fun j H' _ hQ => SqT.of (hQ.2.1 _ _ ep)) ⟨s12, fun _ _ e => e, zs, d2, by rw [List.take_zero, List.append_nil]; exact k2⟩ (fun j y H3 hj hQ => ?_) (fun H3 hQ => ?_)
    · obtain ⟨s3, t3, ys, d3, k3⟩ := hQ
      have hj2 : j < 2 := (List.getElem?_eq_some_iff.mp hj).1
      have : ∃ k, [d.1, d.2.1][j]? = some k ∧ MKeyAt H2 k y := by
        match j, hj2, hj with
        | 0, _, hj => cases hj; exact ⟨_, rfl, m1'⟩
        | 1, _, hj => cases hj; exact ⟨_, rfl, m2'⟩
      obtain ⟨k, hk, mk⟩ := this
      have l3 := MKeysAt.len k3
      have l4 : ([d.1, d.2.1].take j).length ≤ 2 := by rw [List.length_take]; exact Nat.le_trans (Nat.min_le_right _ _) (Nat.le_refl _)
      have t4 : Tup H3 (upd H3 D (.lst (ys ++ [y]))) := tup_upd fun zs e => by rw [d3] at e; cases e
      refine ⟨rfl, _, rfl, _, d3, ?_, fun b o e => ?_, t3.trans t4, _, upd_same, ?_⟩
      · rw [l3, List.length_append, sizeLine_eq]
        omega
      · rw [upd_ne (ne_of_none e nD)]
        exact s3 _ _ e
      · rw [List.take_add_one, hk, ← List.append_assoc]
        exact (MKeysAt.tp' t4 k3).snoc (MKeyAt.tupd (t3.trans t4) mk)
    · obtain ⟨s3, t3, ys, d3, k3⟩ := hQ
      exact ⟨s3, ys, d3, by rw [flat_take hdi]; exact k3⟩
  obtain ⟨s1, zs, d1, k1⟩ := hP
  rw [lu, List.take_length] at k1
  have lz := MKeysAt.len k1
  have lf := flat_len ds
  have fpt : ∀ k ∈ flat ds, k ∈ PTS := fun k hk => flat_pt ok hk
  have lzip : (zs.zip (flat ds)).length = zs.length := by rw [List.length_zip]; omega
  show gName 1 (V.ref D) _ _ _
  refine ⟨.ref D, rfl, D, rfl, ⟨_, SqL.of d1⟩, fun D2 n2 => ?_⟩
  refine lcF (zs.zip (flat ds)) (fun p => isTx p.2) (fun p => p.1) (steady_l K D zs) (fun H' s => SqL.of (s _ _ d1)) n2 lzip.symm (by omega) (fun i x l H' QY QN hx hl s ky kn => ?_) (fun H2 s2 e2 => ?_)
  · obtain ⟨hx1, hx2⟩ := List.getElem?_zip_eq_some.mp hl
    rw [hx] at hx1
    cases hx1
    obtain ⟨y, hy, m⟩ := MKeysAt.at_ k1 hx2
    rw [hx] at hy
    cases hy
    have m' := MKeyAt.same s m
    rcases pt_shape (fpt _ (List.mem_of_getElem? hx2)) with ⟨z, e⟩ | hc
    · have ex : l.1 = .str z := by rw [e] at m; exact mtext m
      refine ⟨rfl, l.1, rfl, l.1, .ty "str", _, _, true, rfl, .ty _, by rw [ex]; exact .base (.str z), kit_ty (by decide +kernel), true, rfl, ?_⟩
      exact ⟨_, rfl, ky (by rw [e]; rfl) H' (Same.refl _)⟩
    · have ex : ∃ b us, l.1 = .ref b ∧ H' b = some (.tup us) := by
        rcases hc with e | e
        all_goals
          rw [e] at m'
          obtain ⟨b, us, e1, e2, _⟩ := mtup m'
          exact ⟨b, us, e1, e2⟩
      obtain ⟨b, us, eb, eu⟩ := ex
      refine ⟨rfl, l.1, rfl, l.1, .ty "str", _, _, false, rfl, .ty _, by rw [eb]; exact .base (.tup eu), kit_ty (by decide +kernel), false, rfl, ?_⟩
      exact kn (by rcases hc with e | e <;> rw [e] <;> rfl) H' (Same.refl _)
  rw [words_zip k1] at e2
  refine ⟨le_line (by simp), fun D3 n3 => ?_⟩
  have s3 := same_upd (p := D3) (o := .lst [V.str ""]) n3
  have lw : (wordsF (flat ds)).length ≤ 18 := by
    have := congrArg List.length (words_zip k1)
    rw [List.length_map, List.length_map] at this
    have l2 := List.length_filter_le (fun p : V × NestedKey => isTx p.2) (zs.zip (flat ds))
    omega
  refine ⟨D2, D3, _, _, rfl, rfl, s3 _ _ e2, upd_same, by rw [List.length_map, sizeLine_eq]; simp; omega, fun D4 n4 => ?_⟩
  have s4 := same_upd (p := D4) (o := .lst ((wordsF (flat ds)).map V.str ++ [V.str ""])) n4
  have e4 : (upd (upd H2 D3 (.lst [V.str ""])) D4 (.lst ((wordsF (flat ds)).map V.str ++ [V.str ""]))) D4 = some (.lst ((wordsF (flat ds) ++ [("" : Str)]).map V.str)) := by
    rw [upd_same, List.map_append]
    rfl
  have s14 := s2.trans (s3.trans s4)
  generalize upd (upd H2 D3 (.lst [V.str ""])) D4 (.lst ((wordsF (flat ds)).map V.str ++ [V.str ""])) = H4 at e4 s14 ⊢
  have lo := once_le (wordsF (flat ds) ++ [("" : Str)])
  rw [List.length_append] at lo
  refine ⟨D4, wordsF (flat ds) ++ [("" : Str)], rfl, SqL.of e4, by rw [List.length_append]; simp; omega, by simp at lo; omega, fun ys p pm so np => ?_⟩
  have ey := srt_of pm so
  subst ey
  have s5 := same_upd (p := p) (o := .lst ((srt (once (wordsF (flat ds) ++ [("" : Str)]))).map V.str)) np
  have e5 : (upd H4 p (.lst ((srt (once (wordsF (flat ds) ++ [("" : Str)]))).map V.str))) p = some (.lst ((srt (once (wordsF (flat ds) ++ [("" : Str)]))).map V.str)) := upd_same
  have s15 := s14.trans s5
  generalize upd H4 p (.lst ((srt (once (wordsF (flat ds) ++ [("" : Str)]))).map V.str)) = H5 at e5 s5 s15 ⊢
  refine ⟨.ref p, rfl, .ref D, rfl, D, rfl, ⟨_, SqL.of (s15 _ _ d1)⟩, fun D5 n5 => ?_⟩
  have k5 := MKeysAt.tp' (Same.tp s15) k1
  obtain ⟨cs, f1, f2, f3, f4⟩ := cells_zip fpt k5
  refine lcF (zs.zip (flat ds)) (fun p => !isTx p.2) (fun p => p.1) (steady_l K D zs) (fun H' s => SqL.of (s _ _ (s15 _ _ d1))) n5 lzip.symm (by omega) (fun i x l H' QY QN hx hl s ky kn => ?_) (fun H6 s6 e6 => ?_)
  · obtain ⟨hx1, hx2⟩ := List.getElem?_zip_eq_some.mp hl
    rw [hx] at hx1
    cases hx1
    obtain ⟨y, hy, m⟩ := MKeysAt.at_ k5 hx2
    rw [hx] at hy
    cases hy
    have m' := MKeyAt.same s m
    rcases pt_shape (fpt _ (List.mem_of_getElem? hx2)) with ⟨z, e⟩ | hc
    · have ex : l.1 = .str z := by rw [e] at m; exact mtext m
      refine ⟨rfl, l.1, rfl, l.1, .ty "tuple", _, _, false, rfl, .ty _, by rw [ex]; exact .base (.str z), kit_ty kit_st, false, rfl, ?_⟩
      exact kn (by rw [e]; rfl) H' (Same.refl _)
    · have ex : ∃ b us, l.1 = .ref b ∧ H' b = some (.tup us) := by
        rcases hc with e | e
        all_goals
          rw [e] at m'
          obtain ⟨b, us, e1, e2, _⟩ := mtup m'
          exact ⟨b, us, e1, e2⟩
      obtain ⟨b, us, eb, eu⟩ := ex
      refine ⟨rfl, l.1, rfl, l.1, .ty "tuple", _, _, true, rfl, .ty _, by rw [eb]; exact .base (.tup eu), kit_ty kit_tt, true, rfl, ?_⟩
      exact ⟨_, rfl, ky (by rcases hc with e | e <;> rw [e] <;> rfl) H' (Same.refl _)⟩
  rw [f1] at e6
  have f2' : ∀ p ∈ cs, H6 p.1 = some (.tup (p.2.map kV)) := fun p hp => s6 _ _ (f2 p hp)
  refine ⟨D5, cs, rfl, SqL.of e6, once_cells f3, fun p hp => SqT.of (f2' p hp), alike_cells f3, sortable_cells f3, fun M p2 hM pm2 np2 => ?_⟩
  have s7 := same_upd (p := p2) (o := .lst ((M.mergeSort (PySem.W.dataLe false tupD)).map fun q => V.ref q.1)) np2
  have lM : M.length ≤ 3 := by
    have := pm2.length_eq
    rw [List.length_map] at this
    rw [this]
    exact once_cells f3
  have lsr := srt_len (once (wordsF (flat ds) ++ [("" : Str)]))
  simp only [List.length_append, List.length_cons, List.length_nil] at lo
  refine ⟨p, p2, _, _, rfl, rfl, s7 _ _ (s6 _ _ e5), upd_same, ?_, fun R nR => ?_⟩
  · rw [List.length_map, List.length_map, List.length_mergeSort, sizeLine_eq]
    omega
  have s8 := same_upd (p := R) (o := .lst ((srt (once (wordsF (flat ds) ++ [("" : Str)]))).map V.str ++ (M.mergeSort (PySem.W.dataLe false tupD)).map fun q => V.ref q.1)) nR
  have sAll := s1.trans (s15.trans (s6.trans (s7.trans s8)))
  refine q R _ _ sAll ?_ upd_same ?_
  · cases e : H R with
    | none => rfl
    | some o =>
      have := (s1.trans (s15.trans (s6.trans s7))) _ _ e
      rw [this] at nR
      cases nR
  · unfold pointsOf
    refine MKeysAt.app (words_keys _) ?_
    exact MKeysAt.tp' (Same.tp (s7.trans s8)) (cells_told f2' f3 f4 hM pm2)
end
end K11
end
section
set_option autoImplicit false
set_option maxRecDepth 100000
set_option maxHeartbeats 4000000
/-! enumerate of a tuple -/
namespace PySem
open Sem (wp)
open AutoSeq1 (wpAny_loadPart')
theorem meets_enumerate_newA (l : Addr) (items : Array Value) (n : Nat) (dct : Option Addr) (sl : Array (Option Value)) :
    Meets (Builtin.«enumerate.__new__» ⟨[.type "enumerate", .ref l], []⟩) (fun _ R s => s.heap.get? l = some { cls := .type "tuple", dict := dct, data := .seq items n, slots := sl } ∧
      R (.ok (.ret (.ref (s.heap.push { cls := .type "tuple_iterator", data := .fields #[.ref l, .int 0 0] }).objs.size)))
        { s with heap := (s.heap.push { cls := .type "tuple_iterator", data := .fields #[.ref l, .int 0 0] }).push { cls := .type "enumerate", data := .fields #[.none, .bool false, .ref s.heap.objs.size, rawInt 0, .none, .none] } }) :=
  .of_wp fun prog w A R s h => by
    obtain ⟨hp, g, d, tk, os⟩ := s; obtain ⟨hl, h⟩ := h
    have hsub := sub_enumerate
    have hL : Heap.IsTuple (Shared.heap ⟨hp, g, d, tk, os⟩) l items := ⟨_, hl, rfl, n, rfl⟩
    wp_walk using wpAny_loadPart' hl
    refine wpAny_stack_any fun st => wpAny_pure ?_
    split
    · rename_i c _ _ _ _ _
      cases (c == Value.type "enumerate")
      · wp_walk using wpAny_loadPart' hl, wpAny_pyIter_tuple hL
        exact ⟨_, rfl, h⟩
      · wp_walk using wpAny_loadPart' hl, wpAny_pyIter_tuple hL
        exact ⟨_, rfl, h⟩
    · wp_walk using wpAny_loadPart' hl, wpAny_pyIter_tuple hL
      exact ⟨_, rfl, h⟩
section
variable {prog : Program} {w : World} {A : Around} {E : Value → Shared → Prop} {s : Shared}
theorem call_enumerate_tupleA {l : Addr} {items : Array Value} {Q : Value → Shared → Prop} (hL : s.heap.IsTuple l items)
    (h : ∀ h', IsEnum h' (s.heap.objs.size + 1) s.heap.objs.size 0 .none → h'.IsTupleIter s.heap.objs.size l 0 → h'.objs.size = s.heap.objs.size + 2 →
      (∀ b o, s.heap.get? b = some o → h'.get? b = some o) → Q (.ref (s.heap.objs.size + 1)) { s with heap := h' }) :
    wpAny (model prog w) A (call (.type "enumerate") [.ref l]) Q E s := by
  obtain ⟨⟨c, dct, dt, sl⟩, hl, hc, n, hd⟩ := hL
  replace hc : c = .type "tuple" := hc
  replace hd : dt = .seq items n := hd
  subst hc hd
  refine callType_new F.called_enumerate (by decide) (F.typeCall_enumerate_1 _) (F.newCall_enumerate_1 _) (fun obj => F.args_object_init_2 obj _) F.entry_enumerate_new
    (meets_enumerate_newA l items n dct sl) ⟨hl, ?_⟩
  have hz : (s.heap.push { cls := .type "tuple_iterator", data := .fields #[.ref l, .int 0 0] }).objs.size = s.heap.objs.size + 1 := Heap.size_push ..
  show _ ∧ _
  rw [hz]
  have he : IsEnum ((s.heap.push { cls := .type "tuple_iterator", data := .fields #[.ref l, .int 0 0] }).push
      { cls := .type "enumerate", data := .fields #[.none, .bool false, .ref s.heap.objs.size, rawInt 0, .none, .none] }) (s.heap.objs.size + 1) s.heap.objs.size 0 .none := by
    have := Heap.get?_push_size (s.heap.push { cls := .type "tuple_iterator", data := .fields #[.ref l, .int 0 0] })
      (o := { cls := .type "enumerate", data := .fields #[.none, .bool false, .ref s.heap.objs.size, rawInt 0, .none, .none] }) rfl
    rw [hz] at this; exact this
  refine ⟨⟨_, he, rfl⟩, h _ he ⟨_, Heap.get?_push_of_some _ (Heap.get?_push_size _ rfl), rfl, rfl⟩ (by rw [Heap.size_push, hz]) fun b o x => Heap.get?_push_of_some _ (Heap.get?_push_of_some _ x)⟩
end
end PySem
namespace KX
open PySem PySem.Spec PyProof.Rows L2
/-- enumerate(tuple): each item with its number, in new pairs -/
def Iea (K : PySem.W.Frag) (a : Addr) : It :=
  ⟨fun i H => ∃ (xs : List V) (x : V), SqT K H a xs ∧ xs[i]? = some x, fun i H v H' => ∃ T x, v = .ref T ∧ H T = none ∧ H' = upd H T (.tup [.int (i : Nat), x]) ∧ ∀ xs, SqT K H a xs → xs[i]? = some x, fun i H => ∃ xs : List V, SqT K H a xs ∧ xs.length = i⟩
theorem turn_enumA {P : Program} {w : World} {K : PySem.W.Frag} {elts : List Expr} {kk : Nat} {tpos : Pos} (a e it : Addr) :
    Turn P w K (.Tuple elts kk tpos) (Iea K a) [e, it] e (fun i h => (∃ old, IsEnum h e it ((i : Nat) : Int) old) ∧ h.IsTupleIter it a i ∧ e ≠ it) where
  mem := by simp
  obj := fun i h st b hb => by
    obtain ⟨⟨old, he⟩, ⟨o, ho, hc, hd⟩, _⟩ := st
    have e' : b = e ∨ b = it := by simpa using hb
    rcases e' with z | z
    · rw [z]; exact ⟨_, he, fun v q => nomatch q⟩
    · rw [z]; exact ⟨o, ho, fun v q => by rw [hd] at q; cases q⟩
  keep := fun i h h' st k => let ⟨⟨old, he⟩, hi, hne⟩ := st; ⟨⟨old, k e (by simp) _ he⟩, hi.at fun o q => k it (by simp) o q, hne⟩
  item := by
    intro X hP hw hK hc i pins s σ H E I hf st hg
    subst hP hw hK
    obtain ⟨⟨old, he⟩, hit, hne⟩ := st
    obtain ⟨xs, x, hq, hx⟩ := hg
    obtain ⟨its, rv, p, hz⟩ := I.tuple hq
    obtain ⟨u, hu, ru⟩ := rv.get hx
    have hh : X.A.in1.handled = none := I.ok.hd hc
    obtain ⟨oa, hoa, hca, n, hda⟩ := id p
    have ea : a ≠ e := fun z => by
      have he' : s.heap.get? e = some _ := he
      rw [← z, hoa] at he'
      injection he' with he'
      rw [he'] at hca
      have hca : Value.type "enumerate" = Value.type "tuple" := hca
      injection hca with hca
      exact absurd hca (by decide)
    have ia : a ≠ it := fun z => by
      obtain ⟨oi, hoi, hci, hdi⟩ := id hit
      rw [← z, hoa] at hoi
      cases hoi
      rw [hda] at hdi
      cases hdi
    have D : Draws X.prog X.w X.A.in1 it [it, a] its.toArray.size (fun i v => its.toArray[i]? = some v) (fun i h => h.IsTupleIter it a i ∧ h.IsTuple a its.toArray) := Draws.tuple hh it a ia its.toArray
    have hlt : i < its.toArray.size := by
      have := (List.getElem?_eq_some_iff.mp hu).1
      simpa using this
    have hel : e < s.heap.objs.size := Heap.lt_size he
    have hil : it < s.heap.objs.size := by obtain ⟨_, q, _⟩ := hit; exact Heap.lt_size q
    refine wpAny_pyNext_enum_itemD D he ⟨hit, ⟨oa, hoa, hca, n, hda⟩⟩ hlt hne (by simp [hne, Ne.symm ea]) fun y h' tk hy ho hit' hT hsz hk => ?_
    have eu : y = u := by
      have hy : its.toArray[i]? = some y := hy
      have hu2 : its.toArray[i]? = some u := by simpa using hu
      rw [hu2] at hy
      exact (Option.some.inj hy).symm
    subst eu
    refine ⟨_, rfl, wpAny_letOwnedTupleGo_enum (s := { s with heap := h', toks := tk + 1 }) ho fun h'' he' sb => ?_⟩
    have hT2 : h''.get? s.heap.objs.size = some { cls := .type "tuple", data := .seq #[.int i tk, y] } := (sb.2 _ (Nat.ne_of_gt hel)).trans hT
    have new : ObjOk X.prog X.w (upd H s.heap.objs.size (.tup [.int (i : Nat), x])) h'' s.heap.objs.size (.tup [.int (i : Nat), x]) :=
      ⟨by show 2 ≤ sizeLine; decide, [.int i tk, y], .cons ⟨_, rfl⟩ (.cons ru .nil), ⟨_, hT2, rfl, _, rfl⟩⟩
    have I1 : Inv X pins σ (upd H s.heap.objs.size (.tup [.int (i : Nat), x])) { s with heap := h'', toks := tk + 1 } :=
      I.turnedNew (ch := [e, it]) (fun b ob hb q => (sb.2 b (fun z => hb (by simp [z]))).trans (hk b ob (fun z => hb (by simp [z])) (fun z => hb (by simp [z])) q)) hf (Nat.le_refl _) new
    refine ⟨.ref s.heap.objs.size, _, I1, rfl, ⟨_, x, rfl, I.hok.fresh (Nat.le_refl _), rfl, fun ys hy => by rw [I.tuple_inj hy hq]; exact hx⟩, ⟨⟨y, ?_⟩, ?_, hne⟩, fun b hb => ?_⟩
    · have e1 : ((i + 1 : Nat) : Int) = (i : Int) + 1 := by omega
      rw [e1]; exact he'
    · exact hit'.1.at fun o q => (sb.2 it (Ne.symm hne)).trans q
    · have hb' : b < s.heap.objs.size := by
        have e' : b = e ∨ b = it := by simpa using hb
        rcases e' with z | z
        · rw [z]; exact hel
        · rw [z]; exact hil
      rw [upd_ne (Nat.ne_of_lt hb')]
      exact (hf b hb).1
  done := by
    intro X hP hw hK hc i pins s σ H E I hf st hg
    subst hP hw hK
    obtain ⟨⟨old, he⟩, hit, hne⟩ := st
    obtain ⟨xs, hq, hx⟩ := hg
    obtain ⟨its, rv, p, hz⟩ := I.tuple hq
    have hh : X.A.in1.handled = none := I.ok.hd hc
    obtain ⟨oa, hoa, hca, n, hda⟩ := id p
    have ia : a ≠ it := fun z => by
      obtain ⟨oi, hoi, hci, hdi⟩ := id hit
      rw [← z, hoa] at hoi
      cases hoi
      rw [hda] at hdi
      cases hdi
    have D : Draws X.prog X.w X.A.in1 it [it, a] its.toArray.size (fun i v => its.toArray[i]? = some v) (fun i h => h.IsTupleIter it a i ∧ h.IsTuple a its.toArray) := Draws.tuple hh it a ia its.toArray
    obtain ⟨f0, f1, f2, f3, f4, f5⟩ := hf it (by simp)
    have hi : i = its.toArray.size := by
      have := rv.length
      simp
      omega
    subst hi
    exact wpAny_pyNext_enum_endD D he ⟨hit, ⟨oa, hoa, hca, n, hda⟩⟩ fun h' eb => ⟨rfl, I.turned (t' := s.toks) (fun b o hb q => eb b o hb q) f0 f1 f3 f4 f5⟩
  self := fun A i s Q E st h => let ⟨⟨_, he⟩, _⟩ := st; wpAny_pyIter_enum he h
def iEnumA (K : PySem.W.Frag) (ta : TA) : TI := fun σ H R => ta σ H fun vs H1 => ∃ a xs, vs = [.ref a] ∧ SqT K H1 a xs ∧ R (Iea K a) H1
theorem pi_enumA {X : Cx} {e : Expr} {ta : TA} {p pos tpos : Pos} {elts : List Expr} {kk : Nat} (hg : Gl X "enumerate") (hm : X.mg "enumerate" = none) (ha : PA X [e] ta) (hs : starEach [e] X.env = [(false, eval e X.env)] := by rfl) :
    PI X (.Tuple elts kk tpos) (.Call (.Name "enumerate" p) [e] [] pos) (iEnumA X.K ta) := by
  refine ⟨fun pins s σ H R I h => ?_⟩
  refine Call_ (ld_blt I hg hm boot_enumerate (PyProof.Rows.callWith_type1 (thn (ha.run pos pins s σ H _ I h) fun us s1 ⟨vs, H1, I1, r1, q1⟩ => ?_) hs rfl))
  obtain ⟨a, xs, ex, hq, q⟩ := q1
  subst ex
  cases r1 with
  | cons r rr =>
    cases rr
    cases r
    obtain ⟨its, rv, p', hz⟩ := I1.tuple hq
    refine call_enumerate_tupleA p' fun h' he hit hsz hk => wpAny_pyIter_enum he ?_
    have I2 : Inv X pins σ H1 { s1 with heap := h' } := I1.kept (t' := s1.toks) hk
    refine ⟨s1.heap.objs.size + 1, [s1.heap.objs.size + 1, s1.heap.objs.size], _, _, H1, rfl, I2, turn_enumA a (s1.heap.objs.size + 1) s1.heap.objs.size, ⟨⟨.none, he⟩, hit, Nat.succ_ne_self _⟩, fun b hb => ?_, q⟩
    have e' : b = s1.heap.objs.size + 1 ∨ b = s1.heap.objs.size := by simpa using hb
    have hle : s1.heap.objs.size ≤ b := by
      rcases e' with z | z
      · rw [z]; exact Nat.le_add_right _ _
      · rw [z]; exact Nat.le_refl _
    exact I1.fpOk hle (I1.hok.fresh hle)
theorem walk_enumA {K : PySem.W.Frag} {a : Addr} {xs : List V} : Walk (Iea K a) xs.length (fun H => SqT K H a xs) (YPair (fun i => some (.int (i : Nat))) (fun i => xs[i]?)) := by
  refine ⟨fun i _ hi q => ⟨xs, xs[i], q, by simp [hi]⟩, fun _ q => ⟨xs, q, rfl⟩, fun i H v H' _ q y => ?_⟩
  obtain ⟨T, x, h1, h2, h3, h4⟩ := y
  exact ⟨T, .int (i : Nat), x, h1, h2, h3, rfl, h4 xs q⟩
end KX
end
section
set_option autoImplicit false
set_option maxRecDepth 100000
set_option maxHeartbeats 4000000
/-! relax -/
namespace K11
open PySem PySem.Spec PyProof.Rows L2 KX
section
variable {w : World} {H : Hp} {D : Addr} {xs : List MRow} {m : List (NestedKey × V)} {k : NestedKey} {y v : V}
theorem put_tbl (M : MD w H D xs) (r : xs.map (fun r => (r.1, r.2.2)) = m) (hk : MKeyAt H k y) : Tbl w (upd H D (mDict w D (mPut xs k y v))) D (putI m k v) := ⟨_, M.put hk rfl, put_rows r k y v⟩
theorem md_nt (M : MD w H D xs) : ∀ ys, H D ≠ some (.tup ys) := fun ys e => by
  rw [M.at_] at e
  cases e
theorem md_len (r : xs.map (fun r => (r.1, r.2.2)) = m) : xs.length = m.length := by rw [← r, List.length_map]
end
theorem relaxed_snoc {α : Type} [DecidableEq α] (d : Df α) : ∀ (l : List (Df α)) (i : Nat) (s : St α) (o : Option α),
    relaxed i (l ++ [d]) s o = (step (i + l.length) d (relaxed i l s o).1, match low (relaxed i l s o).1.L d with | none => (relaxed i l s o).2 | some _ => some d.1)
  | [], i, s, o => rfl
  | e :: l, i, s, o => by
    rw [List.cons_append]
    unfold relaxed
    rw [relaxed_snoc d l (i + 1)]
    have : i + 1 + l.length = i + (e :: l).length := by rw [List.length_cons]; omega
    rw [this]
/-- the last point that was lowered, as a value -/
def LastAt (H : Hp) : Option NestedKey → V → Prop
  | none, v => v = .non
  | some x, v => MKeyAt H x v
def stOf (mL : List (NestedKey × Int)) (mB : List (NestedKey × Nat)) : St NestedKey := ⟨lookI mL, lookI mB⟩
theorem LastAt.tup {H H' : Hp} {o : Option NestedKey} {v : V} (t : Tup H H') (h : LastAt H o v) : LastAt H' o v := by
  cases o with
  | none => exact h
  | some x => exact MKeyAt.tupd t h
abbrev nRx : List Str := ["differences", "levels", "back", "last", "index", "one", "other", "most"]
theorem scRx : FnScope nRx ["differences", "levels", "back"] (defScope sRx) := ⟨rfl, rfl, rfl, by decide +kernel, rfl, by decide +kernel, by decide +kernel⟩
/-- what stays while levels are lowered -/
structure Rl (H : Hp) (L B : Addr) (mL : List (NestedKey × Int)) (mB : List (NestedKey × Nat)) (n : Nat) (pts : List NestedKey) (w : World) (H' : Hp) (mL' : List (NestedKey × Int)) (mB' : List (NestedKey × Nat)) : Prop where
  gr : Grs [L, B] H H'
  tu : Tup H H'
  tl : TI' w H' L mL'
  tb : TN w H' B mB'
  ll : mL'.length ≤ mL.length + n
  lb : mB'.length ≤ mB.length + n
  ks : (∀ p ∈ pts, p ∈ mL.map (·.1)) → mL'.map (·.1) = mL.map (·.1)
theorem Rl.trans {H H' H2 : Hp} {L B : Addr} {mL mL' mL2 : List (NestedKey × Int)} {mB mB' mB2 : List (NestedKey × Nat)} {n k : Nat} {pts : List NestedKey} {w : World} (h : Rl H L B mL mB n pts w H' mL' mB') (g : Rl H' L B mL' mB' k pts w H2 mL2 mB2) : Rl H L B mL mB (n + k) pts w H2 mL2 mB2 :=
  ⟨h.gr.trans g.gr, h.tu.trans g.tu, g.tl, g.tb, by have := h.ll; have := g.ll; omega, by have := h.lb; have := g.lb; omega, fun hp => by
    have e := h.ks hp
    rw [g.ks (by rw [e]; exact hp), e]⟩
theorem Rl.same {H H' H2 : Hp} {L B : Addr} {mL mL' : List (NestedKey × Int)} {mB mB' : List (NestedKey × Nat)} {n : Nat} {pts : List NestedKey} {w : World} (h : Rl H L B mL mB n pts w H' mL' mB') (s : Same H' H2) : Rl H L B mL mB n pts w H2 mL' mB' :=
  ⟨h.gr.trans (Grs.of s), h.tu.trans (Same.tp s), Tbl.same s h.tl, Tbl.same s h.tb, h.ll, h.lb, h.ks⟩
def spRx (w : World) : Sp := fun vs H Q _ => ∃ (v : V) (L B : Addr) (ds : List Dif) (mL : List (NestedKey × Int)) (mB : List (NestedKey × Nat)), vs = [v, .ref L, .ref B] ∧ Ds H v ds ∧ OkDs ds ∧ TI' w H L mL ∧ TN w H B mB ∧ L ≠ B ∧ mL.length ≤ 1000 ∧ mB.length ≤ 1000 ∧
  ∀ (u : V) (o : Option NestedKey) (mL' : List (NestedKey × Int)) (mB' : List (NestedKey × Nat)) (H' : Hp), Rl H L B mL mB ds.length (flat ds) w H' mL' mB' → relaxed 0 ds (stOf mL mB) none = (stOf mL' mB', o) → LastAt H' o u → Q u H'
theorem pt_imp {X : Cx} {e : Expr} {t u : TT} (h : PT X e t) (i : ∀ σ H k, u σ H k → t σ H k) : PT X e u := ⟨fun pins s σ H Q I q => h.run pins s σ H Q I (i _ _ _ q)⟩
/-- whether a difference lowers its first point -/
def rxT (w : World) : TT := fun σ H k => ∃ (L : Addr) (v1 v2 : V) (mL : List (NestedKey × Int)) (d : Dif), σ[1]? = some (some (.ref L)) ∧ σ[5]? = some (some v1) ∧ σ[6]? = some (some v2) ∧ σ[7]? = some (some (.int d.2.2)) ∧
  TI' w H L mL ∧ MKeyAt H d.1 v1 ∧ MKeyAt H d.2.1 v2 ∧ d.1.depth ≤ 8 ∧ d.2.1.depth ≤ 8 ∧ k (low (lookI mL) d).isSome H
section
variable {P : Program} {w : World} {K : PySem.W.Frag} {mg : Str → Option Value} {base : Heap}
theorem ok_rx {f : Addr} {fd : FuncData} (F : Fun K "relax" "relax" sRx f fd) (mE : mg "enumerate" = none) : FnOk P w K mg base CX0 1 f fd ["differences", "levels", "back"] (spRx w) := by
  refine F.ok scRx (fun vs H Q E h => ?_) (fun cdv A outer s H vs Q E hr h => ?_)
  · obtain ⟨v, L, B, ds, mL, mB, rfl, _⟩ := h
    rfl
  obtain ⟨v, L, B, ds, mL, mB, rfl, hd, ok, tl, tb, nLB, fL, fB, q⟩ := h
  have hu := hr.units
  refine ⟨_, pss_cons (ps_set (i := 3) scRx.nd rfl (.inl rfl) pe_non) <|
    pss_cons (ps_for PassesOwn.never rfl (pi_enumA (by rfl) mE (pa_cons (pv 0) pa_nil)) (pg_tup rfl (pgs_cons (pg_name (i := 4) scRx.nd rfl (Or.inl rfl)) (pgs_cons (pg_tup rfl (pgs_cons (pg_name (i := 5) scRx.nd rfl (Or.inl rfl)) (pgs_cons (pg_name (i := 6) scRx.nd rfl (Or.inl rfl)) (pgs_cons (pg_name (i := 7) scRx.nd rfl (Or.inl rfl)) pgs_nil)))) pgs_nil)))
      (pss_one (ps_if (pt_imp (u := rxT w) (PW.pt (pw_and (pt_cmp (pc_min hu (pv 6) (pv 1))) (pw_and1 (PW.pt (pw_or (pt_cmp (pc_mnotin hu (pv 5) (pv 1))) (pw_or1 (pt_cmpR op_lt (pe_op op_add (pe_mget hu (pv 1) (pv 6) (fun _ _ => rfl)) (pv 7)) (pe_mget hu (pv 1) (pv 5) (fun _ _ => rfl)) (nomark _)))))))) (fun σ H k h => ?_))
        (pss_cons (ps_mput hu (pv 1) (pv 5) (pe_op op_add (pe_mget hu (pv 1) (pv 6) (fun _ _ => rfl)) (pv 7)) rfl) <|
          pss_cons (ps_mput hu (pv 2) (pv 5) (pv 4) rfl) <|
          pss_one (ps_set (i := 3) scRx.nd rfl (.inl rfl) (pv 5))) pss_nil))) <|
    pss_one (ps_ret (pv 3)), ?_⟩
  · obtain ⟨L, v1, v2, mL, d, e1, e5, e6, e7, tl, m1, m2, d1, d2, q⟩ := h
    obtain ⟨xL, ML, rL⟩ := id tl
    have gL : ∀ k, mGet xL k = (lookI mL k).map V.int := fun k => by rw [get_look rL, look_map]
    refine ⟨_, e6, _, e1, L, xL, d.2.1, rfl, ML, m2, d2, _, rfl, ?_⟩
    rw [gL]
    cases h2 : lookI mL d.2.1 with
    | none =>
      have hl : low (lookI mL) d = none := by unfold low; rw [h2]
      rw [hl] at q
      exact q
    | some vb =>
      refine ⟨_, e5, _, e1, L, xL, d.1, rfl, ML, m1, d1, _, rfl, ?_⟩
      rw [gL]
      cases h1 : lookI mL d.1 with
      | none =>
        have hl : low (lookI mL) d = some (vb + d.2.2) := by unfold low; rw [h2]; dsimp only; rw [h1]
        rw [hl] at q
        exact q
      | some va =>
        refine ⟨_, e1, _, e6, L, xL, d.2.1, _, rfl, ML, m2, d2, by rw [gL, h2]; rfl, _, e7, _, _, rfl, rfl, _, e1, _, e5, L, xL, d.1, _, rfl, ML, m1, d1, by rw [gL, h1]; rfl, _, _, rfl, rfl, _, rfl, ?_⟩
        by_cases hlt : vb + d.2.2 < va
        · have hl : low (lookI mL) d = some (vb + d.2.2) := by unfold low; rw [h2]; dsimp only; rw [h1]; dsimp only; rw [if_pos hlt]
          rw [hl] at q
          rw [decide_eq_true hlt]
          exact q
        · have hl : low (lookI mL) d = none := by unfold low; rw [h2]; dsimp only; rw [h1]; dsimp only; rw [if_neg hlt]
          rw [hl] at q
          rw [decide_eq_false hlt]
          exact q
  obtain ⟨a, us, rfl, ea, lu, rows⟩ := Ds.row hd
  have few := ok.few
  refine ⟨.ref a, rfl, a, us, rfl, SqT.of ea, ?_⟩
  refine for_it (walk_enumA (K := K) (a := a) (xs := us)) (fun i σ' H' => ∃ (t4 t5 t6 t7 : Option V) (u : V) (o : Option NestedKey) (mL' : List (NestedKey × Int)) (mB' : List (NestedKey × Nat)), σ' = [some (.ref a), some (.ref L), some (.ref B), some u, t4, t5, t6, t7] ∧
      Rl H L B mL mB i (flat ds) w H' mL' mB' ∧ relaxed 0 (ds.take i) (stOf mL mB) none = (stOf mL' mB', o) ∧ LastAt H' o u)
    ⟨none, none, none, none, .non, none, mL, mB, rfl, ⟨Grs.refl, fun _ _ e => e, tl, tb, by omega, by omega, fun _ => rfl⟩, rfl, rfl⟩ (fun i σ' H' _ hP => ?_) (fun i x σ' H2 H3 hi hP hY => ?_) (fun σ' H' hP => ?_)
  · obtain ⟨t4, t5, t6, t7, u, o, mL', mB', _, R, _, _⟩ := hP
    exact SqT.of (R.tu _ _ ea)
  · obtain ⟨t4, t5, t6, t7, u, o, mL', mB', rfl, R, e, la⟩ := hP
    obtain ⟨T, i1, x1, rfl, nT, rfl, e1, e2⟩ := hY
    cases e1
    obtain ⟨d, t, p1, p2, hdi, rfl, et, m1, m2⟩ := rows i x1 e2
    have sT := same_upd (p := T) (o := .tup [.int (i : Nat), .ref t]) nT
    have eT : (upd H2 T (.tup [.int (i : Nat), .ref t])) T = some (.tup [.int (i : Nat), .ref t]) := upd_same
    have R3 := R.same sT
    have la3 := la.tup (Same.tp sT)
    generalize upd H2 T (.tup [.int (i : Nat), .ref t]) = H3 at sT eT R3 la3 ⊢
    have m1' := MKeyAt.tupd R3.tu m1
    have m2' := MKeyAt.tupd R3.tu m2
    have et' := R3.tu _ _ et
    have hmem := List.mem_of_getElem? hdi
    have dp1 := pt_dep (ok.pt d hmem).1
    have dp2 := pt_dep (ok.pt d hmem).2
    have hlt : i < ds.length := (List.getElem?_eq_some_iff.mp hdi).1
    have enx : relaxed 0 (ds.take (i + 1)) (stOf mL mB) none = (step i d (stOf mL' mB'), match low (lookI mL') d with | none => o | some _ => some d.1) := by
      rw [List.take_add_one, hdi]
      show relaxed 0 (ds.take i ++ [d]) _ _ = _
      rw [relaxed_snoc, e, List.length_take, Nat.zero_add, Nat.min_eq_left (by omega)]
      rfl
    obtain ⟨xL, ML, rL⟩ := id R3.tl
    obtain ⟨xB, MB, rB⟩ := id R3.tb
    have gL : ∀ k, mGet xL k = (lookI mL' k).map V.int := fun k => by rw [get_look rL, look_map]
    have lL := md_len rL
    have lB := md_len rB
    rw [List.length_map] at lL lB
    have rll := R3.ll
    have rlb := R3.lb
    refine ⟨T, _, rfl, SqT.of eT, rfl, _, _, rfl, _, _, rfl, t, _, rfl, SqT.of et', rfl, _, _, rfl, _, _, rfl, _, _, rfl, rfl, rfl, ?_⟩
    refine ⟨L, p1, p2, mL', d, rfl, rfl, rfl, rfl, R3.tl, m1', m2', dp1, dp2, ?_⟩
    cases hl : low (lookI mL') d with
    | none =>
      exact ⟨_, _, _, _, u, o, mL', mB', rfl, ⟨R3.gr, R3.tu, R3.tl, R3.tb, by omega, by omega, R3.ks⟩, by rw [enx]; unfold step; rw [show (stOf mL' mB').L = lookI mL' from rfl, hl], la3⟩
    | some z =>
      obtain ⟨vb, h2, rfl, _⟩ := low_some hl
      refine ⟨_, rfl, _, rfl, L, xL, d.2.1, _, rfl, ML, m2', dp2, by rw [gL, h2]; rfl, _, rfl, _, _, rfl, rfl, _, rfl, _, rfl, L, xL, d.1, rfl, ML, m1', dp1, by rw [sizeLine_eq]; omega, ?_⟩
      have tL := put_tbl (v := V.int (vb + d.2.2)) ML rL m1'
      rw [put_map (fun i : Int => V.int i)] at tL
      have g4 : Grs [L, B] H3 (upd H3 L (mDict w L (mPut xL d.1 p1 (V.int (vb + d.2.2))))) := Grs.upd (by simp)
      have t4 : Tup H3 (upd H3 L (mDict w L (mPut xL d.1 p1 (V.int (vb + d.2.2))))) := tup_upd (md_nt ML)
      have MB4 : MD w (upd H3 L (mDict w L (mPut xL d.1 p1 (V.int (vb + d.2.2))))) B xB := ⟨by rw [upd_ne nLB.symm]; exact MB.at_, fun r hr => MKeyAt.tupd t4 (MB.ks r hr)⟩
      have m14 := MKeyAt.tupd t4 m1'
      refine ⟨_, rfl, _, rfl, _, rfl, B, xB, d.1, rfl, MB4, m14, dp1, by rw [sizeLine_eq]; omega, ?_⟩
      have tB := put_tbl (v := V.int (i : Nat)) MB4 rB m14
      rw [put_map (fun i : Nat => V.int i)] at tB
      have g5 : Grs [L, B] (upd H3 L (mDict w L (mPut xL d.1 p1 (V.int (vb + d.2.2))))) (upd (upd H3 L (mDict w L (mPut xL d.1 p1 (V.int (vb + d.2.2))))) B (mDict w B (mPut xB d.1 p1 (V.int (i : Nat))))) := Grs.upd (by simp)
      have t5 : Tup (upd H3 L (mDict w L (mPut xL d.1 p1 (V.int (vb + d.2.2))))) (upd (upd H3 L (mDict w L (mPut xL d.1 p1 (V.int (vb + d.2.2))))) B (mDict w B (mPut xB d.1 p1 (V.int (i : Nat))))) := tup_upd (md_nt MB4)
      have tL5 : TI' w (upd (upd H3 L (mDict w L (mPut xL d.1 p1 (V.int (vb + d.2.2))))) B (mDict w B (mPut xB d.1 p1 (V.int (i : Nat))))) L (putI mL' d.1 (vb + d.2.2)) := Tbl.keep t5 (fun o e => by rw [upd_ne nLB]; exact e) tL
      refine ⟨_, rfl, ?_⟩
      refine ⟨_, _, _, _, p1, some d.1, putI mL' d.1 (vb + d.2.2), putI mB' d.1 i, rfl, ⟨R3.gr.trans (g4.trans g5), R3.tu.trans (t4.trans t5), tL5, tB, ?_, ?_, fun hp => ?_⟩, ?_, MKeyAt.tupd (t4.trans t5) m1'⟩
      · have := len_put (m := mL') (k := d.1) (v := vb + d.2.2)
        omega
      · have := len_put (m := mB') (k := d.1) (v := i)
        omega
      · have e1 := R3.ks hp
        rw [keys_put (by rw [e1]; exact hp _ (flat_mem.mpr ⟨d, hmem, .inl rfl⟩)), e1]
      · rw [enx, hl]
        unfold step
        rw [show (stOf mL' mB').L = lookI mL' from rfl, hl]
        unfold stOf
        rw [lookI_put, lookI_put]
  · obtain ⟨t4, t5, t6, t7, u, o, mL', mB', rfl, R, e, la⟩ := hP
    rw [lu] at R
    rw [lu, List.take_length] at e
    exact ⟨_, rfl, q u o mL' mB' H' R e la⟩
end
end K11
end
section
set_option autoImplicit false
set_option maxRecDepth 100000
set_option maxHeartbeats 4000000
/-! settle -/
namespace K11
open PySem PySem.Spec PyProof.Rows L2 KX
abbrev nSt : List Str := ["differences", "levels", "back", "last", "_"]
theorem scSt : FnScope nSt ["differences", "levels", "back"] (defScope sSt) := ⟨rfl, rfl, rfl, by decide +kernel, rfl, by decide +kernel, by decide +kernel⟩
def spSt (w : World) : Sp := fun vs H Q _ => ∃ (v : V) (L B : Addr) (ds : List Dif) (mL : List (NestedKey × Int)) (mB : List (NestedKey × Nat)), vs = [v, .ref L, .ref B] ∧ Ds H v ds ∧ OkDs ds ∧ TI' w H L mL ∧ TN w H B mB ∧ L ≠ B ∧ mL.length ≤ 100 ∧ mB.length ≤ 100 ∧
  ∀ (u : V) (o : Option NestedKey) (mL' : List (NestedKey × Int)) (mB' : List (NestedKey × Nat)) (n : Nat) (H' : Hp), Rl H L B mL mB n (flat ds) w H' mL' mB' → n ≤ 90 → settled ds ((pointsOf ds).length + 1) (stOf mL mB) = (stOf mL' mB', o) → LastAt H' o u → Q u H'
theorem settled_step {α : Type} [DecidableEq α] (ds : List (Df α)) (k : Nat) (s : St α) : settled ds (k + 1) s = match relaxed 0 ds s none with
    | (s', none) => (s', none)
    | (s', some x) => if k = 0 then (s', some x) else settled ds k s' := rfl
theorem key_non {H : Hp} {k : NestedKey} {v : V} (h : MKeyAt H k v) (n : k ≠ .none) : v ≠ .non := by
  cases h with
  | non => exact absurd rfl n
  | num i => exact fun e => nomatch e
  | text z => exact fun e => nomatch e
  | tup _ _ => exact fun e => nomatch e
theorem pt_non {p : NestedKey} (h : p ∈ PTS) : p ≠ .none := by
  have : PTS.all (fun p => decide (p ≠ .none)) = true := by decide +kernel
  exact of_decide_eq_true (List.all_eq_true.mp this p h)
theorem relaxed_in {α : Type} [DecidableEq α] : ∀ (ds : List (Df α)) (i : Nat) (s s' : St α) (o : Option α) (x : α), relaxed i ds s o = (s', some x) → (∃ d ∈ ds, x = d.1) ∨ o = some x
  | [], _, _, _, _, _, h => by
    unfold relaxed at h
    injection h with h1 h2
    exact .inr h2
  | d :: ds, i, s, s', o, x, h => by
    unfold relaxed at h
    rcases relaxed_in ds _ _ _ _ _ h with ⟨e, he, hx⟩ | hx
    · exact .inl ⟨e, List.mem_cons_of_mem _ he, hx⟩
    · revert hx
      cases low s.L d with
      | none => exact fun hx => .inr hx
      | some v => exact fun hx => .inl ⟨d, List.mem_cons_self, (Option.some.inj hx).symm⟩
section
variable {P : Program} {w : World} {K : PySem.W.Frag} {mg : Str → Option Value} {base : Heap}
theorem ok_st {f : Addr} {fd : FuncData} (F : Fun K "settle" "settle" sSt f fd) (B : Free mg) (Po : Fnc P w K mg base CX0 1 "points_of" ["differences"] spPo) (Rx : Fnc P w K mg base CX0 1 "relax" ["differences", "levels", "back"] (spRx w)) :
    FnOk P w K mg base CX0 2 f fd ["differences", "levels", "back"] (spSt w) := by
  refine F.ok scSt (fun vs H Q E h => ?_) (fun cdv A outer s H vs Q E hr h => ?_)
  · obtain ⟨v, L, B, ds, mL, mB, rfl, _⟩ := h
    rfl
  obtain ⟨v, L, C, ds, mL, mB, rfl, hd, ok, tl, tb, nLB, fL, fB, q⟩ := h
  refine ⟨_, pss_cons (ps_set (i := 3) scSt.nd rfl (.inl rfl) pe_non) <|
    pss_cons (ps_for PassesOwn.never rfl (pi_range1 (by rfl) B.range (pa_cons (pe_op op_add (pe_callB call_len_seq (by rfl) (Free.len B) PySem.boot_len (pa_cons (pe_fnc Po hr (by omega) (by rfl) pass0 (pa_cons (pv 0) pa_nil)) pa_nil)) pe_int) pa_nil)) (pg_name (i := 4) scSt.nd rfl (Or.inl rfl))
      (pss_cons (ps_set (i := 3) scSt.nd rfl (.inl rfl) (pe_fnc Rx hr (by omega) (by rfl) pass0 (pa_cons (pv 0) (pa_cons (pv 1) (pa_cons (pv 2) pa_nil))))) <|
        pss_one (ps_if (pt_cmpR op_isN1 (pv 3) pe_non (nomark _)) (pss_one (ps_ret pe_non)) pss_nil))) <|
    pss_one (ps_ret (pv 3)), ?_⟩
  have few := ok.few
  have lp := pts_few ok
  refine ⟨_, rfl, v, ds, rfl, hd, ok, fun p ys H1 s1 nH e1 k1 => ?_⟩
  have ly := MKeysAt.len k1
  refine ⟨p, _, rfl, .inl (SqL.of e1), _, _, rfl, rfl, _, rfl, by omega, by omega, ?_⟩
  rw [ly]
  have en : ((((pointsOf ds).length : Int) + 1).toNat) = (pointsOf ds).length + 1 := by omega
  rw [en]
  have nd : L2.start nSt [v, .ref L, .ref C] = [some v, some (.ref L), some (.ref C), none, none] := rfl
  generalize hN : (pointsOf ds).length = N at lp ⊢
  have R1 : Rl H L C mL mB 0 (flat ds) w H1 mL mB := Rl.same ⟨Grs.refl, fun _ _ e => e, tl, tb, by omega, by omega, fun _ => rfl⟩ s1
  refine for_range (n := N + 1) (fun j σ' H' => ∃ (t4 : Option V) (u : V) (mL' : List (NestedKey × Int)) (mB' : List (NestedKey × Nat)), σ' = [some v, some (.ref L), some (.ref C), some u, t4] ∧ Rl H L C mL mB (j * ds.length) (flat ds) w H' mL' mB' ∧
      ((j ≤ N ∧ settled ds (N + 1) (stOf mL mB) = settled ds (N + 1 - j) (stOf mL' mB')) ∨ (j = N + 1 ∧ ∃ x, settled ds (N + 1) (stOf mL mB) = (stOf mL' mB', some x) ∧ LastAt H' (some x) u)))
    ⟨none, .non, mL, mB, rfl, by rw [Nat.zero_mul]; exact R1, .inl ⟨by omega, rfl⟩⟩ (fun j σ' H2 hj hP => ?_) (fun σ' H2 hP => ?_)
  · obtain ⟨t4, u, mL', mB', rfl, R, hc⟩ := hP
    rcases hc with ⟨hjN, es⟩ | ⟨hjN, _⟩
    · have mul : j * ds.length ≤ 10 * 9 := Nat.mul_le_mul (by omega) few
      have ml := R.ll
      have mb := R.lb
      refine ⟨_, rfl, _, rfl, _, rfl, ?_⟩
      refine ⟨v, L, C, ds, mL', mB', rfl, Ds.tup R.tu hd, ok, R.tl, R.tb, nLB, by omega, by omega, fun u2 o mL2 mB2 H3 R2 er la => ?_⟩
      refine ⟨_, rfl, rfl, _, rfl, ?_⟩
      have Rn : Rl H L C mL mB ((j + 1) * ds.length) (flat ds) w H3 mL2 mB2 := by rw [Nat.succ_mul]; exact R.trans R2
      have ek : N + 1 - j = (N - j) + 1 := by omega
      rw [ek, settled_step ds (N - j) (stOf mL' mB'), er] at es
      cases o with
      | none =>
        have la : u2 = .non := la
        subst la
        refine iteT ?_
        exact q .non none mL2 mB2 _ H3 Rn (Nat.le_trans (Nat.mul_le_mul (show j + 1 ≤ 10 by omega) few) (by omega)) (by rw [hN]; exact es) rfl
      | some x =>
        have hx : x ∈ PTS := by
          rcases relaxed_in ds 0 _ _ _ x er with ⟨d, hdm, rfl⟩ | h
          · exact (ok.pt d hdm).1
          · cases h
        have nn := key_non (show MKeyAt H3 x u2 from la) (pt_non hx)
        rw [decide_eq_false nn]
        refine iteF ⟨_, u2, mL2, mB2, rfl, Rn, ?_⟩
        dsimp only at es
        by_cases h0 : N - j = 0
        · rw [if_pos h0] at es
          exact .inr ⟨by omega, x, es, la⟩
        · rw [if_neg h0] at es
          have : N + 1 - (j + 1) = N - j := by omega
          rw [this]
          exact .inl ⟨by omega, es⟩
    · omega
  · obtain ⟨t4, u, mL', mB', rfl, R, hc⟩ := hP
    rcases hc with ⟨hjN, _⟩ | ⟨_, x, es, la⟩
    · omega
    · exact ⟨u, rfl, q u (some x) mL' mB' _ H2 R (Nat.le_trans (Nat.mul_le_mul (show N + 1 ≤ 10 by omega) few) (by omega)) (by rw [hN]; exact es) la⟩
end
end K11
end
section
set_option autoImplicit false
set_option maxRecDepth 100000
set_option maxHeartbeats 4000000
/-! levels within a bound -/
namespace K11
open PySem PySem.Spec PyProof.Rows L2 KX
/-- levels within a bound -/
def Bnd {α : Type} (c : Int) (L : α → Option Int) : Prop := ∀ x v, L x = some v → -c ≤ v ∧ v ≤ c
section
variable {α : Type} [DecidableEq α] {M : Int}
theorem Bnd.step {c : Int} {s : St α} {d : Df α} (h : Bnd c s.L) (m0 : 0 ≤ M) (hd : -M ≤ d.2.2 ∧ d.2.2 ≤ M) (i : Nat) : Bnd (c + M) (K11.step i d s).L := by
  unfold K11.step
  cases hw : low s.L d with
  | none => exact fun x v e => by have := h x v e; omega
  | some z =>
    obtain ⟨v, hv, rfl, _⟩ := low_some hw
    intro x u e
    dsimp only at e
    by_cases hx : x = d.1
    · subst hx
      rw [upd1_same] at e
      cases e
      have := h _ _ hv
      omega
    · rw [upd1_ne _ _ hx] at e
      have := h _ _ e
      omega
theorem Bnd.relaxed (m0 : 0 ≤ M) : ∀ (l : List (Df α)) (i : Nat) (s : St α) (o : Option α) (c : Int), Bnd c s.L → (∀ d ∈ l, -M ≤ d.2.2 ∧ d.2.2 ≤ M) → Bnd (c + l.length * M) (K11.relaxed i l s o).1.L
  | [], _, _, _, c, h, _ => by
    show Bnd (c + (0 : Nat) * M) _
    rw [Int.natCast_zero, Int.zero_mul, Int.add_zero]
    exact h
  | d :: l, i, s, o, c, h, hl => by
    unfold K11.relaxed
    have := Bnd.relaxed m0 l (i + 1) (K11.step i d s) (match low s.L d with | none => o | some _ => some d.1) (c + M) (h.step m0 (hl d List.mem_cons_self) i) fun e he => hl e (List.mem_cons_of_mem _ he)
    have e : c + (d :: l).length * M = c + M + l.length * M := by
      rw [List.length_cons, Int.natCast_add, Int.add_mul]
      show c + (l.length * M + (1 : Int) * M) = _
      rw [Int.one_mul]
      omega
    rw [e]
    exact this
theorem Bnd.settled (m0 : 0 ≤ M) {ds : List (Df α)} (hl : ∀ d ∈ ds, -M ≤ d.2.2 ∧ d.2.2 ≤ M) : ∀ (n : Nat) (s : St α) (c : Int), Bnd c s.L → Bnd (c + n * (ds.length * M)) (K11.settled ds n s).1.L
  | 0, s, c, h => by
    rw [Int.natCast_zero, Int.zero_mul, Int.add_zero]
    exact h
  | n + 1, s, c, h => by
    have p0 : 0 ≤ (ds.length : Int) * M := Int.mul_nonneg (by omega) m0
    have q0 : 0 ≤ (n : Int) * (ds.length * M) := Int.mul_nonneg (by omega) p0
    have h1 := Bnd.relaxed m0 ds 0 s none c h hl
    have e : c + ((n + 1 : Nat) : Int) * (ds.length * M) = c + ds.length * M + n * (ds.length * M) := by
      rw [Int.natCast_add, Int.add_mul]
      show c + (n * (ds.length * M) + (1 : Int) * (ds.length * M)) = _
      rw [Int.one_mul]
      omega
    have wk : Bnd (c + ds.length * M + n * (ds.length * M)) (K11.relaxed 0 ds s none).1.L := fun x v ev => by have := h1 x v ev; omega
    rw [e]
    unfold K11.settled
    split
    · rename_i s2 e2
      rw [e2] at wk
      exact wk
    · rename_i s2 x e2
      rw [e2] at wk h1
      split
      · exact wk
      · exact Bnd.settled m0 hl n s2 _ h1
end
end K11
end
section
set_option autoImplicit false
set_option maxRecDepth 100000
set_option maxHeartbeats 4000000
/-! fitting -/
namespace K11
open PySem PySem.Spec PyProof.Rows L2 KX
theorem u16 {k : Nat} {A : Around} (r : Room k A) : A.units + 16 < cLine := by have := r.un; omega
theorem none_back {H H' : Hp} {a : Addr} (s : Same H H') (n : H' a = none) : H a = none := by
  cases e : H a with
  | none => rfl
  | some o =>
    rw [s _ _ e] at n
    cases n
theorem putI_new {β : Type} {m : List (NestedKey × β)} {k : NestedKey} {v : β} (h : k ∉ m.map (·.1)) : putI m k v = m ++ [(k, v)] := by
  unfold putI
  rw [if_neg (by rw [lookI_none.mpr h]; exact Bool.false_ne_true)]
theorem take_notin {κ : Type} {l : List κ} {i : Nat} {k : κ} (nd : l.Nodup) (h : l[i]? = some k) : k ∉ l.take i := fun m => by
  obtain ⟨j, hj⟩ := List.mem_iff_getElem?.mp m
  have hji : j < i := by
    have := (List.getElem?_eq_some_iff.mp hj).1
    rw [List.length_take] at this
    omega
  rw [List.getElem?_take_of_lt hji] at hj
  have := (List.getElem?_inj (List.getElem?_eq_some_iff.mp hj).1 nd).mp (hj.trans h.symm)
  omega
/-- a table whose keys are given, told by its keys -/
theorem tbl_keys {β : Type} {pts : List NestedKey} {m : List (NestedKey × β)} (e : m.map (·.1) = pts) (nd : pts.Nodup) (z : β) : m = pts.map fun p => (p, (lookI m p).getD z) := by
  subst e
  rw [List.map_map]
  refine (List.map_id m).symm.trans (List.map_congr_left fun p hp => ?_)
  show p = (p.1, (lookI m p.1).getD z)
  have : lookI m p.1 = some p.2 := by
    clear z
    induction m with
    | nil => cases hp
    | cons q m ih =>
      rw [lookI_cons]
      rw [List.map_cons, List.nodup_cons] at nd
      rcases List.mem_cons.mp hp with rfl | hp
      · rw [if_pos rfl]
      · rw [if_neg (fun e => nd.1 (by rw [e]; exact List.mem_map.mpr ⟨p, hp, rfl⟩))]
        exact ih nd.2 hp
  rw [this]
  rfl
theorem in_pairs {β : Type} {f : NestedKey → β} {l : List NestedKey} {k : NestedKey} (h : k ∈ (l.map fun p => (p, f p)).map (·.1)) : k ∈ l := by
  rw [List.map_map] at h
  obtain ⟨q, hq, e⟩ := List.mem_map.mp h
  rw [← e]
  exact hq
theorem zero_bnd {pts : List NestedKey} {z : NestedKey} {v : Int} (e : lookI (pts.map fun p => (p, (0 : Int))) z = some v) : v = 0 := by
  induction pts with
  | nil => cases e
  | cons p pts ih =>
    rw [List.map_cons, lookI_cons] at e
    by_cases h : p = z
    · rw [if_pos h] at e
      cases e
      rfl
    · rw [if_neg h] at e
      exact ih e
abbrev nFit : List Str := ["differences", "levels", "point", "level"]
theorem scFit : FnScope nFit ["differences"] (defScope sFit) := ⟨rfl, rfl, rfl, by decide +kernel, rfl, by decide +kernel, by decide +kernel⟩
def rowsF (ds : List Dif) (f : NestedKey → Int) : List (NestedKey × Int) := (pointsOf ds).map fun p => (p, f p)
def spFit (w : World) : Sp := fun vs H Q _ => ∃ (v : V) (ds : List Dif), vs = [v] ∧ Ds H v ds ∧ OkDs ds ∧ (∀ H', Ringed ds → Same H H' → Q .non H') ∧
  ∀ (f : NestedKey → Int) (D : Addr) (H' : Hp), Fits ds f → f (.text "") = 0 → (∀ p, -(180 * lim) ≤ f p ∧ f p ≤ 180 * lim) → Same H H' → H D = none → TI' w H' D (rowsF ds f) → Q (.ref D) H'
section
variable {w : World}
/-- {point: 0 for ..} -/
theorem zero_step {H1 H' : Hp} {D : Addr} {pts : List NestedKey} {i : Nat} {k : NestedKey} {x : V} (nd : pts.Nodup) (few : pts.length ≤ 9) (hk : pts[i]? = some k) (n : H1 D = none) (s : Same H1 H') (T : TI' w H' D ((pts.take i).map fun p => (p, (0 : Int)))) (m : MKeyAt H' k x) (dk : k.depth ≤ 8) :
    mPutR w H' D x (.int 0) fun H2 => Same H1 H2 ∧ TI' w H2 D ((pts.take (i + 1)).map fun p => (p, (0 : Int))) := by
  obtain ⟨xs, M, r⟩ := T
  have lx := md_len r
  rw [List.length_map, List.length_map, List.length_take] at lx
  refine ⟨xs, k, M, m, dk, by rw [sizeLine_eq]; omega, fun b o e => ?_, ?_⟩
  · rw [upd_ne (ne_of_none e n)]
    exact s _ _ e
  · have t := put_tbl (v := V.int 0) M r m
    rw [put_map (fun i : Int => V.int i), putI_new (fun h => take_notin nd hk (in_pairs h))] at t
    rw [List.take_add_one, hk, List.map_append]
    exact t
end
section
variable {P : Program} {w : World} {K : PySem.W.Frag} {mg : Str → Option Value} {base : Heap}
theorem ok_fit {f : Addr} {fd : FuncData} (F : Fun K "fitting" "fitting" sFit f fd) (Ck : Fnc P w K mg base CX0 6 "check_differences" ["differences"] spChk) (Po : Fnc P w K mg base CX0 1 "points_of" ["differences"] spPo) (St : Fnc P w K mg base CX0 2 "settle" ["differences", "levels", "back"] (spSt w)) :
    FnOk P w K mg base CX0 7 f fd ["differences"] (spFit w) := by
  refine F.ok scFit (fun vs H Q E h => ?_) (fun cdv A outer s H vs Q E hr h => ?_)
  · obtain ⟨v, ds, rfl, _⟩ := h
    rfl
  obtain ⟨v, ds, rfl, hd, ok, qr, qf⟩ := h
  have hu := hr.units
  refine ⟨_, pss_cons (ps_expr (pe_fnc Ck hr (by omega) (by rfl) pass0 (pa_cons (pv 0) pa_nil))) <|
    pss_cons (ps_set (i := 1) scFit.nd rfl (.inr rfl) (pe_gdc (nw := fun D => mDict w D []) (put := mPutR w) (own := [("point", 2)]) (g := gName 2) (tt := tYes) (tk := tVar 2) (tv := tC (.int 0)) (m_kind (u16 hr)) rfl scFit.nd (pi_list (pe_fnc Po hr (by omega) (by rfl) pass0 (pa_cons (pv 0) pa_nil))) (blkOk_by (N := nFit) (sc := defScope sFit) (by decide +kernel))
      (fun _ _ _ _ _ => pg_name (i := 2) scFit.nd rfl (Or.inl rfl) (Or.inr rfl)) (fun _ _ _ _ _ => pts_nil) (fun _ _ _ _ _ => pv 2) (fun _ _ _ _ _ => pe_int))) <|
    pss_cons (ps_if (pt_cmpR op_notN1 (pe_fnc St hr (by omega) (by rfl) pass0 (pa_cons (pv 0) (pa_cons (pv 1) (pa_cons pe_mnew pa_nil)))) pe_non (nomark _)) (pss_one (ps_ret pe_non)) pss_nil) <|
    pss_one (ps_ret (pe_lock (pe_gdc (nw := fun D => mDict w D []) (put := mPutR w) (own := [("point", 2), ("level", 3)]) (g := gTup K 2 (gCons (gName 2) (gCons (gName 3) gNil))) (tt := tYes) (tk := tVar 2) (tv := tOp (rI0 fun i j => .int (i - j)) (tVar 3) (tMGetF w (tVar 1) (tC (.str "")))) (m_kind (u16 hr)) rfl scFit.nd (pi_mitems (pv 1)) (blkOk_by (N := nFit) (sc := defScope sFit) (by decide +kernel))
      (fun _ _ _ _ _ => pg_tup rfl (pgs_cons (pg_name (i := 2) scFit.nd rfl (Or.inl rfl) (Or.inr rfl)) (pgs_cons (pg_name (i := 3) scFit.nd rfl (Or.inl rfl) (Or.inr rfl)) pgs_nil))) (fun _ _ _ _ _ => pts_nil) (fun _ _ _ _ _ => pv 2) (fun _ _ _ _ _ => pe_op op_sub (pv 3) (pe_mgetF hu (pv 1) pe_str (fun _ _ => rfl)))))), ?_⟩
  have few := ok.few
  have lp := pts_few ok
  have nd := pts_nd ds
  refine ⟨_, rfl, v, ds, rfl, hd, ok, fun H0 s0 => ?_⟩
  refine ⟨_, rfl, v, ds, rfl, hd.same s0, ok, fun p ys H1 s1 nH e1 k1 => ?_⟩
  have ly := MKeysAt.len k1
  refine ⟨p, rfl, ⟨_, SqL.of e1⟩, fun D nD => ?_⟩
  refine dcW (walk_l K p ys) (fun i H' => Same H1 H' ∧ TI' w H' D (((pointsOf ds).take i).map fun p => (p, (0 : Int)))) (fun j H' _ hP => SqL.of (hP.1 _ _ e1)) ⟨same_upd nD, Tbl.new nD⟩ (fun i x H2 H2' hi hY hP => ?_) (fun H2 hP => ?_)
  · obtain ⟨rfl, hx⟩ := hY
    obtain ⟨s2, T2⟩ := hP
    obtain ⟨k, hk, m⟩ := MKeysAt.to k1 hx
    exact ⟨rfl, x, rfl, zero_step nd lp hk nD s2 T2 (MKeyAt.same s2 m) (pt_dep (pts_pt ok (List.mem_of_getElem? hk)))⟩
  obtain ⟨s2, T2⟩ := hP
  rw [ly, List.take_length] at T2
  refine ⟨_, rfl, _, rfl, fun B nB => ?_⟩
  have s3 := same_upd (p := B) (o := mDict w B []) nB
  have T3 : TI' w (upd H2 B (mDict w B [])) D ((pointsOf ds).map fun p => (p, (0 : Int))) := Tbl.same s3 T2
  have B3 : TN w (upd H2 B (mDict w B [])) B [] := Tbl.new nB
  obtain ⟨oD, eD⟩ := T2.ob
  have nDB : D ≠ B := ne_of_none eD nB
  have s03 := s0.trans (s1.trans (s2.trans s3))
  have nD0 : H D = none := none_back (s0.trans s1) nD
  have nB0 : H B = none := none_back (s0.trans (s1.trans s2)) nB
  refine ⟨v, D, B, ds, _, _, rfl, hd.same s03, ok, T3, B3, nDB, by rw [List.length_map]; omega, by simp, fun u o mL mB n H4 R nn es la => ?_⟩
  have g4 : Grs [D, B] H H4 := (Grs.of s03).trans R.gr
  have s4 : Same H H4 := g4.free (fun a ha => by
    simp only [List.mem_cons, List.not_mem_nil, or_false] at ha
    rcases ha with rfl | rfl
    · exact nD0
    · exact nB0)
  have z := settled_zero (ds := ds) (pts := pointsOf ds) (fun d hdm => (pts_df ok d hdm).1) (L := lookI ((pointsOf ds).map fun p => (p, (0 : Int)))) (s' := stOf mL mB)
  refine ⟨rfl, _, rfl, ?_⟩
  cases o with
  | some x =>
    obtain ⟨rg, _⟩ := z.2 x es
    have hx : u ≠ .non := by
      refine key_non (show MKeyAt H4 x u from la) ?_
      intro e
      subst e
      obtain ⟨_, lo, _⟩ := z.2 .none es
      obtain ⟨j, b, m, _, e2, _⟩ := lo 0
      exact pt_non (ok.pt _ (List.mem_of_getElem? e2)).1 rfl
    rw [decide_eq_false hx]
    exact iteT (qr H4 rg s4)
  | none =>
    have la : u = .non := la
    subst la
    refine iteF ?_
    obtain ⟨fl, fr⟩ := z.1 es
    have ek : mL.map (·.1) = pointsOf ds := by
      have := R.ks (fun p hp => by rw [List.map_map]; simpa using (pts_mem ok).mpr (.inr hp))
      rw [this, List.map_map]
      exact (List.map_congr_left fun _ _ => rfl).trans (List.map_id _)
    obtain ⟨f, hf⟩ : ∃ f : NestedKey → Int, f = fun p => (lookI mL p).getD 0 - (lookI mL (.text "")).getD 0 := ⟨_, rfl⟩
    have has : ∀ p ∈ pointsOf ds, ∃ v, lookI mL p = some v := fun p hp => lookI_some (by rw [ek]; exact hp)
    have ff : Fits ds f := fun x b m hm => by
      obtain ⟨h1, h2⟩ := pts_df ok _ hm
      obtain ⟨vb, hb⟩ := has b h2
      obtain ⟨va, ha, hle⟩ := fl x b m hm vb hb
      have ha : lookI mL x = some va := ha
      rw [hf]
      dsimp only
      rw [ha, hb]
      show va - _ - (vb - _) ≤ m
      omega
    have f0 : f (.text "") = 0 := by rw [hf]; dsimp only; omega
    have m0 : (0 : Int) ≤ lim := by unfold lim; omega
    have b0 : Bnd (0 : Int) (stOf ((pointsOf ds).map fun p => (p, (0 : Int))) []).L := fun z v e => by
      have := zero_bnd e
      omega
    have bb := Bnd.settled m0 (ds := ds) (fun d hd => by have := ok.sm d hd; omega) ((pointsOf ds).length + 1) _ _ b0
    rw [es] at bb
    have m1 : (((pointsOf ds).length + 1 : Nat) : Int) * (ds.length * lim) ≤ 90 * lim := by
      rw [← Int.mul_assoc]
      refine Int.mul_le_mul_of_nonneg_right ?_ m0
      have : ((pointsOf ds).length + 1) * ds.length ≤ 10 * 9 := Nat.mul_le_mul (by omega) few
      have h2 : ((((pointsOf ds).length + 1) * ds.length : Nat) : Int) ≤ 90 := by omega
      rw [Int.natCast_mul] at h2
      exact h2
    have lv : ∀ p, -(90 * lim) ≤ (lookI mL p).getD 0 ∧ (lookI mL p).getD 0 ≤ 90 * lim := fun p => by
      cases e : lookI mL p with
      | none =>
        show -(90 * lim) ≤ 0 ∧ (0 : Int) ≤ 90 * lim
        omega
      | some v =>
        have := bb p v e
        show -(90 * lim) ≤ v ∧ v ≤ 90 * lim
        omega
    have fb : ∀ p, -(180 * lim) ≤ f p ∧ f p ≤ 180 * lim := fun p => by
      have h1 := lv p
      have h2 := lv (.text "")
      rw [hf]
      dsimp only
      omega
    have em := tbl_keys ek nd (0 : Int)
    obtain ⟨xs, M, r⟩ := R.tl
    have rr : xs.map (fun r => (r.1, r.2.2)) = (pointsOf ds).map fun p => (p, V.int ((lookI mL p).getD 0)) := by
      rw [r]
      conv => lhs; rw [em]
      rw [List.map_map]
      rfl
    have lx : xs.length = (pointsOf ds).length := by
      have := congrArg List.length rr
      rw [List.length_map, List.length_map] at this
      exact this
    refine ⟨D, mDict w D xs, M.at_, True.intro, fun od => ?_⟩
    have t5 : Tup H4 (upd H4 D (.frz od (mDict w D xs))) := tup_upd (md_nt M)
    have g5 : Grs [D] H4 (upd H4 D (.frz od (mDict w D xs))) := Grs.upd (by simp)
    have e5 : (upd H4 D (.frz od (mDict w D xs))) D = some (.frz od (mDict w D xs)) := upd_same
    generalize upd H4 D (.frz od (mDict w D xs)) = H5 at t5 g5 e5 ⊢
    refine ⟨_, rfl, D, od, xs, rfl, e5, fun R' nR => ?_⟩
    have nRD : D ≠ R' := ne_of_none e5 nR
    have nR4 : H4 R' = none := by
      cases e : H4 R' with
      | none => rfl
      | some o =>
        have := g5 _ _ (by simpa using nRD.symm) e
        rw [this] at nR
        cases nR
    refine dcW (walk_mi (w := w) (d := D) (o := od) (xs := xs)) (fun i H' => Grs [D] H4 H' ∧ Tup H4 H' ∧ H' D = some (.frz od (mDict w D xs)) ∧ TI' w H' R' (((pointsOf ds).take i).map fun p => (p, f p))) (fun j H' _ hP => hP.2.2.1)
      ⟨fun b o n e => ?_, fun b ys e => ?_, by rw [upd_ne nRD]; exact e5, Tbl.new nR⟩ (fun i x H6 H6' hi hY hP => ?_) (fun H6 hP => ?_)
    · rw [upd_ne (ne_of_none e nR4)]
      exact g5 b o n e
    · rw [upd_ne (ne_of_none e nR4)]
      exact t5 b ys e
    · obtain ⟨g6, t6, d6, T6⟩ := hP
      obtain ⟨T, row, rfl, hrow, nT, rfl⟩ := hY
      have sT := same_upd (p := T) (o := .tup [row.2.1, row.2.2]) nT
      have eT : (upd H6 T (.tup [row.2.1, row.2.2])) T = some (.tup [row.2.1, row.2.2]) := upd_same
      have T7 := Tbl.same sT T6
      have d7 := sT _ _ d6
      have g7 := g6.trans (Grs.of (S := [D]) sT)
      have t7 := t6.trans (Same.tp sT)
      generalize upd H6 T (.tup [row.2.1, row.2.2]) = H7 at sT eT T7 d7 g7 t7 ⊢
      have hp : ∃ k, (pointsOf ds)[i]? = some k ∧ row.1 = k ∧ row.2.2 = V.int ((lookI mL k).getD 0) := by
        have := congrArg (fun l => l[i]?) rr
        rw [List.getElem?_map, List.getElem?_map, hrow] at this
        obtain ⟨k, hk, e2⟩ := Option.map_eq_some_iff.mp this.symm
        exact ⟨k, hk, congrArg Prod.fst e2.symm, congrArg Prod.snd e2.symm⟩
      obtain ⟨k, hk, hk1, hv⟩ := hp
      have mk : MKeyAt H7 k row.2.1 := by rw [← hk1]; exact MKeyAt.tupd t7 (M.ks row (List.mem_of_getElem? hrow))
      have hz : mGet xs (.text "") = some (V.int ((lookI mL (.text "")).getD 0)) := by
        obtain ⟨v0, h0⟩ := has _ (pts_zero ok)
        rw [get_look r, look_map, h0]
        rfl
      refine ⟨T, _, rfl, SqT.of eT, rfl, _, _, rfl, _, _, rfl, rfl, rfl, _, rfl, _, rfl, _, rfl, D, od, xs, .text "", _, rfl, ⟨d7, fun x hx => MKeyAt.tupd t7 (M.ks x hx)⟩, .text _, Nat.zero_le _, hz, ?_⟩
      obtain ⟨ys, M7, r7⟩ := T7
      have l7 := md_len r7
      rw [List.length_map, List.length_map, List.length_take] at l7
      refine ⟨_, _, hv, rfl, ys, k, M7, mk, pt_dep (pts_pt ok (List.mem_of_getElem? hk)), by rw [sizeLine_eq]; omega, fun b o n e => ?_, fun b zs e => ?_, ?_, ?_⟩
      · rw [upd_ne (ne_of_none e nR4)]
        exact g7 b o n e
      · rw [upd_ne (ne_of_none e nR4)]
        exact t7 b zs e
      · rw [upd_ne nRD]
        exact d7
      · have t := put_tbl (v := V.int (f k)) M7 r7 mk
        rw [put_map (fun i : Int => V.int i), putI_new (fun h => take_notin nd hk (in_pairs h))] at t
        rw [List.take_add_one, hk, List.map_append]
        have ef : V.int ((lookI mL k).getD 0 - (lookI mL (.text "")).getD 0) = V.int (f k) := by rw [hf]
        rw [← ef] at t
        rw [hf] at t ⊢
        exact t
    · obtain ⟨g6, t6, d6, T6⟩ := hP
      rw [lx, List.take_length] at T6
      refine ⟨d6, ?_⟩
      have tE : Tup H6 (upd H6 D (mDict w D xs)) := tup_upd fun zs e => by rw [d6] at e; cases e
      refine qf f R' _ ff f0 fb (fun b o e => ?_) (none_back s4 nR4) (T6.keep tE fun o e => by rw [upd_ne nRD.symm]; exact e)
      have nb : b ≠ D := ne_of_none e nD0
      rw [upd_ne nb]
      exact g6 b o (by simpa using nb) (s4 _ _ e)
end
end K11
end
section
set_option autoImplicit false
set_option maxRecDepth 100000
set_option maxHeartbeats 4000000
/-! ring_through -/
namespace K11
open PySem PySem.Spec PyProof.Rows L2 KX
/-- which difference lowered a point last -/
def idx (B : NestedKey → Option Nat) (p : NestedKey) : Nat := (B p).getD 0
def ringL (ds : List Dif) (B : NestedKey → Option Nat) (x : NestedKey) (c : Nat) : List Nat := (List.range c).map fun j => idx B (bks ds B j x)
theorem ringL_succ (ds : List Dif) (B : NestedKey → Option Nat) (x : NestedKey) (c : Nat) : ringL ds B x (c + 1) = ringL ds B x c ++ [idx B (bks ds B c x)] := by
  unfold ringL
  rw [List.range_succ, List.map_append]
  rfl
theorem Lowered.at_ {ds : List Dif} {B : NestedKey → Option Nat} {x : NestedKey} (h : Lowered ds B x) : ∃ m, B x = some (idx B x) ∧ ds[idx B x]? = some (x, bk ds B x, m) ∧ bm ds B x = m := by
  obtain ⟨j, b, m, e1, e2, e3⟩ := h
  have ei : idx B x = j := by unfold idx; rw [e1]; rfl
  have e3 : prev ds B x = some (b, m) := e3
  refine ⟨m, by rw [ei]; exact e1, ?_, ?_⟩
  · rw [ei, e2]
    unfold bk
    rw [e3]
  · unfold bm
    rw [e3]
abbrev nRt : List Str := ["differences", "back", "start", "indices"]
theorem scRt : FnScope nRt ["differences", "back", "start"] (defScope sRt) := ⟨rfl, rfl, rfl, by decide +kernel, rfl, by decide +kernel, by decide +kernel⟩
def spRt (w : World) : Sp := fun vs H Q _ => ∃ (v sv : V) (B : Addr) (ds : List Dif) (mB : List (NestedKey × Nat)) (x : NestedKey) (c : Nat), vs = [v, .ref B, sv] ∧ Ds H v ds ∧ OkDs ds ∧ TN w H B mB ∧ MKeyAt H x sv ∧ x ∈ PTS ∧ (∀ n, Lowered ds (lookI mB) (bks ds (lookI mB) n x)) ∧
  0 < c ∧ c ≤ 1000 ∧ bks ds (lookI mB) c x = x ∧ (∀ i, 0 < i → i < c → bks ds (lookI mB) i x ≠ x) ∧ ∀ (t : Addr) (H' : Hp), Same H H' → H t = none → H' t = some (.tup ((ringL ds (lookI mB) x c).map fun i => V.int (i : Nat))) → Q (.ref t) H'
section
variable {P : Program} {w : World} {K : PySem.W.Frag} {mg : Str → Option Value} {base : Heap}
theorem ok_rt {f : Addr} {fd : FuncData} (F : Fun K "ring_through" "ring_through" sRt f fd) (B : Free mg) : FnOk P w K mg base CX0 1 f fd ["differences", "back", "start"] (spRt w) := by
  refine F.ok scRt (fun vs H Q E h => ?_) (fun cdv A outer s H vs Q E hr h => ?_)
  · obtain ⟨v, sv, D, ds, mB, x, c, rfl, _⟩ := h
    rfl
  obtain ⟨v, sv, D, ds, mB, x, c, rfl, hd, ok, tb, mx, hx, lo, c0, c1, ec, nc, q⟩ := h
  have hu := hr.units
  refine ⟨_, pss_cons (ps_set (i := 3) scRt.nd rfl (.inl rfl) (pe_lst (pa_cons (pe_mget hu (pv 1) (pv 2) (fun _ _ => rfl)) pa_nil))) <|
    pss_cons (ps_while PassesOwn.never (pt_cmpR (op_neM hu) (pe_ix ix_tup (pe_ix ix_tup (pv 0) (pe_ix ix_list (pv 3) (pe_un un_neg pe_int) (fun _ _ => rfl)) (fun _ _ => rfl)) pe_int (fun _ _ => rfl)) (pv 2) (nomark _))
      (pss_one (ps_expr (pe_bm PySem.F.plainAttrs_list PySem.F.slot_list_append PySem.F.type_list_append mt_append (pv 3) (pa_cons (pe_mget hu (pv 1) (pe_ix ix_tup (pe_ix ix_tup (pv 0) (pe_ix ix_list (pv 3) (pe_un un_neg pe_int) (fun _ _ => rfl)) (fun _ _ => rfl)) pe_int (fun _ _ => rfl)) (fun _ _ => rfl)) pa_nil))))) <|
    pss_one (ps_ret (pe_callTy call_tuple_of (by rfl) (Free.tuple B) (by decide +kernel) (pa_cons (pv 3) pa_nil))), ?_⟩
  obtain ⟨a, us, rfl, ea, lu, rows⟩ := Ds.row hd
  generalize hB : lookI mB = Bf at lo ec nc q
  obtain ⟨xB, MB, rB⟩ := id tb
  have gB : ∀ k, mGet xB k = (Bf k).map fun n : Nat => V.int n := fun k => by
    rw [get_look rB, ← hB]
    exact look_map (fun n : Nat => V.int (n : Int)) mB k
  have inp : ∀ n, bks ds Bf n x ∈ PTS := fun n => by
    obtain ⟨m, _, e, _⟩ := (lo n).at_
    exact (ok.pt _ (List.mem_of_getElem? e)).1
  -- a row of the ring
  have row : ∀ n, ∃ t p q, us[idx Bf (bks ds Bf n x)]? = some (.ref t) ∧ H t = some (.tup [p, q, .int (bm ds Bf (bks ds Bf n x))]) ∧ MKeyAt H (bks ds Bf (n + 1) x) q := fun n => by
    obtain ⟨m, _, e, em⟩ := (lo n).at_
    have hi : idx Bf (bks ds Bf n x) < us.length := by rw [lu]; exact (List.getElem?_eq_some_iff.mp e).1
    obtain ⟨d, t, p, q, hd2, hx2, et, _, m2⟩ := rows _ _ (List.getElem?_eq_getElem hi)
    rw [e] at hd2
    cases hd2
    refine ⟨t, p, q, by rw [List.getElem?_eq_getElem hi, hx2], by rw [em]; exact et, ?_⟩
    rw [bks_succ]
    exact m2
  have val : ∀ n, mGet xB (bks ds Bf n x) = some (V.int (idx Bf (bks ds Bf n x) : Nat)) := fun n => by
    obtain ⟨m, e, _⟩ := (lo n).at_
    rw [gB, e]
    rfl
  refine ⟨_, rfl, _, rfl, D, xB, x, _, rfl, MB, mx, pt_dep hx, val 0, le_line (by simp), fun I nI => ?_⟩
  refine ⟨fun m σ' H' => ∃ j, j < c ∧ m = c - j ∧ σ' = [some (.ref a), some (.ref D), some sv, some (.ref I)] ∧ Same H H' ∧ H' I = some (.lst ((ringL ds Bf x (j + 1)).map fun i => V.int (i : Nat))), ⟨c, 0, c0, rfl, rfl, same_upd nI, upd_same⟩, ?_⟩
  rintro m σ' H1 ⟨j, hj, rfl, rfl, s1, e1⟩
  obtain ⟨t, p, y, hus, et, my⟩ := row j
  have last : atI ((ringL ds Bf x (j + 1)).map fun i => V.int (i : Nat)) (-1) = some (V.int (idx Bf (bks ds Bf j x) : Nat)) := by
    rw [ringL_succ, List.map_append]
    exact atI_last _ _
  have ix : atI us ((idx Bf (bks ds Bf j x) : Nat) : Int) = some (.ref t) := atI_nat hus
  refine ⟨_, rfl, _, rfl, 1, rfl, I, _, -1, _, rfl, rfl, SqL.of e1, last, a, us, _, _, rfl, rfl, SqT.of (s1 _ _ ea), ix, t, _, 1, _, rfl, rfl, SqT.of (s1 _ _ et), rfl, _, rfl, ?_⟩
  refine ⟨_, _, MKeyAt.same s1 my, MKeyAt.same s1 mx, pt_ok (inp (j + 1)), pt_ok hx, _, rfl, ?_⟩
  by_cases e : bks ds Bf (j + 1) x = x
  · rw [decide_eq_true e]
    refine iteF ?_
    have hc : c = j + 1 := by
      rcases Nat.lt_or_ge (j + 1) c with h | h
      · exact absurd e (nc (j + 1) (by omega) h)
      · omega
    subst hc
    refine ⟨_, rfl, I, _, rfl, .inl ⟨SqL.of e1, fun T nT => ?_⟩⟩
    refine q T _ (s1.trans (same_upd nT)) (none_back s1 nT) upd_same
  · rw [decide_eq_false e]
    refine iteT ⟨fun σ' H' => ∃ m', m' < c - j ∧ ∃ j', j' < c ∧ m' = c - j' ∧ σ' = [some (.ref a), some (.ref D), some sv, some (.ref I)] ∧ Same H H' ∧ H' I = some (.lst ((ringL ds Bf x (j' + 1)).map fun i => V.int (i : Nat))), fun σ' H' h => h, ?_⟩
    have hj1 : j + 1 < c := by
      rcases Nat.lt_or_ge (j + 1) c with h | h
      · exact h
      · have : j + 1 = c := by omega
        exact absurd (by rw [this]; exact ec) e
    have MB1 : MD w H1 D xB := ⟨s1 _ _ MB.at_, fun r hr => MKeyAt.same s1 (MB.ks r hr)⟩
    refine ⟨_, rfl, .inl ⟨rfl, _, SqL.of e1⟩, ?_⟩
    refine ⟨_, rfl, _, rfl, _, rfl, 1, rfl, I, _, -1, _, rfl, rfl, SqL.of e1, last, a, us, _, _, rfl, rfl, SqT.of (s1 _ _ ea), ix, t, _, 1, _, rfl, rfl, SqT.of (s1 _ _ et), rfl, D, xB, _, _, rfl, MB1, MKeyAt.same s1 my, pt_dep (inp (j + 1)), val (j + 1), ?_⟩
    refine ⟨I, _, _, rfl, rfl, e1, ?_, ?_⟩
    · unfold ringL
      rw [List.length_map, List.length_map, List.length_range, sizeLine_eq]
      omega
    refine ⟨c - (j + 1), by omega, j + 1, hj1, rfl, rfl, fun b o eb => ?_, ?_⟩
    · rw [upd_ne (ne_of_none eb nI)]
      exact s1 _ _ eb
    · rw [upd_same, ringL_succ ds Bf x (j + 1), List.map_append]
      rfl
end
end K11
end
section
set_option autoImplicit false
set_option maxRecDepth 100000
set_option maxHeartbeats 4000000
/-! name = {k: v for ..}, on one row -/
namespace KX
open PySem PySem.Spec PyProof.Rows L2
theorem sw_trueD {kx vx : Expr} {gs : List Comprehension} {scope : Scope} {pos py : Pos} {y : Str} {l : Nat} {env : Env} (hk : env.scope.kind = .function) (hy : env.scope.names.lookup y = some .local) (hl : (py.line == pos.line) = true)
    (ha : (scope.names.any fun q => q.1 == y && (q.2 == .local || q.2 == .cell)) = false) : swapsWith (.DictComp kx vx gs scope pos) (some (.Name y py)) l env = pure true := by
  have e1 : env.kindOf y = some .local := hy
  have e2 : env.blockKind = .function := by
    unfold Env.blockKind
    rw [hk]
    rfl
  unfold swapsWith
  simp only [e2, e1, ha, Expr.pos, hl]
  rfl
section
end
end KX
end
section
set_option autoImplicit false
set_option maxRecDepth 100000
set_option maxHeartbeats 4000000
/-! ring -/
namespace K11
open PySem PySem.Spec PyProof.Rows L2 KX
theorem least {p : Nat → Prop} : ∀ n, p n → ∃ c, c ≤ n ∧ p c ∧ ∀ i, i < c → ¬ p i := fun n => by
  induction n using Nat.strongRecOn with
  | ind n ih =>
    intro h
    by_cases e : ∃ i, i < n ∧ p i
    · obtain ⟨i, hi, pi⟩ := e
      obtain ⟨c, h1, h2, h3⟩ := ih i hi pi
      exact ⟨c, by omega, h2, h3⟩
    · exact ⟨n, Nat.le_refl _, h, fun i hi pi => e ⟨i, hi, pi⟩⟩
theorem bms_sum (ds : List Dif) (B : NestedKey → Option Nat) : ∀ (n : Nat) (x : NestedKey), bms ds B n x = ((List.range n).map fun j => bm ds B (bks ds B j x)).sum
  | 0, _ => rfl
  | n + 1, x => by
    rw [List.range_succ_eq_map, List.map_cons, List.sum_cons, List.map_map]
    show bm ds B x + bms ds B n (bk ds B x) = _
    rw [bms_sum ds B n]
    rfl
/-- indices of a ring whose sum is below 0 -/
def RingIx (ds : List Dif) (is : List Nat) : Prop := is ≠ [] ∧ is.length ≤ 9 ∧ ∃ (g : Nat → NestedKey) (ms : Nat → Int), (∀ j, j < is.length → ∃ i, is[j]? = some i ∧ ds[i]? = some (g j, g (j + 1), ms j)) ∧ g is.length = g 0 ∧ ((List.range is.length).map ms).sum < 0
theorem ring_ok {ds : List Dif} {B : NestedKey → Option Nat} {y : NestedKey} {c : Nat} (lo : ∀ n, Lowered ds B (bks ds B n y)) (hp : ∀ d ∈ ds, d.1 ∈ PTS) (c0 : 0 < c) (ec : bks ds B c y = y) (nc : ∀ i, 0 < i → i < c → bks ds B i y ≠ y) (hs : bms ds B c y < 0) : c ≤ 9 ∧ RingIx ds (ringL ds B y c) := by
  have len : (ringL ds B y c).length = c := by unfold ringL; rw [List.length_map, List.length_range]
  have inp : ∀ n, bks ds B n y ∈ PTS := fun n => by
    obtain ⟨m, _, e, _⟩ := (lo n).at_
    exact hp _ (List.mem_of_getElem? e)
  have c9 : c ≤ 9 := by
    have nd : ((List.range c).map fun j => bks ds B j y).Nodup := by
      unfold List.Nodup
      rw [List.pairwise_map]
      refine List.Pairwise.imp_of_mem (fun {i j} hi hj hij e => ?_) List.pairwise_lt_range
      have hj := List.mem_range.1 hj
      have e2 : bks ds B (i + (c - j)) y = y := by
        rw [bks_add, e, ← bks_add, show j + (c - j) = c by omega, ec]
      exact nc _ (by omega) (by omega) e2
    have := short_of_subset _ PTS nd fun p hp => by
      obtain ⟨j, _, rfl⟩ := List.mem_map.mp hp
      exact inp j
    rw [List.length_map, List.length_range] at this
    exact this
  refine ⟨c9, fun e => ?_, by rw [len]; exact c9, fun j => bks ds B j y, fun j => bm ds B (bks ds B j y), fun j hj => ?_, by rw [len]; exact ec, by rw [len, ← bms_sum]; exact hs⟩
  · rw [e] at len
    simp at len
    omega
  · rw [len] at hj
    obtain ⟨m, _, e, em⟩ := (lo j).at_
    refine ⟨idx B (bks ds B j y), ?_, ?_⟩
    · unfold ringL
      rw [List.getElem?_map, List.getElem?_range hj]
      rfl
    · rw [e]
      show some (bks ds B j y, bk ds B (bks ds B j y), m) = some (bks ds B j y, bks ds B (j + 1) y, bm ds B (bks ds B j y))
      rw [em, bks_succ]
abbrev nRing : List Str := ["differences", "point", "levels", "back", "_"]
theorem scRing : FnScope nRing ["differences"] (defScope sRing) := ⟨rfl, rfl, rfl, by decide +kernel, rfl, by decide +kernel, by decide +kernel⟩
def spRing : Sp := fun vs H Q _ => ∃ (v : V) (ds : List Dif), vs = [v] ∧ Ds H v ds ∧ OkDs ds ∧ (∀ H', ¬ Ringed ds → Same H H' → Q .non H') ∧
  ∀ (is : List Nat) (t : Addr) (H' : Hp), Ringed ds → RingIx ds is → Same H H' → H t = none → H' t = some (.tup (is.map fun i => V.int (i : Nat))) → Q (.ref t) H'
section
variable {P : Program} {w : World} {K : PySem.W.Frag} {mg : Str → Option Value} {base : Heap}
theorem ok_ring {f : Addr} {fd : FuncData} (F : Fun K "ring" "ring" sRing f fd) (Ck : Fnc P w K mg base CX0 6 "check_differences" ["differences"] spChk) (Po : Fnc P w K mg base CX0 1 "points_of" ["differences"] spPo) (St : Fnc P w K mg base CX0 2 "settle" ["differences", "levels", "back"] (spSt w))
    (Rt : Fnc P w K mg base CX0 1 "ring_through" ["differences", "back", "start"] (spRt w)) : FnOk P w K mg base CX0 7 f fd ["differences"] spRing := by
  refine F.ok scRing (fun vs H Q E h => ?_) (fun cdv A outer s H vs Q E hr h => ?_)
  · obtain ⟨v, ds, rfl, _⟩ := h
    rfl
  obtain ⟨v, ds, rfl, hd, ok, qn, qr⟩ := h
  have hu := hr.units
  refine ⟨_, pss_cons (ps_expr (pe_fnc Ck hr (by omega) (by rfl) pass0 (pa_cons (pv 0) pa_nil))) <|
    pss_cons (ps_setGdc (i := 2) (nw := fun D => mDict w D []) (put := mPutR w) (own := [("point", 1)]) (g := gName 1) (tt := tYes) (tk := tVar 1) (tv := tC (.int 0)) (m_kind (u16 hr)) rfl scRing.nd rfl rfl (sw_trueD rfl rfl rfl (by decide +kernel)) (pi_list (pe_fnc Po hr (by omega) (by rfl) pass0 (pa_cons (pv 0) pa_nil))) (blkOk_by (N := nRing) (sc := defScope sRing) (by decide +kernel))
      (fun _ _ _ _ _ => pg_name (i := 1) scRing.nd rfl (Or.inl rfl) (Or.inr rfl)) (fun _ _ _ _ _ => pts_nil) (fun _ _ _ _ _ => pv 1) (fun _ _ _ _ _ => pe_int)) <|
    pss_cons (ps_set (i := 3) scRing.nd rfl (.inl rfl) pe_mnew) <|
    pss_cons (ps_set (i := 1) scRing.nd rfl (.inl rfl) (pe_fnc St hr (by omega) (by rfl) pass0 (pa_cons (pv 0) (pa_cons (pv 2) (pa_cons (pv 3) pa_nil))))) <|
    pss_cons (ps_if (pt_cmpR op_isN1 (pv 1) pe_non (nomark _)) (pss_one (ps_ret pe_non)) pss_nil) <|
    pss_cons (ps_lock (ps_for PassesOwn.never rfl (pi_mkeys (pv 2)) (pg_name (i := 4) scRing.nd rfl (Or.inl rfl))
      (pss_one (ps_set (i := 1) scRing.nd rfl (.inl rfl) (pe_ix ix_tup (pe_ix ix_tup (pv 0) (pe_mget hu (pv 3) (pv 1) (fun _ _ => rfl)) (fun _ _ => rfl)) pe_int (fun _ _ => rfl)))))) <|
    pss_one (ps_ret (pe_fnc Rt hr (by omega) (by rfl) pass0 (pa_cons (pv 0) (pa_cons (pv 3) (pa_cons (pv 1) pa_nil))))), ?_⟩
  have few := ok.few
  have lp := pts_few ok
  have nd := pts_nd ds
  obtain ⟨a, us, ev, ea, lu, rows⟩ := Ds.row hd
  refine ⟨_, rfl, v, ds, rfl, hd, ok, fun H0 s0 => ?_⟩
  refine ⟨_, rfl, v, ds, rfl, hd.same s0, ok, fun p ys H1 s1 nH e1 k1 => ?_⟩
  have ly := MKeysAt.len k1
  refine ⟨p, rfl, ⟨_, SqL.of e1⟩, fun D nD => ?_⟩
  refine dcW (walk_l K p ys) (fun i H' => Same H1 H' ∧ TI' w H' D (((pointsOf ds).take i).map fun p => (p, (0 : Int)))) (fun j H' _ hP => SqL.of (hP.1 _ _ e1)) ⟨same_upd nD, Tbl.new nD⟩ (fun i x H2 H2' hi hY hP => ?_) (fun H2 hP => ?_)
  · obtain ⟨rfl, hx⟩ := hY
    obtain ⟨s2, T2⟩ := hP
    obtain ⟨k, hk, m⟩ := MKeysAt.to k1 hx
    exact ⟨rfl, x, rfl, zero_step nd lp hk nD s2 T2 (MKeyAt.same s2 m) (pt_dep (pts_pt ok (List.mem_of_getElem? hk)))⟩
  obtain ⟨s2, T2⟩ := hP
  rw [ly, List.take_length] at T2
  refine fun B nB => ?_
  have s3 := same_upd (p := B) (o := mDict w B []) nB
  have T3 : TI' w (upd H2 B (mDict w B [])) D ((pointsOf ds).map fun p => (p, (0 : Int))) := Tbl.same s3 T2
  have B3 : TN w (upd H2 B (mDict w B [])) B [] := Tbl.new nB
  obtain ⟨oD, eD⟩ := T2.ob
  have nDB : D ≠ B := ne_of_none eD nB
  have s03 := s0.trans (s1.trans (s2.trans s3))
  have nD0 : H D = none := none_back (s0.trans s1) nD
  have nB0 : H B = none := none_back (s0.trans (s1.trans s2)) nB
  refine ⟨_, rfl, _, rfl, _, rfl, ?_⟩
  refine ⟨v, D, B, ds, _, _, rfl, hd.same s03, ok, T3, B3, nDB, by rw [List.length_map]; omega, by simp, fun u o mL mB n H4 R nn es la => ?_⟩
  have g4 : Grs [D, B] H H4 := (Grs.of s03).trans R.gr
  have s4 : Same H H4 := g4.free (fun a ha => by
    simp only [List.mem_cons, List.not_mem_nil, or_false] at ha
    rcases ha with rfl | rfl
    · exact nD0
    · exact nB0)
  have z := settled_zero (ds := ds) (pts := pointsOf ds) (fun d hdm => (pts_df ok d hdm).1) (L := lookI ((pointsOf ds).map fun p => (p, (0 : Int)))) (s' := stOf mL mB)
  have ek : mL.map (·.1) = pointsOf ds := by
    have := R.ks (fun p hp => by rw [List.map_map]; simpa using (pts_mem ok).mpr (.inr hp))
    rw [this, List.map_map]
    exact (List.map_congr_left fun _ _ => rfl).trans (List.map_id _)
  refine ⟨_, rfl, rfl, _, rfl, ?_⟩
  cases o with
  | none =>
    have la : u = .non := la
    subst la
    refine iteT ?_
    obtain ⟨fl, _⟩ := z.1 es
    refine qn H4 ?_ s4
    have has : ∀ p ∈ pointsOf ds, ∃ v, lookI mL p = some v := fun p hp => lookI_some (by rw [ek]; exact hp)
    have ff : Fits ds fun p => (lookI mL p).getD 0 := fun x b m hm => by
      obtain ⟨h1, h2⟩ := pts_df ok _ hm
      obtain ⟨vb, hb⟩ := has b h2
      obtain ⟨va, ha, hle⟩ := fl x b m hm vb hb
      have ha : lookI mL x = some va := ha
      show (lookI mL x).getD 0 - (lookI mL b).getD 0 ≤ m
      rw [ha, hb]
      show va - vb ≤ m
      omega
    exact ff.no
  | some x =>
    obtain ⟨rg, lo, ⟨c1, hc1, ec1⟩, neg⟩ := z.2 x es
    have lo : ∀ n, Lowered ds (lookI mB) (bks ds (lookI mB) n x) := lo
    have inp : ∀ n, bks ds (lookI mB) n x ∈ PTS := fun n => by
      obtain ⟨m, _, e, _⟩ := (lo n).at_
      exact (ok.pt _ (List.mem_of_getElem? e)).1
    have mx : MKeyAt H4 x u := la
    rw [decide_eq_false (key_non mx (pt_non (inp 0)))]
    refine iteF ?_
    -- back so many steps
    obtain ⟨xs, M, r⟩ := id R.tl
    obtain ⟨xB, MB, rB⟩ := id R.tb
    have lx : xs.length = (pointsOf ds).length := by
      have := md_len r
      rw [List.length_map] at this
      rw [this, ← ek, List.length_map]
    have gB : ∀ k, mGet xB k = (lookI mB k).map fun n : Nat => V.int n := fun k => by
      rw [get_look rB]
      exact look_map (fun n : Nat => V.int (n : Int)) mB k
    refine ⟨D, mDict w D xs, M.at_, True.intro, fun od => ?_⟩
    have t5 : Tup H4 (upd H4 D (.frz od (mDict w D xs))) := tup_upd (md_nt M)
    have e5 : (upd H4 D (.frz od (mDict w D xs))) D = some (.frz od (mDict w D xs)) := upd_same
    have b5 : (upd H4 D (.frz od (mDict w D xs))) B = H4 B := upd_ne nDB.symm
    have back : upd (upd H4 D (.frz od (mDict w D xs))) D (mDict w D xs) = H4 := by
      rw [upd_upd]
      funext b
      by_cases e : b = D
      · rw [e, upd_same, M.at_]
      · rw [upd_ne e]
    generalize upd H4 D (.frz od (mDict w D xs)) = H5 at t5 e5 b5 back ⊢
    refine ⟨_, rfl, D, od, xs, rfl, e5, ?_⟩
    have MB5 : MD w H5 B xB := ⟨by rw [b5]; exact MB.at_, fun r hr => MKeyAt.tupd t5 (MB.ks r hr)⟩
    refine for_it (walk_m (w := w) (d := D) (o := od) (xs := xs)) (fun j σ' H' => H' = H5 ∧ ∃ (t4 : Option V) (y : V), σ' = [some v, some y, some (.ref D), some (.ref B), t4] ∧ MKeyAt H5 (bks ds (lookI mB) j x) y)
      ⟨rfl, none, u, rfl, MKeyAt.tupd t5 mx⟩ (fun j σ' H' _ hP => by rw [hP.1]; exact e5) (fun j y σ' H6 H6' hj hP hY => ?_) (fun σ' H6 hP => ?_)
    · obtain ⟨rfl, t4, y0, rfl, my⟩ := hP
      obtain ⟨rfl, row, hrow, rfl⟩ := hY
      obtain ⟨m, eb, ed, em⟩ := (lo j).at_
      have hi : idx (lookI mB) (bks ds (lookI mB) j x) < us.length := by rw [lu]; exact (List.getElem?_eq_some_iff.mp ed).1
      obtain ⟨d, t, p1, p2, hd2, hx2, et, _, m2⟩ := rows _ _ (List.getElem?_eq_getElem hi)
      rw [ed] at hd2
      cases hd2
      have hv : mGet xB (bks ds (lookI mB) j x) = some (V.int (idx (lookI mB) (bks ds (lookI mB) j x) : Nat)) := by rw [gB, eb]; rfl
      have t45 := (Same.tp s4).trans t5
      refine ⟨_, rfl, _, rfl, _, rfl, B, xB, _, _, rfl, MB5, my, pt_dep (inp j), hv, a, us, _, _, ev, rfl, SqT.of (t45 _ _ ea), atI_nat (by rw [List.getElem?_eq_getElem hi, hx2]), t, _, 1, _, rfl, rfl, SqT.of (t45 _ _ et), rfl, ?_⟩
      refine ⟨rfl, _, p2, rfl, ?_⟩
      rw [bks_succ]
      exact MKeyAt.tupd t45 m2
    · obtain ⟨rfl, t4, y, rfl, my⟩ := hP
      rw [lx] at my
      refine ⟨e5, ?_⟩
      rw [back]
      have my4 : MKeyAt H4 (bks ds (lookI mB) (pointsOf ds).length x) y := by
        have : Tup H6 H4 := fun b zs e => by
          rw [← back, upd_ne (fun q => by rw [q, e5] at e; cases e)]
          exact e
        exact MKeyAt.tupd this my
      obtain ⟨c, hc1', ⟨c0, ec⟩, nc⟩ := least (p := fun c => 0 < c ∧ bks ds (lookI mB) c (bks ds (lookI mB) (pointsOf ds).length x) = bks ds (lookI mB) (pointsOf ds).length x) c1 ⟨hc1, ec1⟩
      have lo2 : ∀ n, Lowered ds (lookI mB) (bks ds (lookI mB) n (bks ds (lookI mB) (pointsOf ds).length x)) := fun n => by rw [← bks_add]; exact lo _
      have hneg : bms ds (lookI mB) c (bks ds (lookI mB) (pointsOf ds).length x) < 0 := neg c c0 ec
      obtain ⟨c9, rix⟩ := ring_ok lo2 (fun d hdm => (ok.pt d hdm).1) c0 ec (fun i hi hic e => nc i hic ⟨hi, e⟩) hneg
      refine ⟨_, rfl, _, rfl, _, rfl, ?_⟩
      exact ⟨v, y, B, ds, mB, _, c, rfl, hd.same s4, ok, R.tb, my4, inp _, lo2, c0, by omega, ec, fun i hi hic e => nc i hic ⟨hi, e⟩, fun t H' s n e => qr _ t H' rg rix (s4.trans s) (none_back s4 n) e⟩
end
end K11
end
section
set_option maxRecDepth 100000
set_option maxHeartbeats 4000000
namespace K11
open PySem PySem.Spec PyProof.Rows L2
section
variable {P : Program} {w : World} {K : PySem.W.Frag} {mg : Str → Option Value} {base : Heap}
theorem ok_fish {f : Addr} {fd : FuncData} (F : Fun K "_law_tap" "_law_tap" sFish f fd) (mi : mg "int" = none) :
    FnOk P w K mg base CX0 1 f fd ["_law_keg", "_law_total"] spFish := by
  refine F.ok scFish (fun vs H Q E h => ?_) (fun cdv A outer s H vs Q E hr h => ?_)
  · obtain ⟨a, x, y, c, t, rfl, _⟩ := h
    rfl
  · obtain ⟨a, x, y, c, t, rfl, ha, C, hc, ht0, ht1, q⟩ := h
    refine ⟨_, pss_cons (ps_if (pt_cmpR op_gt (pe_ix ix_list (pv 0) pe_int (fun _ _ => rfl)) pe_int (nomark _))
        (pss_cons (ps_set (i := 2) scFish.nd rfl (.inl rfl) (pe_op op_mod (pe_callTy call_int1 (by rfl) mi (by decide +kernel) (pa_cons (pe_ix ix_list (pv 0) pe_int (fun _ _ => rfl)) pa_nil)) (pv 1)))
        (pss_cons (ps_asg (pe_op op_fdivW (pe_ix ix_list (pv 0) pe_int (fun _ _ => rfl)) (pv 1)) (pg_sub (pv 0) pe_int set_list))
        (pss_one (ps_ret (pv 2))))) pss_nil)
      (pss_cons (ps_asg (pe_op op_add (pe_ix ix_list (pv 0) pe_int (fun _ _ => rfl)) pe_int) (pg_sub (pv 0) pe_int set_list))
      (pss_cons (ps_set (i := 3) scFish.nd rfl (.inl rfl) (pe_op op_mod (pe_callTy call_int1 (by rfl) mi (by decide +kernel) (pa_cons (pe_op op_add (pe_op op_mul (pe_ix ix_list (pv 0) pe_int (fun _ _ => rfl)) pe_int) (pe_op op_mul (pe_ix ix_list (pv 0) pe_int (fun _ _ => rfl)) pe_int)) pa_nil)) pe_int))
      (pss_cons (ps_set (i := 4) scFish.nd rfl (.inl rfl) (pe_op op_mod (pe_callTy call_int1 (by rfl) mi (by decide +kernel) (pa_cons (pe_op op_add (pe_op op_mul (pv 3) (pv 3)) (pe_op op_mul pe_int (pe_ix ix_list (pv 0) pe_int (fun _ _ => rfl)))) pa_nil)) pe_int))
      (pss_one (ps_ret (pe_op op_mod (pe_callTy call_int1 (by rfl) mi (by decide +kernel) (pa_cons (pe_op op_fdiv (pe_op op_mod (pe_callTy call_int1 (by rfl) mi (by decide +kernel) (pa_cons (pe_op op_add (pe_op op_mul (pv 4) pe_int) (pv 3)) pa_nil)) pe_int) pe_int) pa_nil)) (pv 1))))))), ?_⟩
    have hS : SqL K H a [V.int x, V.int y, V.int c] := SqL.of ha
    refine ⟨.ref a, rfl, a, _, 0, .int x, rfl, rfl, hS, rfl, x, 0, rfl, rfl, _, rfl, ite2 (fun e => ?_) (fun e => ?_)⟩
    · have hx : 0 < x := of_decide_eq_true e
      refine ⟨.ref a, rfl, a, _, 0, .int x, rfl, rfl, hS, rfl, .inl ⟨x, rfl, .int t, rfl, x, t, rfl, rfl, ht0, ?_⟩⟩
      refine ⟨.ref a, rfl, a, _, 0, .int x, rfl, rfl, hS, rfl, .int t, rfl, x, t, rfl, rfl, wide_div (b := 71) ht0 (by omega) (by decide) (by decide), ?_⟩
      refine ⟨.ref a, rfl, a, _, 0, 0, rfl, rfl, ha, rfl, ?_⟩
      refine ⟨_, rfl, q _ _ _ (Int.emod_nonneg _ (by omega)) (Int.emod_lt_of_pos _ ht0) ⟨?_, ?_, C.y0, C.yb, C.c0, C.cb⟩ (by omega)⟩
      · exact Int.ediv_nonneg C.x0 (by omega)
      · have h1 : 0 ≤ x / t := Int.ediv_nonneg C.x0 (by omega)
        have h2 : x / t ≤ x := Int.ediv_le_self _ C.x0
        exact Nat.lt_of_le_of_lt (by omega) C.xb
    · have hx : x = 0 := by
        have := C.x0
        have h2 : ¬ 0 < x := fun z => e (decide_eq_true z)
        omega
      refine ⟨.ref a, rfl, a, _, 2, .int c, rfl, rfl, hS, rfl, c, 1, rfl, rfl, ?_⟩
      refine ⟨.ref a, rfl, a, _, 2, 2, rfl, rfl, ha, rfl, ?_⟩
      have hS2 : SqL K (upd H a (.lst [V.int x, V.int y, V.int (c + 1)])) a [V.int x, V.int y, V.int (c + 1)] := SqL.of upd_same
      have hy0 := C.y0
      have hyb := C.yb
      have hc0 := C.c0
      refine ⟨.ref a, rfl, a, _, 1, .int y, rfl, rfl, hS2, rfl, y, _, rfl, rfl, .inr (by decide), .ref a, rfl, a, _, 2, .int (c + 1), rfl, rfl, hS2, rfl, c + 1, _, rfl, rfl, .inr (by decide), _, _, rfl, rfl, .inl ⟨_, rfl, _, 2305843009213693951, rfl, rfl, (by show (0 : Int) < 2305843009213693951; decide), ?_⟩⟩
      have ho0 : ∀ z : Int, 0 ≤ z % 2305843009213693951 := fun z => Int.emod_nonneg _ (by decide)
      have ho1 : ∀ z : Int, z % 2305843009213693951 < 2305843009213693951 := fun z => Int.emod_lt_of_pos _ (by decide)
      show tSeq _ _ _ [some (.ref a), some (.int t), none, some (.int ((y * 3037000493900000077 + (c + 1) * 1181783497276652981) % 2305843009213693951)), none] _
      have g0 := ho0 (y * 3037000493900000077 + (c + 1) * 1181783497276652981)
      have g1 := ho1 (y * 3037000493900000077 + (c + 1) * 1181783497276652981)
      generalize (y * 3037000493900000077 + (c + 1) * 1181783497276652981) % 2305843009213693951 = u at g0 g1
      have t0 : ∀ z : Int, 0 ≤ z % 1152921504606846883 := fun z => Int.emod_nonneg _ (by decide)
      have t1 : ∀ z : Int, z % 1152921504606846883 < 1152921504606846883 := fun z => Int.emod_lt_of_pos _ (by decide)
      refine ⟨_, rfl, _, rfl, u, u, rfl, rfl, .inl ⟨by omega, by omega⟩, .ref a, rfl, a, _, 2, .int (c + 1), rfl, rfl, hS2, rfl, 39916801, c + 1, rfl, rfl, .inl (by decide), _, _, rfl, rfl, .inl ⟨_, rfl, _, 1152921504606846883, rfl, rfl, (by show (0 : Int) < 1152921504606846883; decide), ?_⟩⟩
      refine ⟨_, rfl, _, 19, rfl, rfl, .inr (by decide), _, rfl, _, u, rfl, rfl, .inl ⟨_, rfl, _, 4611686018427387847, rfl, rfl, (by show (0 : Int) < 4611686018427387847; decide), _, 65536, rfl, rfl, ⟨by decide, by decide⟩, .inl ⟨_, rfl, _, rfl, _, t, rfl, rfl, ht0, ?_⟩⟩⟩
      have e : (upd (upd H a (.lst [V.int x, V.int y, V.int (c + 1)])) a (.lst [V.int x, V.int y, V.int (c + 1)])) = upd H a (.lst [V.int x, V.int y, V.int (c + 1)]) := upd_upd
      exact q _ _ _ (Int.emod_nonneg _ (by omega)) (Int.emod_lt_of_pos _ ht0) ⟨C.x0, C.xb, C.y0, C.yb, by omega, by omega⟩ (Int.le_refl _)
def spOne : Sp := fun vs H Q _ => ∃ (a : Addr) (it : V) (x y c : Int), vs = [.ref a, it] ∧ H a = some (.lst [.int x, .int y, .int c]) ∧ Cr x y c ∧ c < 1000000 ∧
  ((∃ (p : Addr) (xs : List V), it = .ref p ∧ H p = some (.lst xs) ∧ p ≠ a ∧ 0 < xs.length ∧ xs.length ≤ 1000 ∧ ∀ (r : Nat) v x' c', xs[r]? = some v → Cr x' y c' → c' ≤ c + 1 → Q v (upd H a (.lst [.int x', .int y, .int c']))) ∨
  (∃ z : Str, it = .str z ∧ 0 < z.length ∧ z.length ≤ 1000 ∧ ∀ (r ch : Nat) x' c', z.cps.toList[r]? = some ch → Cr x' y c' → c' ≤ c + 1 → Q (.str ⟨#[ch]⟩) (upd H a (.lst [.int x', .int y, .int c']))))
theorem ok_one {f fF : Addr} {fd fdF : FuncData} (F : Fun K "_law_pick" "_law_pick" sOne f fd) (FF : Fun K "_law_tap" "_law_tap" sFish fF fdF) (bF : Binds K fdF ["_law_keg", "_law_total"] []) (gF : mg "_law_tap" = some (.ref fF)) (mi : mg "int" = none) (ml : mg "len" = none) :
    FnOk P w K mg base CX0 2 f fd ["_law_keg", "_law_items"] spOne := by
  have GF : FnOk P w K mg base CX0 1 fF fdF ["_law_keg", "_law_total"] spFish := ok_fish FF mi
  refine F.ok scOne (fun vs H Q E h => ?_) (fun cdv A outer s H vs Q E hr h => ?_)
  · obtain ⟨a, it, x, y, c, rfl, _⟩ := h
    rfl
  · obtain ⟨a, it, x, y, c, rfl, ha, C, hc, hk⟩ := h
    refine ⟨_, pss_one (ps_ret (pe_ix (IxR.or ix_list ix_str) (pv 1) (pe_call GF hr (by rfl) gF FF.kp bF .nil pass0 (pa_cons (pv 0) (pa_cons (pe_callB (CallR.or call_len_seq call_len_str) (by rfl) ml PySem.boot_len (pa_cons (pv 1) pa_nil)) pa_nil))) (fun _ _ => rfl))), ?_⟩
    rcases hk with ⟨p, xs, rfl, hp, hpa, hl0, hl1, q⟩ | ⟨z, rfl, hl0, hl1, q⟩
    · refine ⟨.ref p, rfl, .ref a, rfl, .ref p, rfl, .inl ⟨p, xs, rfl, .inl (SqL.of hp), ?_⟩⟩
      refine ⟨a, x, y, c, xs.length, rfl, ha, C, hc, by omega, by omega, fun r x' c' hr0 hr1 C' hc' => .inl ?_⟩
      have hrl : r.toNat < xs.length := by omega
      have er : ((r.toNat : Nat) : Int) = r := Int.toNat_of_nonneg hr0
      have hp' : (upd H a (.lst [.int x', .int y, .int c'])) p = some (.lst xs) := by rw [upd_ne hpa]; exact hp
      refine ⟨p, xs, r, xs[r.toNat], rfl, rfl, SqL.of hp', ?_, q r.toNat _ x' c' (List.getElem?_eq_getElem hrl) C' hc'⟩
      have g := atI_nat (xs := xs) (List.getElem?_eq_getElem hrl)
      rw [er] at g
      exact g
    · have hzs : z.length ≤ sizeLine := Nat.le_trans hl1 (by decide)
      refine ⟨.str z, rfl, .ref a, rfl, .str z, rfl, .inr ⟨z, rfl, hzs, ?_⟩⟩
      refine ⟨a, x, y, c, z.length, rfl, ha, C, hc, by omega, by omega, fun r x' c' hr0 hr1 C' hc' => .inr ?_⟩
      have hrl : r.toNat < z.cps.toList.length := by
        have : z.length = z.cps.toList.length := by simp [Str.length]
        omega
      have er : ((r.toNat : Nat) : Int) = r := Int.toNat_of_nonneg hr0
      refine ⟨z, r, z.cps.toList[r.toNat], rfl, rfl, hzs, ?_, q r.toNat _ x' c' (List.getElem?_eq_getElem hrl) C' hc'⟩
      have g := atI_nat (xs := z.cps.toList) (List.getElem?_eq_getElem hrl)
      rw [er] at g
      exact g
end
end K11
end
section
set_option autoImplicit false
set_option maxRecDepth 100000
set_option maxHeartbeats 4000000
/-! data written out in a def: keys; drawing -/
namespace K11
open PySem PySem.Spec PyProof.Rows L2 KX
def tD (pr : L2.St → Hp → Prop) (d : NestedKey) : TE := fun σ H Q => pr σ H ∧ ∀ v H', Same H H' → MKeyAt H' d v → Q v H'
def tDA (pr : L2.St → Hp → Prop) (ds : List NestedKey) : TA := fun σ H Q => pr σ H ∧ ∀ vs H', Same H H' → MKeysAt H' ds vs → Q vs H'
def tDL (pr : L2.St → Hp → Prop) (ds : List NestedKey) : TE := fun σ H Q => pr σ H ∧ ∀ p vs H', Same H H' → H p = none → H' p = some (.lst vs) → MKeysAt H' ds vs → Q (.ref p) H'
def Stb (pr : L2.St → Hp → Prop) : Prop := ∀ σ H H', Same H H' → pr σ H → pr σ H'
def prT : L2.St → Hp → Prop := fun _ _ => True
def prA (p q : L2.St → Hp → Prop) : L2.St → Hp → Prop := fun σ H => p σ H ∧ q σ H
theorem stb_T : Stb prT := fun _ _ _ _ _ => True.intro
theorem stb_A {p q : L2.St → Hp → Prop} (hp : Stb p) (hq : Stb q) : Stb (prA p q) := fun σ H H' s h => ⟨hp σ H H' s h.1, hq σ H H' s h.2⟩
section
variable {X : Cx} {e : Expr} {es : List Expr} {d : NestedKey} {ds : List NestedKey} {p q : L2.St → Hp → Prop} {pos : Pos}
theorem pd_imp {t u : TE} (h : PE X e t) (i : ∀ σ H Q, u σ H Q → t σ H Q) : PE X e u := ⟨fun pins s σ H Q I k => h.run pins s σ H Q I (i _ _ _ k)⟩
theorem pda_imp {t u : TA} (h : PA X es t) (i : ∀ σ H Q, u σ H Q → t σ H Q) : PA X es u := ⟨fun pos pins s σ H Q I k => h.run pos pins s σ H Q I (i _ _ _ k)⟩
structure PD (X : Cx) (e : Expr) (p : L2.St → Hp → Prop) (d : NestedKey) : Prop where
  pe : PE X e (tD p d)
  st : Stb p
structure PDA (X : Cx) (es : List Expr) (p : L2.St → Hp → Prop) (ds : List NestedKey) : Prop where
  pa : PA X es (tDA p ds)
  st : Stb p
theorem pd_of {t : TE} (h : PE X e t) (i : ∀ σ H Q, (∀ v H', Same H H' → MKeyAt H' d v → Q v H') → t σ H Q) : PD X e prT d := ⟨pd_imp h fun σ H Q k => i σ H Q k.2, stb_T⟩
theorem pd_str {z : Str} {j : Nat} : PD X (.Constant (.str z) j pos) prT (.text z) := pd_of pe_str fun σ H Q k => k _ H (Same.refl _) (.text z)
theorem pd_int {i : Int} {j : Nat} : PD X (.Constant (.int i) j pos) prT (.num i) := pd_of pe_int fun σ H Q k => k _ H (Same.refl _) (.num i)
theorem pd_neg {i : Int} {j : Nat} {pos2 : Pos} : PD X (.UnaryOp .USub (.Constant (.int i) j pos2) pos) prT (.num (-i)) := pd_of (pe_un un_neg pe_int) fun σ H Q k => ⟨i, rfl, k _ H (Same.refl _) (.num _)⟩
theorem pda_nil : PDA X [] prT [] := ⟨pda_imp pa_nil fun σ H Q k => k.2 [] H (Same.refl _) .nil, stb_T⟩
theorem MKeysAt.same {H H' : Hp} {ks : List NestedKey} {vs : List V} (s : Same H H') (h : MKeysAt H ks vs) : MKeysAt H' ks vs := MKeysAt.tp' (Same.tp s) h
theorem pda_cons (he : PD X e p d) (hr : PDA X es q ds) (hs : starEach (e :: es) X.env = (false, eval e X.env) :: starEach es X.env := by rfl) : PDA X (e :: es) (prA p q) (d :: ds) :=
  ⟨pda_imp (pa_cons he.pe hr.pa hs) fun σ H Q k => ⟨k.1.1, fun v H1 s1 sh => ⟨hr.st σ H H1 s1 k.1.2, fun vs H2 s2 shs => k.2 (v :: vs) H2 (s1.trans s2) (.cons (MKeyAt.same s2 sh) shs)⟩⟩, stb_A he.st hr.st⟩
theorem pd_tup {x1 : Nat} (h : PDA X es p ds) (few : ds.length ≤ 1000 := by decide) : PD X (.Tuple es x1 pos) p (.tup ds) :=
  ⟨pd_imp (pe_tup h.pa) fun σ H Q k => ⟨k.1, fun vs H1 s1 sh => by
    have l := MKeysAt.len sh
    refine ⟨by rw [sizeLine_eq]; omega, fun t nt => ?_⟩
    have w := same_upd (p := t) (o := .tup vs) nt
    exact k.2 _ _ (s1.trans w) (.tup upd_same (MKeysAt.same w sh))⟩, h.st⟩
theorem pe_lstK (h : PDA X es p ds) (few : ds.length ≤ 1000 := by decide) : PE X (.List es pos) (tDL p ds) :=
  pd_imp (pe_lst h.pa) fun σ H Q k => ⟨k.1, fun vs H1 s1 sh => by
    have l := MKeysAt.len sh
    refine ⟨by rw [sizeLine_eq]; omega, fun t nt => ?_⟩
    have w := same_upd (p := t) (o := .lst vs) nt
    exact k.2 _ _ _ (s1.trans w) (none_back s1 nt) upd_same (MKeysAt.same w sh)⟩
end
section
variable {X : Cx} {CX : CXT} {k j : Nat} {x : Str} {ps : List Str} {sp : Sp} {E : XK} {p pos : Pos}
theorem pe_fnc0 (F : Fnc X.prog X.w X.K X.mg X.base CX k x ps sp) (hr : Room j X.A) (hk : k ≤ j) (hg : Gl X x) (hx : Passes CX X E) (hdb : (x == ("__debug__" : Str)) = false := by decide) : PE X (.Call (.Name x p) [] [] pos) (tCall sp [] E tNil) := by
  obtain ⟨f, fd, G, hb, hm, hkp⟩ := F.ex
  exact pe_call0 G (hr.mono hk) hg hm hkp hb .nil hx hdb
end
/-! drawing -/
def CrAt (H : Hp) (a : Addr) (y c : Int) : Prop := ∃ x, H a = some (.lst [.int x, .int y, .int c]) ∧ Cr x y c
section
variable {a p : Addr} {y c c' : Int} {H H' : Hp} {Q : VK} {vs : List V} {ks : List NestedKey}
theorem CrAt.same (h : CrAt H a y c) (s : Same H H') : CrAt H' a y c := by
  obtain ⟨x, e, C⟩ := h
  exact ⟨x, s _ _ e, C⟩
theorem CrAt.ne (C : CrAt H a y c) (n : H p = none) : p ≠ a := by
  obtain ⟨x, e, _⟩ := C
  exact (ne_of_none e n).symm
theorem CrAt.nt (C : CrAt H a y c) : ∀ ys, H a ≠ some (.tup ys) := fun ys e => by
  obtain ⟨x, e2, _⟩ := C
  rw [e] at e2
  cases e2
/-- what changes while something is drawn: the creel alone -/
structure Gw (a : Addr) (H H' : Hp) : Prop where
  gr : Grs [a] H H'
  tu : Tup H H'
theorem Gw.refl : Gw a H H := ⟨Grs.refl, fun _ _ e => e⟩
theorem Gw.trans {H2 : Hp} (h : Gw a H H') (g : Gw a H' H2) : Gw a H H2 := ⟨h.gr.trans g.gr, h.tu.trans g.tu⟩
theorem Gw.of (s : Same H H') : Gw a H H' := ⟨Grs.of s, Same.tp s⟩
theorem Gw.at_ (g : Gw a H H') {b : Addr} {o : HO} (n : b ≠ a) (e : H b = some o) : H' b = some o := g.gr b o (by simpa using n) e
theorem Gw.upd (C : CrAt H a y c) {o : HO} : Gw a H (upd H a o) := ⟨Grs.upd (by simp), tup_upd C.nt⟩
theorem use_tap {t : Int} (C : CrAt H a y c) (hc : c < 1000000) (t0 : 0 < t) (t1 : t ≤ 1180591620717411303424) (q : ∀ r c' H', 0 ≤ r → r < t → CrAt H' a y c' → c' ≤ c + 1 → Gw a H H' → Q (.int r) H') : spFish [.ref a, .int t] H Q E0 := by
  have C0 := C
  obtain ⟨x, e, C⟩ := C
  exact ⟨a, x, y, c, t, rfl, e, C, hc, t0, t1, fun r x' c' r0 r1 C' l' => q r c' _ r0 r1 ⟨x', upd_same, C'⟩ l' (Gw.upd C0)⟩
/-- _law_pick of a list -/
theorem use_pick (C : CrAt H a y c) (hc : c < 1000000) (hp : H p = some (.lst vs)) (n : p ≠ a) (h0 : 0 < vs.length) (h1 : vs.length ≤ 1000) (q : ∀ (r : Nat) v c' H', vs[r]? = some v → CrAt H' a y c' → c' ≤ c + 1 → Gw a H H' → Q v H') : spOne [.ref a, .ref p] H Q E0 := by
  have C0 := C
  obtain ⟨x, e, C⟩ := C
  exact ⟨a, .ref p, x, y, c, rfl, e, C, hc, .inl ⟨p, vs, rfl, hp, n, h0, h1, fun r v x' c' hv C' l' => q r v c' _ hv ⟨x', upd_same, C'⟩ l' (Gw.upd C0)⟩⟩
/-- of a list of keys -/
theorem use_pickK (C : CrAt H a y c) (hc : c < 1000000) (hp : H p = some (.lst vs)) (n : p ≠ a) (hk : MKeysAt H ks vs) (h0 : 0 < ks.length) (h1 : ks.length ≤ 1000) (q : ∀ k v c' H', k ∈ ks → MKeyAt H' k v → CrAt H' a y c' → c' ≤ c + 1 → Gw a H H' → Q v H') : spOne [.ref a, .ref p] H Q E0 := by
  have l := MKeysAt.len hk
  refine use_pick C hc hp n (by omega) (by omega) fun r v c' H' hv C' l' g => ?_
  obtain ⟨k, hk1, m⟩ := MKeysAt.to hk hv
  exact q k v c' H' (List.mem_of_getElem? hk1) (MKeyAt.tupd g.tu m) C' l' g
end
end K11
end
section
set_option autoImplicit false
set_option maxRecDepth 100000
set_option maxHeartbeats 4000000
/-! is_whole of any value, is_index, is_ring_of, is_ring -/
namespace K11
open PySem PySem.Spec PyProof.Rows L2 KX RZ StX
def wholeD : PyData → Bool
  | .int _ => true
  | _ => false
def idxD (n : Int) : PyData → Bool
  | .int i => decide (0 ≤ i) && decide (i < n)
  | _ => false
def natD : PyData → Nat
  | .int i => i.toNat
  | _ => 0
def d0 : Dif := (.text "", .text "", 0)
/-- rows follow each other, the first the last -/
def Lnk (rows : List Dif) : Prop := ∀ j, j < rows.length → (rows.getD j d0).2.1 = (rows.getD (if j + 1 = rows.length then 0 else j + 1) d0).1
instance (rows : List Dif) : Decidable (Lnk rows) := inferInstanceAs (Decidable (∀ j, j < rows.length → (rows.getD j d0).2.1 = (rows.getD (if j + 1 = rows.length then 0 else j + 1) d0).1))
def sumR (rows : List Dif) : Int := (rows.map fun d => d.2.2).sum
def ringR (rows : List Dif) : Bool := decide (Lnk rows) && decide (sumR rows < 0)
def rowsI (ds : List Dif) (xs : List PyData) : List Dif := xs.map fun x => ds.getD (natD x) d0
def ringB (ds : List Dif) : PyData → Bool
  | .tuple xs => !xs.isEmpty && xs.all (idxD ds.length) && ringR (rowsI ds xs)
  | _ => false
theorem lnk_no {rows : List Dif} {j : Nat} (hj : j < rows.length) (h : (rows.getD j d0).2.1 ≠ (rows.getD (if j + 1 = rows.length then 0 else j + 1) d0).1) : ringR rows = false := by
  unfold ringR
  rw [decide_eq_false (fun l => h (l j hj))]
  rfl
theorem rowsK_at {H : Hp} {ds : List Dif} {vs : List V} (r : MKeysAt H (ds.map dfK) vs) : vs.length = ds.length ∧ ∀ (i : Nat) (x : V), vs[i]? = some x → ∃ d t p q, ds[i]? = some d ∧ x = .ref t ∧ H t = some (.tup [p, q, .int d.2.2]) ∧ MKeyAt H d.1 p ∧ MKeyAt H d.2.1 q := by
  refine ⟨by rw [r.len, List.length_map], fun i x hx => ?_⟩
  obtain ⟨k, hk, m⟩ := r.to hx
  rw [List.getElem?_map] at hk
  obtain ⟨d, hd, rfl⟩ := Option.map_eq_some_iff.mp hk
  obtain ⟨t, us, rfl, e2, r2⟩ := mtup m
  cases r2 with
  | cons r1 r2 => cases r2 with
    | cons r3 r4 => cases r4 with
      | cons r5 r6 =>
        cases r6
        cases mnum r5
        exact ⟨d, t, _, _, hd, rfl, e2, r1, r3⟩
def intD : PyData → Bool
  | .int _ => true
  | .bool _ => true
  | _ => false
def boolD : PyData → Bool
  | .bool _ => true
  | _ => false
theorem kit_int (d : PyData) : kitB (tyD d) "int" = some (intD d) := by
  cases d with
  | none => exact (by decide +kernel : kitB "NoneType" "int" = some false)
  | bool b => exact (by decide +kernel : kitB "bool" "int" = some true)
  | int i => exact (by decide +kernel : kitB "int" "int" = some true)
  | str z => exact (by decide +kernel : kitB "str" "int" = some false)
  | list z => exact (by decide +kernel : kitB "list" "int" = some false)
  | tuple z => exact (by decide +kernel : kitB "tuple" "int" = some false)
  | dict z => exact (by decide +kernel : kitB "dict" "int" = some false)
theorem kit_bool (d : PyData) : kitB (tyD d) "bool" = some (boolD d) := by
  cases d with
  | none => exact (by decide +kernel : kitB "NoneType" "bool" = some false)
  | bool b => exact (by decide +kernel : kitB "bool" "bool" = some true)
  | int i => exact (by decide +kernel : kitB "int" "bool" = some false)
  | str z => exact (by decide +kernel : kitB "str" "bool" = some false)
  | list z => exact (by decide +kernel : kitB "list" "bool" = some false)
  | tuple z => exact (by decide +kernel : kitB "tuple" "bool" = some false)
  | dict z => exact (by decide +kernel : kitB "dict" "bool" = some false)
def spWholeV : Sp := fun vs H Q _ => ∃ v d, vs = [v] ∧ Sw H v d ∧ Q (.bl (wholeD d)) H
theorem scIx : FnScope ["value", "many"] ["value", "many"] (defScope sIx) := ⟨rfl, rfl, rfl, by decide +kernel, rfl, by decide +kernel, by decide +kernel⟩
def spIx : Sp := fun vs H Q _ => ∃ v d n, vs = [v, .int n] ∧ Sw H v d ∧ Q (.bl (idxD n d)) H
abbrev nRo : List Str := ["differences", "here", "there", "one", "other", "most"]
theorem scRo : FnScope nRo ["differences"] (defScope sRo) := ⟨rfl, rfl, rfl, by decide +kernel, rfl, by decide +kernel, by decide +kernel⟩
def spRo : Sp := fun vs H Q _ => ∃ (R : Addr) (rs : List V) (rows : List Dif), vs = [.ref R] ∧ H R = some (.lst rs) ∧ MKeysAt H (rows.map dfK) rs ∧ 0 < rows.length ∧ rows.length ≤ 1000 ∧ (∀ d ∈ rows, d.1 ∈ PTS ∧ d.2.1 ∈ PTS) ∧ ∀ H', Same H H' → Q (.bl (ringR rows)) H'
section
variable {P : Program} {w : World} {K : PySem.W.Frag} {mg : Str → Option Value} {base : Heap}
theorem ok_wholeV {f : Addr} {fd : FuncData} (F : Fun K "is_whole" "is_whole" sWhole f fd) (B : Free mg) (bb : mg "bool" = none) : FnOk P w K mg base CX0 1 f fd ["value"] spWholeV := by
  refine F.ok scWhole (fun vs H Q E h => ?_) (fun cdv A outer s H vs Q E hr h => ?_)
  · obtain ⟨v, d, rfl, _⟩ := h
    rfl
  · obtain ⟨v, d, rfl, sw, q⟩ := h
    refine ⟨_, pss_one (ps_ret (pe_and (pe_callB call_isiV (by rfl) B.isinstance (by decide +kernel) (pa_cons (pv 0) (pa_cons (pe_bltn (v := .ty "int") (by rfl) B.int (by decide +kernel) rfl) pa_nil)))
      (pe_one (pe_not (pe_callB call_isiV (by rfl) B.isinstance (by decide +kernel) (pa_cons (pv 0) (pa_cons (pe_bltn (v := .ty "bool") (by rfl) bb (by decide +kernel) rfl) pa_nil))))))), ?_⟩
    refine ⟨_, rfl, v, .data d, "int", _, rfl, sw, kit_int d, ?_⟩
    cases d with
    | int i => exact ⟨true, rfl, _, rfl, v, .data (.int i), "bool", false, rfl, sw, kit_bool (.int i), _, rfl, q⟩
    | bool b => exact ⟨true, rfl, _, rfl, v, .data (.bool b), "bool", true, rfl, sw, kit_bool (.bool b), _, rfl, q⟩
    | none => exact ⟨false, rfl, q⟩
    | str z => exact ⟨false, rfl, q⟩
    | list xs => exact ⟨false, rfl, q⟩
    | tuple xs => exact ⟨false, rfl, q⟩
    | dict xs => exact ⟨false, rfl, q⟩
theorem ok_ix {f : Addr} {fd : FuncData} (F : Fun K "is_index" "is_index" sIx f fd) (W : Fnc P w K mg base CX0 1 "is_whole" ["value"] spWholeV) : FnOk P w K mg base CX0 2 f fd ["value", "many"] spIx := by
  refine F.ok scIx (fun vs H Q E h => ?_) (fun cdv A outer s H vs Q E hr h => ?_)
  · obtain ⟨v, d, n, rfl, _⟩ := h
    rfl
  · obtain ⟨v, d, n, rfl, sw, q⟩ := h
    refine ⟨_, pss_one (ps_ret (pe_and (pe_fnc W hr (by omega) (by rfl) pass0 (pa_cons (pv 0) pa_nil)) (pe_one (pe_chain op_le op_lt pe_int (pv 0) (pv 1))))), ?_⟩
    refine ⟨_, rfl, v, d, rfl, sw, ?_⟩
    cases sw with
    | int i =>
      refine ⟨true, rfl, _, rfl, _, _, rfl, rfl, _, rfl, ?_⟩
      by_cases e : (0 : Int) ≤ i
      · rw [decide_eq_true e]
        refine ⟨_, rfl, _, _, rfl, rfl, ?_⟩
        have : idxD n (.int i) = decide (i < n) := by
          show (decide (0 ≤ i) && decide (i < n)) = _
          rw [decide_eq_true e]
          rfl
        rw [this] at q
        exact q
      · rw [decide_eq_false e]
        have : idxD n (.int i) = false := by
          show (decide (0 ≤ i) && decide (i < n)) = _
          rw [decide_eq_false e]
          rfl
        rw [this] at q
        exact q
    | _ => exact ⟨false, rfl, q⟩
theorem ok_ro {f : Addr} {fd : FuncData} (F : Fun K "is_ring_of" "is_ring_of" sRo f fd) (mZ : mg "zip" = none) (mS : mg "sum" = none) : FnOk P w K mg base CX0 1 f fd ["differences"] spRo := by
  refine F.ok scRo (fun vs H Q E h => ?_) (fun cdv A outer s H vs Q E hr h => ?_)
  · obtain ⟨R, rs, rows, rfl, _⟩ := h
    rfl
  obtain ⟨R, rs, rows, rfl, eR, ks, pos, few, pts, q⟩ := h
  have hu := hr.units
  obtain ⟨ln, rw_⟩ := rowsK_at ks
  refine ⟨_, pss_cons (ps_for PassesOwn.never rfl (pi_zipA (by rfl) mZ (pa_cons (pv 0) (pa_cons (pe_lst (pa_star (pe_slice sl_list (pv 0) (po_some pe_int) po_none) (pa_cons (pe_ix ix_list (pv 0) pe_int (fun _ _ => rfl)) pa_nil))) pa_nil))) (pg_tup rfl (pgs_cons (pg_name (i := 1) scRo.nd rfl (Or.inl rfl)) (pgs_cons (pg_name (i := 2) scRo.nd rfl (Or.inl rfl)) pgs_nil)))
      (pss_one (ps_if (pt_cmpR (op_neM hu) (pe_ix ix_tup (pv 1) pe_int (fun _ _ => rfl)) (pe_ix ix_tup (pv 2) pe_int (fun _ _ => rfl)) (nomark _)) (pss_one (ps_ret pe_bl)) pss_nil))) <|
    pss_one (ps_ret (pe_cmpR op_lt (pe_callB (cr_sum rfl) (by rfl) mS (by decide +kernel) (pa_cons (pe_lc (own := [("one", 3), ("other", 4), ("most", 5)]) (g := gTup K 3 (gCons (gName 3) (gCons (gName 4) (gCons (gName 5) gNil)))) (tt := tYes) (te := tVar 5) rfl scRo.nd (pi_list (pv 0)) (blkOk_by (N := nRo) (sc := defScope sRo) (by decide +kernel))
        (fun _ _ _ _ _ => pg_tup rfl (pgs_cons (pg_name (i := 3) scRo.nd rfl (Or.inl rfl)) (pgs_cons (pg_name (i := 4) scRo.nd rfl (Or.inl rfl)) (pgs_cons (pg_name (i := 5) scRo.nd rfl (Or.inl rfl)) pgs_nil)))) (fun _ _ _ _ _ => pts_nil) (fun _ _ _ _ _ => pv 5)) pa_nil)) pe_int (nomark _))), ?_⟩
  have at_ : ∀ {j : Nat}, j < rows.length → ∃ t p q, rs[j]? = some (.ref t) ∧ H t = some (.tup [p, q, .int (rows.getD j d0).2.2]) ∧ MKeyAt H (rows.getD j d0).1 p ∧ MKeyAt H (rows.getD j d0).2.1 q ∧ (rows.getD j d0).1 ∈ PTS ∧ (rows.getD j d0).2.1 ∈ PTS := fun {j} hj => by
    obtain ⟨d, t, p, q, hd, hx, e, m1, m2⟩ := rw_ j rs[j] (List.getElem?_eq_getElem (by omega))
    have e0 : rows.getD j d0 = d := by rw [List.getD_eq_getElem?_getD, hd]; rfl
    rw [e0]
    have := pts d (List.mem_of_getElem? hd)
    exact ⟨t, p, q, by rw [List.getElem?_eq_getElem (by omega), hx], e, m1, m2, this.1, this.2⟩
  obtain ⟨x0, tl, rfl⟩ : ∃ x0 tl, rs = x0 :: tl := by
    cases rs with
    | nil => rw [List.length_nil] at ln; omega
    | cons x0 tl => exact ⟨x0, tl, rfl⟩
  refine ⟨_, rfl, _, rfl, 1, rfl, ?_⟩
  show tNoPart _ _ _
  unfold tNoPart
  refine ⟨R, x0 :: tl, rfl, SqL.of eR, fun C nC => ?_⟩
  have ec : cutV (x0 :: tl) (some 1) none = tl := by
    unfold cutV
    have e1 : HT.sIx (x0 :: tl).length 0 (some 1) = 1 := (HT.sIx_nat _ 0 1).trans (Nat.min_eq_left (by simp))
    have e2 : HT.sIx (x0 :: tl).length (x0 :: tl).length none = (x0 :: tl).length := rfl
    rw [e1, e2]
    show tl.take _ = tl
    exact List.take_of_length_le (by simp)
  rw [ec]
  have s1 := same_upd (p := C) (o := .lst tl) nC
  refine ⟨C, tl, rfl, .inr (SqL.of upd_same), ?_⟩
  refine ⟨_, rfl, R, x0 :: tl, 0, x0, rfl, rfl, SqL.of (s1 _ _ eR), atI_nat (xs := x0 :: tl) (j := 0) rfl, ?_⟩
  refine ⟨by rw [List.length_append]; simp only [List.length_cons, List.length_nil] at ln ⊢; rw [sizeLine_eq]; omega, fun L nL => ?_⟩
  have s2 := same_upd (p := L) (o := .lst (tl ++ [x0])) nL
  have s12 := s1.trans s2
  have eL : (upd (upd H C (.lst tl)) L (.lst (tl ++ [x0]))) L = some (.lst (tl ++ [x0])) := upd_same
  generalize upd (upd H C (.lst tl)) L (.lst (tl ++ [x0])) = H1 at s12 eL ⊢
  have eR1 := s12 _ _ eR
  refine ⟨R, L, x0 :: tl, tl ++ [x0], rfl, .inl ⟨SqL.of eR1, SqL.of eL, ?_⟩⟩
  have nx : ∀ {i : Nat} {y : V}, i < rows.length → (tl ++ [x0])[i]? = some y → (x0 :: tl)[if i + 1 = rows.length then 0 else i + 1]? = some y := fun {i y} hi hy => by
    simp only [List.length_cons] at ln
    by_cases e : i + 1 = rows.length
    · rw [if_pos e]
      rw [List.getElem?_append_right (by omega), show i - tl.length = 0 by omega] at hy
      exact hy
    · rw [if_neg e, List.getElem?_cons_succ]
      rw [List.getElem?_append_left (by omega)] at hy
      exact hy
  refine for_zipL (by simp) (fun i σ' H' => Same H1 H' ∧ (∀ j, j < i → (rows.getD j d0).2.1 = (rows.getD (if j + 1 = rows.length then 0 else j + 1) d0).1) ∧ ∃ t1 t2, σ' = [some (.ref R), t1, t2, none, none, none]) ⟨Same.refl _, fun j hj => absurd hj (Nat.not_lt_zero _), none, none, rfl⟩ (fun i σ' H' hP => ⟨SqL.of (hP.1 _ _ eR1), SqL.of (hP.1 _ _ eL)⟩) (fun i x y T σ' H2 hx hy hP nT => ?_) (fun σ' H2 hP => ?_)
  · obtain ⟨s3, lk, t1, t2, rfl⟩ := hP
    have hi : i < rows.length := by
      have := (List.getElem?_eq_some_iff.mp hx).1
      omega
    have hi2 : (if i + 1 = rows.length then 0 else i + 1) < rows.length := by
      split <;> omega
    obtain ⟨a, p, q0, h1, h2, h3, h4, h5, h6⟩ := at_ hi
    obtain ⟨b, p', q', g1, g2, g3, g4, g5, g6⟩ := at_ hi2
    rw [hx] at h1
    cases h1
    rw [nx hi hy] at g1
    cases g1
    have s4 := same_upd (p := T) (o := .tup [.ref a, .ref b]) nT
    have sa := s12.trans (s3.trans s4)
    refine ⟨T, _, rfl, SqT.of upd_same, rfl, _, _, rfl, _, _, rfl, rfl, ?_⟩
    refine ⟨_, rfl, a, _, 1, _, rfl, rfl, SqT.of (sa _ _ h2), rfl, ?_⟩
    refine ⟨_, rfl, b, _, 0, _, rfl, rfl, SqT.of (sa _ _ g2), rfl, ?_⟩
    refine ⟨_, _, MKeyAt.same sa h4, MKeyAt.same sa g3, pt_ok h6, pt_ok g5, _, rfl, ?_⟩
    by_cases e : (rows.getD i d0).2.1 = (rows.getD (if i + 1 = rows.length then 0 else i + 1) d0).1
    · rw [decide_eq_true e]
      refine iteF ⟨s3.trans s4, fun j hj => ?_, _, _, rfl⟩
      by_cases e2 : j = i
      · rw [e2]
        exact e
      · exact lk j (by omega)
    · rw [decide_eq_false e]
      have := q _ sa
      rw [lnk_no hi e] at this
      exact iteT this
  obtain ⟨s3, lk, t1, t2, rfl⟩ := hP
  have sa := s12.trans s3
  have lk : Lnk rows := fun j hj => lk j (by rw [ln]; exact hj)
  refine ⟨_, rfl, R, rfl, ⟨_, SqL.of (sa _ _ eR)⟩, fun S nS => ?_⟩
  refine lcA rows (fun d => V.int d.2.2) (steady_l K R (x0 :: tl)) (fun H' s => SqL.of (s _ _ (sa _ _ eR))) nS ln (by omega) (fun i x d H' QY hx hd s k => ?_) (fun H5 s5 e5 => ?_)
  · obtain ⟨d', t, p, q0, hd', rfl, e, m1, m2⟩ := rw_ i x hx
    rw [hd] at hd'
    cases hd'
    exact ⟨t, _, rfl, SqT.of (s _ _ (sa _ _ e)), rfl, _, _, rfl, _, _, rfl, _, _, rfl, rfl, rfl, _, rfl, k H' (Same.refl _)⟩
  · refine ⟨S, rows.map fun d => d.2.2, rfl, SqL.of (by rw [e5, List.map_map]; rfl), _, _, rfl, rfl, ?_⟩
    have := q _ (sa.trans s5)
    have e : ringR rows = decide (sumR rows < 0) := by
      unfold ringR
      rw [decide_eq_true lk]
      rfl
    rw [e] at this
    exact this
end
end K11
end
section
set_option autoImplicit false
set_option maxRecDepth 100000
set_option maxHeartbeats 4000000
/-! a list beside an empty list, a tuple beside an empty tuple, whatever is in it -/
namespace KX
open PySem PySem.Spec PyProof.Rows L2 PySem.SeqAt
section
variable {X : Cx}
def NilBy (K : PySem.W.Frag) (H : Hp) (x y : V) (xs : List V) : Prop := ∃ a b, x = .ref a ∧ y = .ref b ∧ ((SqL K H a xs ∧ SqL K H b []) ∨ (SqT K H a xs ∧ SqT K H b []))
def rEqNil (K : PySem.W.Frag) : R2 := fun x y H Q => ∃ xs, NilBy K H x y xs ∧ Q (.bl xs.isEmpty) H
def rNeNil (K : PySem.W.Frag) : R2 := fun x y H Q => ∃ xs, NilBy K H x y xs ∧ Q (.bl (!xs.isEmpty)) H
theorem op_eqNil (hu : X.A.units + 64 < cLine) : OpR X (compareOp .Eq) (rEqNil X.K) := by
  intro pins s σ H x y v u Q I rx ry h
  obtain ⟨xs, ⟨a, b, rfl, rfl, h⟩, q⟩ := h
  have hu' : X.A.units < cLine := by omega
  cases rx
  cases ry
  rcases h with ⟨h1, h2⟩ | ⟨h1, h2⟩
  · obtain ⟨us, r1, p1, _⟩ := I.list h1
    obtain ⟨ws, r2, p2, _⟩ := I.list h2
    cases r2
    cases xs with
    | nil =>
      cases r1
      exact RcAt.lists (e := fun _ => true) p1.isList p2.isList rfl hu' (fun j h1 _ => absurd h1 (by simp)) X.prog X.w _ _ ⟨.bl _, H, I, rfl, q⟩
    | cons z zs =>
      cases r1
      exact RcAt.lists_lengths p1.isList p2.isList (by simp) hu' X.prog X.w _ _ ⟨.bl _, H, I, rfl, q⟩
  · obtain ⟨us, r1, p1, _⟩ := I.tuple h1
    obtain ⟨ws, r2, p2, _⟩ := I.tuple h2
    cases r2
    have z := RcAt.tuples (A := X.A) (e := fun _ => true) (show s.heap.IsTuple a us.toArray from p1) (show s.heap.IsTuple b #[] from p2) hu' (fun j _ h2 => absurd h2 (Nat.not_lt_zero j)) X.prog X.w
    cases xs with
    | nil =>
      cases r1
      exact z _ _ ⟨.bl _, H, I, rfl, q⟩
    | cons z0 zs =>
      cases r1
      exact z _ _ ⟨.bl _, H, I, rfl, q⟩
theorem op_neNil (hu : X.A.units + 64 < cLine) : OpR X (compareOp .NotEq) (rNeNil X.K) := by
  intro pins s σ H x y v u Q I rx ry h
  obtain ⟨xs, ⟨a, b, rfl, rfl, h⟩, q⟩ := h
  have hu' : X.A.units + 1 < cLine := by omega
  cases rx
  cases ry
  rcases h with ⟨h1, h2⟩ | ⟨h1, h2⟩
  · obtain ⟨us, r1, p1, _⟩ := I.list h1
    obtain ⟨ws, r2, p2, _⟩ := I.list h2
    cases r2
    cases xs with
    | nil =>
      cases r1
      exact RcNeAt.lists (e := fun _ => true) p1.isList p2.isList rfl (by omega) (fun j h1 _ => absurd h1 (by simp)) X.prog X.w _ _ ⟨.bl _, H, I, rfl, q⟩
    | cons z zs =>
      cases r1
      exact RcNeAt.lists_lengths p1.isList p2.isList (by simp) (by omega) X.prog X.w _ _ ⟨.bl _, H, I, rfl, q⟩
  · obtain ⟨us, r1, p1, _⟩ := I.tuple h1
    obtain ⟨ws, r2, p2, _⟩ := I.tuple h2
    cases r2
    have z := RcNeAt.tuples (A := X.A) (e := fun _ => true) (show s.heap.IsTuple a us.toArray from p1) (show s.heap.IsTuple b #[] from p2) (by omega) (fun j _ h2 => absurd h2 (Nat.not_lt_zero j)) X.prog X.w
    cases xs with
    | nil =>
      cases r1
      exact z _ _ ⟨.bl _, H, I, rfl, q⟩
    | cons z0 zs =>
      cases r1
      exact z _ _ ⟨.bl _, H, I, rfl, q⟩
end
end KX
end
section
set_option autoImplicit false
set_option maxRecDepth 100000
set_option maxHeartbeats 4000000
/-! is_ring, _law_is_ring of any value -/
namespace K11
open PySem PySem.Spec PyProof.Rows L2 KX RZ StX
def tupD : PyData → Bool
  | .tuple _ => true
  | _ => false
def tupN : NV → Bool
  | .data d => tupD d
  | .dict _ => false
theorem kit_tup (n : NV) : kitB (tyN n) "tuple" = some (tupN n) := by
  cases n with
  | dict r => exact (by decide +kernel : kitB "dict" "tuple" = some false)
  | data d =>
    cases d with
    | none => exact (by decide +kernel : kitB "NoneType" "tuple" = some false)
    | bool b => exact (by decide +kernel : kitB "bool" "tuple" = some false)
    | int i => exact (by decide +kernel : kitB "int" "tuple" = some false)
    | str z => exact (by decide +kernel : kitB "str" "tuple" = some false)
    | list z => exact (by decide +kernel : kitB "list" "tuple" = some false)
    | tuple z => exact (by decide +kernel : kitB "tuple" "tuple" = some true)
    | dict z => exact (by decide +kernel : kitB "dict" "tuple" = some false)
def ringN (ds : List Dif) : NV → Bool
  | .data d => ringB ds d
  | .dict _ => false
def smallN : NV → Prop
  | .data (.tuple xs) => xs.length ≤ 1000
  | _ => True
theorem tupN_at {w : World} {H : Hp} {v : V} {n : NV} (h : NvAt w H v n) (t : tupN n = true) : ∃ a vs xs, v = .ref a ∧ n = .data (.tuple xs) ∧ H a = some (.tup vs) ∧ SwAll H vs xs := by
  cases n with
  | dict r => cases t
  | data d =>
    cases d with
    | tuple xs =>
      cases h with
      | tup e r => exact ⟨_, _, xs, rfl, rfl, e, r⟩
    | _ => cases t
theorem ringN_no {ds : List Dif} {n : NV} (t : tupN n = false) : ringN ds n = false := by
  cases n with
  | dict r => rfl
  | data d =>
    cases d with
    | tuple xs => cases t
    | _ => rfl
abbrev nIrg : List Str := ["differences", "value", "index"]
theorem scIrg : FnScope nIrg ["differences", "value"] (defScope sIrg) := ⟨rfl, rfl, rfl, by decide +kernel, rfl, by decide +kernel, by decide +kernel⟩
def spIrg (w : World) : Sp := fun vs H Q _ => ∃ (v u : V) (ds : List Dif) (n : NV), vs = [v, u] ∧ Ds H v ds ∧ OkDs ds ∧ NvAt w H u n ∧ smallN n ∧ ∀ H', Same H H' → Q (.bl (ringN ds n)) H'
theorem idx_in {n : Int} {d : PyData} (h : idxD n d = true) : ∃ i : Nat, d = .int i ∧ (i : Int) < n ∧ natD d = i := by
  cases d with
  | int i =>
    have h : (decide (0 ≤ i) && decide (i < n)) = true := h
    rw [Bool.and_eq_true] at h
    have h1 := of_decide_eq_true h.1
    have h2 := of_decide_eq_true h.2
    exact ⟨i.toNat, by rw [Int.toNat_of_nonneg h1], by rw [Int.toNat_of_nonneg h1]; exact h2, rfl⟩
  | _ => cases h
/-- the rows that indices tell -/
theorem rows_ok {ds : List Dif} (ok : OkDs ds) {xs : List PyData} (h : xs.all (idxD ds.length) = true) : ∀ d ∈ rowsI ds xs, d ∈ ds := fun d hd => by
  unfold rowsI at hd
  obtain ⟨x, hx, rfl⟩ := List.mem_map.mp hd
  obtain ⟨i, rfl, hi, e⟩ := idx_in (List.all_eq_true.mp h x hx)
  rw [e, List.getD_eq_getElem?_getD, List.getElem?_eq_getElem (by omega)]
  exact List.getElem_mem _
theorem rows_keysAt {H : Hp} {ds : List Dif} {us : List V} (r : MKeysAt H (ds.map dfK) us) : ∀ {xs : List PyData}, xs.all (idxD ds.length) = true → MKeysAt H ((rowsI ds xs).map dfK) (xs.map fun x => us.getD (natD x) .non)
  | [], _ => .nil
  | x :: xs, h => by
    rw [List.all_cons, Bool.and_eq_true] at h
    obtain ⟨i, rfl, hi, e⟩ := idx_in h.1
    have hk : (ds.map dfK)[i]? = some (dfK (ds.getD i d0)) := by
      rw [List.getElem?_map, List.getD_eq_getElem?_getD, List.getElem?_eq_getElem (by omega)]
      rfl
    obtain ⟨v, hv, m⟩ := r.at_ hk
    refine .cons ?_ (rows_keysAt r h.2)
    show MKeyAt H (dfK (ds.getD (natD (.int i)) d0)) (us.getD (natD (.int i)) .non)
    rw [e, List.getD_eq_getElem?_getD (l := us), hv]
    exact m
section
variable {P : Program} {w : World} {K : PySem.W.Frag} {mg : Str → Option Value} {base : Heap}
theorem ok_irg {f : Addr} {fd : FuncData} (F : Fun K "is_ring" "is_ring" sIrg f fd) (B : Free mg) (Ck : Fnc P w K mg base CX0 6 "check_differences" ["differences"] spChk) (Ix : Fnc P w K mg base CX0 2 "is_index" ["value", "many"] spIx) (Ro : Fnc P w K mg base CX0 1 "is_ring_of" ["differences"] spRo) :
    FnOk P w K mg base CX0 7 f fd ["differences", "value"] (spIrg w) := by
  refine F.ok scIrg (fun vs H Q E h => ?_) (fun cdv A outer s H vs Q E hr h => ?_)
  · obtain ⟨v, u, ds, n, rfl, _⟩ := h
    rfl
  obtain ⟨v, u, ds, n, rfl, hd, ok, hn, sm, q⟩ := h
  refine ⟨_, pss_cons (ps_expr (pe_fnc Ck hr (by omega) (by rfl) pass0 (pa_cons (pv 0) pa_nil))) <|
    pss_cons (ps_if (PW.pt (pw_or (pt_not (pt_val (pe_callB (id := "isinstance") (r := rIsiV w) call_isiV (by rfl) B.isinstance (by decide +kernel) (pa_cons (pv 1) (pa_cons (pe_bltn (v := .ty "tuple") (by rfl) B.tuple (by decide +kernel) rfl) pa_nil)))))
        (pw_or1 (pt_cmpR op_eq (pe_callB call_len_seq (by rfl) (Free.len B) PySem.boot_len (pa_cons (pv 1) pa_nil)) pe_int (nomark _))))) (pss_one (ps_ret pe_bl)) pss_nil) <|
    pss_cons (ps_if (pt_not (pt_val (pe_callB (cr_all rfl) (by rfl) B.all (by decide +kernel) (pa_cons (pe_lc (own := [("index", 2)]) (g := gName 2) (tt := tYes) rfl scIrg.nd (pi_tup (pv 1)) (blkOk_by (N := nIrg) (sc := defScope sIrg) (by decide +kernel))
        (fun _ _ _ _ _ => pg_name (i := 2) scIrg.nd rfl (Or.inl rfl) (Or.inr rfl)) (fun _ _ _ _ _ => pts_nil) (fun _ _ _ _ _ => (pe_fnc Ix hr (by omega) (by rfl) pass0 (pa_cons (pv 2) (pa_cons (pe_callB (id := "len") (r := rLen K) call_len_seq (by rfl) B.len PySem.boot_len (pa_cons (pv 0) pa_nil)) pa_nil))))) pa_nil)))) (pss_one (ps_ret pe_bl)) pss_nil) <|
    pss_one (ps_ret (pe_fnc Ro hr (by omega) (by rfl) pass0 (pa_cons (pe_lc (own := [("index", 2)]) (g := gName 2) (tt := tYes) (te := tOp (rIxT K) (tVar 0) (tVar 2)) rfl scIrg.nd (pi_tup (pv 1)) (blkOk_by (N := nIrg) (sc := defScope sIrg) (by decide +kernel))
        (fun _ _ _ _ _ => pg_name (i := 2) scIrg.nd rfl (Or.inl rfl) (Or.inr rfl)) (fun _ _ _ _ _ => pts_nil) (fun _ _ _ _ _ => (pe_ix ix_tup (pv 0) (pv 2) (fun _ _ => rfl)))) pa_nil))), ?_⟩
  have few := ok.few
  refine ⟨_, rfl, v, ds, rfl, hd, ok, fun H1 s1 => ?_⟩
  refine ⟨_, rfl, u, n, "tuple", tupN n, rfl, hn.same s1, kit_tup n, tupN n, rfl, ?_⟩
  cases ht : tupN n with
  | false =>
    have := q H1 s1
    rw [ringN_no ht] at this
    exact this
  | true =>
    obtain ⟨t, vs, xs, rfl, rfl, et, sx⟩ := tupN_at hn ht
    have ln := sx.len
    have sm : xs.length ≤ 1000 := sm
    have et1 := s1 _ _ et
    refine ⟨_, rfl, t, vs, rfl, .inr (SqT.of et1), rfl, _, rfl, ?_⟩
    by_cases e0 : vs.length = 0
    · rw [decide_eq_true (show V.int (vs.length : Nat) = V.int 0 by rw [e0]; rfl)]
      have : xs = [] := List.length_eq_zero_iff.mp (by omega)
      have q := q H1 s1
      subst this
      exact q
    rw [decide_eq_false (show ¬ V.int (vs.length : Nat) = V.int 0 from fun e => e0 (by injection e with e; omega))]
    have ne : xs.isEmpty = false := by
      cases xs with
      | nil => rw [List.length_nil] at ln; exact absurd ln e0
      | cons _ _ => rfl
    refine iteF ?_
    obtain ⟨a, us, rfl, ea, ku⟩ := mtup hd
    have lu := ku.len
    rw [List.length_map] at lu
    refine ⟨_, rfl, t, rfl, ⟨_, SqT.of et1⟩, fun D nD => ?_⟩
    refine lcA xs (fun d => V.bl (idxD ds.length d)) (steady_t K t vs) (fun H' s => SqT.of (s _ _ et1)) nD ln (by omega) (fun i x d H' QY hx hdi s k => ?_) (fun H2 s2 hD => ?_)
    · obtain ⟨d', hd', sw⟩ := sx.get hx
      rw [hdi] at hd'
      cases hd'
      refine ⟨rfl, _, rfl, _, rfl, a, us, rfl, .inr (SqT.of (s _ _ (s1 _ _ ea))), ?_⟩
      refine ⟨x, d, ((us.length : Nat) : Int), rfl, Sw.same (s1.trans s) sw, ?_⟩
      rw [lu]
      exact k H' (Same.refl _)
    refine ⟨D, xs.map (idxD ds.length), rfl, SqL.of (by rw [hD, List.map_map]; rfl), ?_⟩
    have eall : (xs.map (idxD ds.length)).all id = xs.all (idxD ds.length) := by rw [List.all_map]; rfl
    rw [eall]
    have s12 := s1.trans s2
    refine ⟨_, rfl, ?_⟩
    cases hall : xs.all (idxD ds.length) with
    | false =>
      refine iteT ?_
      have := q H2 s12
      have e : ringN ds (.data (.tuple xs)) = false := by
        show (!xs.isEmpty && xs.all (idxD ds.length) && ringR (rowsI ds xs)) = false
        rw [hall, Bool.and_false, Bool.false_and]
      rw [e] at this
      exact this
    | true =>
      refine iteF ?_
      have et2 := s12 _ _ et
      refine ⟨_, rfl, t, rfl, ⟨_, SqT.of et2⟩, fun R nR => ?_⟩
      refine lcA xs (fun x => us.getD (natD x) .non) (steady_t K t vs) (fun H' s => SqT.of (s _ _ et2)) nR ln (by omega) (fun i x d H' QY hx hdi s k => ?_) (fun H3 s3 e3 => ?_)
      · obtain ⟨d', hd', sw⟩ := sx.get hx
        rw [hdi] at hd'
        cases hd'
        obtain ⟨j, rfl, hj, ej⟩ := idx_in (List.all_eq_true.mp hall d (List.mem_of_getElem? hdi))
        cases sw
        have hu : us[j]? = some (us.getD j .non) := by
          rw [List.getD_eq_getElem?_getD, List.getElem?_eq_getElem (by omega)]
          rfl
        have k := k H' (Same.refl _)
        rw [ej] at k
        exact ⟨rfl, _, rfl, _, rfl, a, us, _, _, rfl, rfl, SqT.of (s _ _ (s12 _ _ ea)), atI_nat hu, k⟩
      · have s13 := s12.trans s3
        have kk := rows_keysAt ku hall
        refine ⟨R, _, rowsI ds xs, rfl, e3, MKeysAt.same s13 kk, ?_, ?_, fun d hdm => ok.pt d (rows_ok ok hall d hdm), fun H4 s4 => ?_⟩
        · unfold rowsI
          rw [List.length_map]
          omega
        · unfold rowsI
          rw [List.length_map]
          omega
        · have := q H4 (s13.trans s4)
          have e : ringN ds (.data (.tuple xs)) = ringR (rowsI ds xs) := by
            show (!xs.isEmpty && xs.all (idxD ds.length) && ringR (rowsI ds xs)) = _
            rw [hall, ne]
            rfl
          rw [e] at this
          exact this
end
end K11
end
section
set_option autoImplicit false
set_option maxRecDepth 100000
set_option maxHeartbeats 4000000
/-! _law_is_ring of any value -/
namespace K11
open PySem PySem.Spec PyProof.Rows L2 KX RZ StX
abbrev nIr : List Str := ["_law_differences_here", "_law_value", "_law_index", "_law_rows", "_law_at", "_law_one", "_law_other", "_law_top"]
theorem scIr : FnScope nIr ["_law_differences_here", "_law_value"] (defScope sIr) := ⟨rfl, rfl, rfl, by decide +kernel, rfl, by decide +kernel, by decide +kernel⟩
theorem atI_neg1 {xs : List V} {v : V} (h : xs[xs.length - 1]? = some v) : atI xs (-1) = some v := by
  have hl : 0 < xs.length := by
    have := (List.getElem?_eq_some_iff.mp h).1
    omega
  have e := atI_last (xs.take (xs.length - 1)) v
  have : xs.take (xs.length - 1) ++ [v] = xs := by
    have e2 : xs.take (xs.length - 1 + 1) = xs := by rw [show xs.length - 1 + 1 = xs.length by omega, List.take_length]
    rw [List.take_add_one, h] at e2
    exact e2
  rw [this] at e
  exact e
section
variable {P : Program} {w : World} {K : PySem.W.Frag} {mg : Str → Option Value} {base : Heap}
theorem ok_ir {f : Addr} {fd : FuncData} (F : Fun K "_law_is_ring" "_law_is_ring" sIr f fd) (B : Free mg) (bb : mg "bool" = none) (mS : mg "sum" = none) : FnOk P w K mg base CX0 1 f fd ["_law_differences_here", "_law_value"] (spIrg w) := by
  refine F.ok scIr (fun vs H Q E h => ?_) (fun cdv A outer s H vs Q E hr h => ?_)
  · obtain ⟨v, u, ds, n, rfl, _⟩ := h
    rfl
  obtain ⟨v, u, ds, n, rfl, hd, ok, hn, sm, q⟩ := h
  have hu := hr.units
  refine ⟨_, pss_cons (ps_if (PW.pt (pw_or (pt_not (pt_val (pe_callB (id := "isinstance") (r := rIsiV w) call_isiV (by rfl) B.isinstance (by decide +kernel) (pa_cons (pv 1) (pa_cons (pe_bltn (v := .ty "tuple") (by rfl) B.tuple (by decide +kernel) rfl) pa_nil))))) (pw_or1 (pt_cmpR (op_eqNil hu) (pv 1) (pe_tup pa_nil) (nomark _))))) (pss_one (ps_ret pe_bl)) pss_nil) <|
    pss_cons (ps_for PassesOwn.never rfl (pi_tup (pv 1)) (pg_name (i := 2) scIr.nd rfl (Or.inl rfl))
      (pss_one (ps_if (PW.pt (pw_or (pt_not (pt_val (pe_callB (id := "isinstance") (r := rIsiV w) call_isiV (by rfl) B.isinstance (by decide +kernel) (pa_cons (pv 2) (pa_cons (pe_bltn (v := .ty "int") (by rfl) B.int (by decide +kernel) rfl) pa_nil)))))
          (pw_or (pt_val (pe_callB (id := "isinstance") (r := rIsiV w) call_isiV (by rfl) B.isinstance (by decide +kernel) (pa_cons (pv 2) (pa_cons (pe_bltn (v := .ty "bool") (by rfl) bb (by decide +kernel) rfl) pa_nil))))
          (pw_or1 (pt_not (pt_chain op_le op_lt pe_int (pv 2) (pe_callB call_len_seq (by rfl) (Free.len B) PySem.boot_len (pa_cons (pv 0) pa_nil))))))) ) (pss_one (ps_ret pe_bl)) pss_nil))) <|
    pss_cons (ps_setLc (i := 3) (own := [("_law_index", 2)]) (g := gName 2) (tt := tYes) (te := tOp (rIxT K) (tVar 0) (tVar 2)) rfl scIr.nd rfl rfl (sw_true rfl rfl rfl (by decide +kernel)) (pi_tup (pv 1)) (blkOk_by (N := nIr) (sc := defScope sIr) (by decide +kernel))
        (fun _ _ _ _ _ => pg_name (i := 2) scIr.nd rfl (Or.inl rfl) (Or.inr rfl)) (fun _ _ _ _ _ => pts_nil) (fun _ _ _ _ _ => (pe_ix ix_tup (pv 0) (pv 2) (fun _ _ => rfl)))) <|
    pss_cons (ps_for PassesOwn.never rfl (pi_range1 (by rfl) B.range (pa_cons (pe_callB call_len_seq (by rfl) (Free.len B) PySem.boot_len (pa_cons (pv 3) pa_nil)) pa_nil)) (pg_name (i := 4) scIr.nd rfl (Or.inl rfl))
      (pss_one (ps_if (pt_cmpR (op_neM hu) (pe_ix ix_tup (pe_ix ix_list (pv 3) (pe_op op_sub (pv 4) pe_int) (fun _ _ => rfl)) pe_int (fun _ _ => rfl)) (pe_ix ix_tup (pe_ix ix_list (pv 3) (pv 4) (fun _ _ => rfl)) pe_int (fun _ _ => rfl)) (nomark _)) (pss_one (ps_ret pe_bl)) pss_nil))) <|
    pss_one (ps_ret (pe_cmpR op_lt (pe_callB (cr_sum rfl) (by rfl) mS (by decide +kernel) (pa_cons (pe_lc (own := [("_law_one", 5), ("_law_other", 6), ("_law_top", 7)]) (g := gTup K 3 (gCons (gName 5) (gCons (gName 6) (gCons (gName 7) gNil)))) (tt := tYes) (te := tVar 7) rfl scIr.nd (pi_list (pv 3)) (blkOk_by (N := nIr) (sc := defScope sIr) (by decide +kernel))
        (fun _ _ _ _ _ => pg_tup rfl (pgs_cons (pg_name (i := 5) scIr.nd rfl (Or.inl rfl) (Or.inr rfl)) (pgs_cons (pg_name (i := 6) scIr.nd rfl (Or.inl rfl) (Or.inr rfl)) (pgs_cons (pg_name (i := 7) scIr.nd rfl (Or.inl rfl) (Or.inr rfl)) pgs_nil)))) (fun _ _ _ _ _ => pts_nil) (fun _ _ _ _ _ => pv 7)) pa_nil)) pe_int (nomark _))), ?_⟩
  have few := ok.few
  refine ⟨_, rfl, u, n, "tuple", tupN n, rfl, hn, kit_tup n, tupN n, rfl, ?_⟩
  cases ht : tupN n with
  | false =>
    have := q H (Same.refl _)
    rw [ringN_no ht] at this
    exact this
  | true =>
  obtain ⟨t, vs, xs, rfl, rfl, et, sx⟩ := tupN_at hn ht
  have ln := sx.len
  have sm : xs.length ≤ 1000 := sm
  refine ⟨_, rfl, le_line (by simp), fun N nN => ?_⟩
  have s1 := same_upd (p := N) (o := .tup []) nN
  refine ⟨vs, ⟨t, N, rfl, rfl, .inr ⟨SqT.of (s1 _ _ et), SqT.of upd_same⟩⟩, _, rfl, ?_⟩
  have et1 := s1 _ _ et
  generalize upd H N (.tup []) = H1 at s1 et1 ⊢
  cases e0 : vs.isEmpty with
  | true =>
    have : vs = [] := List.isEmpty_iff.mp e0
    subst this
    have : xs = [] := List.length_eq_zero_iff.mp ln.symm
    subst this
    exact q H1 s1
  | false =>
  have ne : xs.isEmpty = false := by
    cases xs with
    | nil =>
      have : vs = [] := List.length_eq_zero_iff.mp ln
      rw [this] at e0
      cases e0
    | cons _ _ => rfl
  have bad : xs.all (idxD ds.length) = false → ringN ds (.data (.tuple xs)) = false := fun h => by
    show (!xs.isEmpty && xs.all (idxD ds.length) && ringR (rowsI ds xs)) = false
    rw [h, Bool.and_false, Bool.false_and]
  have good : xs.all (idxD ds.length) = true → ringN ds (.data (.tuple xs)) = ringR (rowsI ds xs) := fun h => by
    show (!xs.isEmpty && xs.all (idxD ds.length) && ringR (rowsI ds xs)) = _
    rw [h, ne]
    rfl
  refine iteF ?_
  obtain ⟨a, us, rfl, ea, ku⟩ := mtup hd
  have lu := ku.len
  rw [List.length_map] at lu
  have ea1 := s1 _ _ ea
  -- indices
  refine ⟨_, rfl, t, rfl, ⟨_, SqT.of et1⟩, ?_⟩
  refine for_tup (K := K) (a := t) (xs := vs) (fun i σ' H' => H' = H1 ∧ (∀ j d, j < i → xs[j]? = some d → idxD ds.length d = true) ∧ ∃ t2, σ' = [some (.ref a), some (.ref t), t2, none, none, none, none, none]) ⟨rfl, fun j d hj => absurd hj (Nat.not_lt_zero _), none, rfl⟩ (fun i σ' H' _ hP => by rw [hP.1]; exact SqT.of et1) (fun i x σ' H2 hi hP => ?_) (fun σ' H2 hP => ?_)
  · obtain ⟨rfl, al, t2, rfl⟩ := hP
    obtain ⟨d, hdi, sw⟩ := sx.get hi
    have sw1 := Sw.same s1 sw
    have no : idxD ds.length d = false → Q (.bl false) H2 := fun h => by
      have := q H2 s1
      rw [bad (by
        cases e : xs.all (idxD ds.length) with
        | false => rfl
        | true =>
          have := List.all_eq_true.mp e d (List.mem_of_getElem? hdi)
          rw [h] at this
          cases this)] at this
      exact this
    have nx : idxD ds.length d = true → ∀ j d', j < i + 1 → xs[j]? = some d' → idxD ds.length d' = true := fun h j d' hj hd' => by
      by_cases e : j = i
      · subst e
        rw [hdi] at hd'
        cases hd'
        exact h
      · exact al j d' (by omega) hd'
    refine ⟨_, rfl, x, .data d, "int", _, rfl, sw1, kit_int d, _, rfl, ?_⟩
    cases sw1 with
    | int k =>
      refine ⟨_, rfl, .int k, .data (.int k), "bool", false, rfl, .int k, kit_bool (.int k), false, rfl, ?_⟩
      refine ⟨_, rfl, _, _, rfl, rfl, _, rfl, ?_⟩
      by_cases h0 : (0 : Int) ≤ k
      · rw [decide_eq_true h0]
        refine iteT ⟨_, rfl, a, _, rfl, .inr (SqT.of ea1), _, _, rfl, rfl, _, rfl, ?_⟩
        by_cases h1 : k < (us.length : Nat)
        · rw [decide_eq_true h1]
          have ii : idxD ds.length (.int k) = true := by
            show (decide (0 ≤ k) && decide (k < _)) = true
            rw [decide_eq_true h0, decide_eq_true (by omega)]
            rfl
          exact ⟨rfl, nx ii, _, rfl⟩
        · rw [decide_eq_false h1]
          exact no (by
            show (decide (0 ≤ k) && decide (k < _)) = false
            rw [decide_eq_false (p := k < _) (by omega), Bool.and_false])
      · rw [decide_eq_false h0]
        exact iteF ⟨_, rfl, no (by
          show (decide (0 ≤ k) && decide (k < _)) = false
          rw [decide_eq_false h0, Bool.false_and])⟩
    | bl b => exact ⟨_, rfl, .bl b, .data (.bool b), "bool", true, rfl, .bl b, kit_bool (.bool b), true, rfl, no rfl⟩
    | non => exact no rfl
    | str z => exact no rfl
    | tup e r => exact no rfl
    | lst e r => exact no rfl
  obtain ⟨rfl, al, t2, rfl⟩ := hP
  have hall : xs.all (idxD ds.length) = true := List.all_eq_true.mpr fun d hdm => by
    obtain ⟨j, hj⟩ := List.mem_iff_getElem?.mp hdm
    have := (List.getElem?_eq_some_iff.mp hj).1
    exact al j d (by omega) hj
  have gd := good hall
  -- rows
  refine ⟨_, rfl, t, rfl, ⟨_, SqT.of et1⟩, fun R nR => ?_⟩
  refine lcA xs (fun x => us.getD (natD x) .non) (steady_t K t vs) (fun H' s => SqT.of (s _ _ et1)) nR ln (by omega) (fun i x d H' QY hx hdi s k => ?_) (fun H3 s3 e3 => ?_)
  · obtain ⟨d', hd', sw⟩ := sx.get hx
    rw [hdi] at hd'
    cases hd'
    obtain ⟨j, rfl, hj, ej⟩ := idx_in (List.all_eq_true.mp hall d (List.mem_of_getElem? hdi))
    cases sw
    have hu : us[j]? = some (us.getD j .non) := by
      rw [List.getD_eq_getElem?_getD, List.getElem?_eq_getElem (by omega)]
      rfl
    have k := k H' (Same.refl _)
    rw [ej] at k
    exact ⟨rfl, _, rfl, _, rfl, a, us, _, _, rfl, rfl, SqT.of (s _ _ ea1), atI_nat hu, k⟩
  have s03 := s1.trans s3
  have kk := MKeysAt.same s03 (rows_keysAt ku hall)
  have pts : ∀ d ∈ rowsI ds xs, d.1 ∈ PTS ∧ d.2.1 ∈ PTS := fun d hdm => ok.pt d (rows_ok ok hall d hdm)
  have lR : (rowsI ds xs).length = xs.length := by unfold rowsI; rw [List.length_map]
  obtain ⟨lr, rw_⟩ := rowsK_at kk
  rw [gd] at q
  have pos : 0 < xs.length := by
    cases xs with
    | nil => cases ne
    | cons _ _ => exact Nat.succ_pos _
  generalize (xs.map fun x => us.getD (natD x) V.non) = rs at e3 kk rw_ lr
  generalize rowsI ds xs = rows at kk pts lR rw_ q lr
  have at_ : ∀ {j : Nat}, j < rows.length → ∃ t p q, rs[j]? = some (.ref t) ∧ H3 t = some (.tup [p, q, .int (rows.getD j d0).2.2]) ∧ MKeyAt H3 (rows.getD j d0).1 p ∧ MKeyAt H3 (rows.getD j d0).2.1 q ∧ (rows.getD j d0).1 ∈ PTS ∧ (rows.getD j d0).2.1 ∈ PTS := fun {j} hj => by
    obtain ⟨d, t, p, q, hd, hx, e, m1, m2⟩ := rw_ j rs[j] (List.getElem?_eq_getElem (by omega))
    have e0 : rows.getD j d0 = d := by rw [List.getD_eq_getElem?_getD, hd]; rfl
    rw [e0]
    have := pts d (List.mem_of_getElem? hd)
    exact ⟨t, p, q, by rw [List.getElem?_eq_getElem (by omega), hx], e, m1, m2, this.1, this.2⟩
  show gName 3 (V.ref R) [some (.ref a), some (.ref t), t2, none, none, none, none, none] _ _
  refine ⟨_, rfl, R, rs, rfl, .inl (SqL.of e3), _, rfl, by omega, by omega, ?_⟩
  have en : ((rs.length : Int)).toNat = rs.length := by omega
  rw [en]
  refine for_range (n := rs.length) (fun i σ' H' => Same H3 H' ∧ (∀ j, j < i → (rows.getD (if j = 0 then rows.length - 1 else j - 1) d0).2.1 = (rows.getD j d0).1) ∧ ∃ t4, σ' = [some (.ref a), some (.ref t), t2, some (.ref R), t4, none, none, none]) ⟨Same.refl _, fun j hj => absurd hj (Nat.not_lt_zero _), none, rfl⟩ (fun i σ' H4 hi hP => ?_) (fun σ' H4 hP => ?_)
  · obtain ⟨s4, lk, t4, rfl⟩ := hP
    obtain ⟨t1, p1, p2, h1, h2, h3, h4, h5, h6⟩ := at_ (j := i) (by omega)
    obtain ⟨t0, p0, q0, g1, g2, g3, g4, g5, g6⟩ := at_ (j := if i = 0 then rows.length - 1 else i - 1) (by split <;> omega)
    have prev : atI rs (0 + (i : Nat) - 1) = some (.ref t0) := by
      rcases i with _ | i
      · show atI rs (-1) = _
        exact atI_neg1 (by rw [lr]; exact g1)
      · have : (0 : Int) + ((i + 1 : Nat) : Int) - 1 = (i : Nat) := by omega
        rw [this]
        rw [if_neg (by omega), show i + 1 - 1 = i by omega] at g1
        exact atI_nat g1
    have z : (0 : Int) + (i : Nat) = (i : Nat) := by omega
    refine ⟨_, rfl, _, rfl, _, _, rfl, rfl, R, rs, _, _, rfl, rfl, SqL.of (s4 _ _ e3), prev, t0, _, 1, _, rfl, rfl, SqT.of (s4 _ _ g2), rfl, ?_⟩
    refine ⟨_, rfl, _, rfl, R, rs, _, _, rfl, rfl, SqL.of (s4 _ _ e3), by rw [z]; exact atI_nat h1, t1, _, 0, _, rfl, rfl, SqT.of (s4 _ _ h2), rfl, ?_⟩
    refine ⟨_, _, MKeyAt.same s4 g4, MKeyAt.same s4 h3, pt_ok g6, pt_ok h5, _, rfl, ?_⟩
    by_cases e : (rows.getD (if i = 0 then rows.length - 1 else i - 1) d0).2.1 = (rows.getD i d0).1
    · rw [decide_eq_true e]
      refine iteF ⟨s4, fun j hj => ?_, _, rfl⟩
      by_cases e2 : j = i
      · rw [e2]
        exact e
      · exact lk j (by omega)
    · rw [decide_eq_false e]
      have := q H4 (s03.trans s4)
      rw [lnk_no (j := if i = 0 then rows.length - 1 else i - 1) (by split <;> omega) (by
        have : (if (if i = 0 then rows.length - 1 else i - 1) + 1 = rows.length then 0 else (if i = 0 then rows.length - 1 else i - 1) + 1) = i := by
          by_cases i0 : i = 0
          · rw [if_pos i0, if_pos (by omega), i0]
          · rw [if_neg i0, if_neg (by omega)]
            omega
        rw [this]
        exact e)] at this
      exact iteT this
  obtain ⟨s4, lk, t4, rfl⟩ := hP
  have lk : Lnk rows := fun j hj => by
    by_cases e : j + 1 = rows.length
    · rw [if_pos e]
      have := lk 0 (by omega)
      rw [if_pos rfl, show rows.length - 1 = j by omega] at this
      exact this
    · rw [if_neg e]
      have := lk (j + 1) (by omega)
      rw [if_neg (by omega), show j + 1 - 1 = j by omega] at this
      exact this
  refine ⟨_, rfl, R, rfl, ⟨_, SqL.of (s4 _ _ e3)⟩, fun S nS => ?_⟩
  refine lcA rows (fun d => V.int d.2.2) (steady_l K R rs) (fun H' s => SqL.of (s _ _ (s4 _ _ e3))) nS lr (by omega) (fun i x d H' QY hx hdi s k => ?_) (fun H5 s5 e5 => ?_)
  · obtain ⟨d', t, p, q0, hd', rfl, e, m1, m2⟩ := rw_ i x hx
    rw [hdi] at hd'
    cases hd'
    exact ⟨t, _, rfl, SqT.of (s _ _ (s4 _ _ e)), rfl, _, _, rfl, _, _, rfl, _, _, rfl, rfl, rfl, _, rfl, k H' (Same.refl _)⟩
  · refine ⟨S, rows.map fun d => d.2.2, rfl, SqL.of (by rw [e5, List.map_map]; rfl), _, _, rfl, rfl, ?_⟩
    have := q _ (s03.trans (s4.trans s5))
    have e : ringR rows = decide (sumR rows < 0) := by
      unfold ringR
      rw [decide_eq_true lk]
      rfl
    rw [e] at this
    exact this
end
end K11
end
section
set_option autoImplicit false
set_option maxRecDepth 100000
set_option maxHeartbeats 4000000
/-! for v in d.values() of dicts with texts and tuples as keys (d locked) -/
namespace KX
open PySem PySem.Spec PyProof.Rows L2
def Itmv (w : World) (d : Addr) (o : Obj) (xs : List MRow) : It :=
  ⟨fun i H => H d = some (.frz o (mDict w d xs)) ∧ i < xs.length, fun i H x H' => H' = H ∧ ∃ row, xs[i]? = some row ∧ x = row.2.2, fun i H => H d = some (.frz o (mDict w d xs)) ∧ xs.length ≤ i⟩
section
variable {P : Program} {w : World} {K : PySem.W.Frag} {tg : Expr} {d : Addr} {o : Obj} {es : Array DictEntry} {ep : Nat} {xs : List MRow}
theorem turn_mv (it : Addr) (hod : o.data = .dict es ep) : Turn P w K tg (Itmv w d o xs) [it] it (fun i h => h.IsValIter it d i xs.length ep) where
  mem := List.mem_singleton.mpr rfl
  obj := fun i h st b hb => by
    cases List.mem_singleton.mp hb
    obtain ⟨oi, e, c, dd⟩ := st
    exact ⟨oi, e, fun v z => by rw [dd] at z; cases z⟩
  keep := fun i h h' st k => by
    obtain ⟨oi, e, c, dd⟩ := st
    exact ⟨oi, k it (List.mem_singleton.mpr rfl) oi e, c, dd⟩
  item := by
    intro X hP hw hK hc i pins s σ H E I hf st hg
    cases hP
    cases hw
    cases hK
    obtain ⟨hd, hi⟩ := hg
    have hit := hf it (List.mem_singleton.mpr rfl)
    obtain ⟨hgd, _, hx, es2, ep2, hdt, sz, pr⟩ := frz_m I hd
    rw [hod] at hdt
    cases hdt
    obtain ⟨row, hrow⟩ : ∃ p, xs[i]? = some p := ⟨xs[i], List.getElem?_eq_getElem hi⟩
    obtain ⟨en, hen, _, rk, rv⟩ := Paired.atL pr hrow
    rw [Array.getElem?_toList] at hen
    have lt : i < es.size := by omega
    have ee : es[i] = en := by
      rw [Array.getElem?_eq_getElem lt] at hen
      exact Option.some.inj hen
    rw [← sz] at st
    refine wpAny_pyNext_values_item_raw st ⟨o, hgd, hx, hod⟩ lt fun h' st' sb => ?_
    have I1 : Inv X pins σ H { s with heap := h' } := I.turned (t' := s.toks) (fun b ob hb e => (sb.2 b hb).trans e) hit.1 hit.2.1 hit.2.2.2.1 hit.2.2.2.2.1 hit.2.2.2.2.2
    rw [sz] at st'
    obtain ⟨oi, e, c, dd⟩ := id st'
    rw [ee]
    exact ⟨en.val, rfl, go_of (s := { s with heap := h' }) e c dd (by decide) ⟨row.2.2, H, I1, rv, ⟨rfl, row, hrow, rfl⟩, st', fun b hb => (hf b hb).1⟩⟩
  done := by
    intro X hP hw hK hc i pins s σ H E I hf st hg
    cases hP
    cases hw
    cases hK
    obtain ⟨hd, hi⟩ := hg
    have hit := hf it (List.mem_singleton.mpr rfl)
    obtain ⟨hgd, _, hx, es2, ep2, hdt, sz, pr⟩ := frz_m I hd
    rw [hod] at hdt
    cases hdt
    rw [← sz] at st
    exact wpAny_pyNext_values_end_raw (I.ok.hd hc) st ⟨o, hgd, hx, hod⟩ (by omega) fun h' eb => ⟨rfl, I.turned (t' := s.toks) (fun b ob hb e => eb b ob hb e) hit.1 hit.2.1 hit.2.2.2.1 hit.2.2.2.2.1 hit.2.2.2.2.2⟩
  self := fun A i s Q E st h => wpAny_pyIter_valiter st h
end
def iMValues (w : World) (td : TE) : TI := fun σ H R => td σ H fun x H1 => ∃ d o xs, x = .ref d ∧ H1 d = some (.frz o (mDict w d xs)) ∧ R (Itmv w d o xs) H1
/-- for v in d.values() -/
theorem pi_mvalues {X : Cx} {tg e : Expr} {td : TE} {apos cpos : Pos} (he : PE X e td) (hb : attributeBase e "values" X.env (eval e X.env) = eval e X.env := by rfl) (hl : (apos.endLine == cpos.line) = true := by rfl) :
    PI X tg (.Call (.Attribute e "values" apos) [] [] cpos) (iMValues X.w td) := by
  refine ⟨fun pins s σ H R I h => ?_⟩
  refine wpAny_Call_method (T := "dict") (id := "dict.values") hb rfl hl F.plainAttrs_dict F.slot_dict_values F.type_dict_values (thn (he.run pins s σ H _ I h) fun u s1 ⟨x, H1, I1, rx, d, o, xs, ex, hd, q⟩ => ?_)
  subst ex
  cases (show u = Value.ref d from rx)
  obtain ⟨hgd, lo, hx, es, ep, hdt, sz, pr⟩ := frz_m I1 hd
  have raw : s1.heap.DictRaw d es ep := ⟨o, hgd, hx, hdt⟩
  refine ⟨raw.typeIs, fun b q => by cases q; exact ⟨o, hgd, hx.2.1⟩, ?_⟩
  have I2 : Inv X pins σ H1 { s1 with heap := s1.heap.push { cls := .type "dict_values", data := .fields #[.ref d] } } := I1.kept (t' := s1.toks) fun b ob q => Heap.get?_push_of_some _ q
  have fin : wpAny (model X.prog X.w) X.A (pyIter (.ref s1.heap.objs.size)) (PIE X pins σ tg R) X.xe { s1 with heap := s1.heap.push { cls := .type "dict_values", data := .fields #[.ref d] } } := by
    refine wpAny_pyIter_values_raw (d := d) ⟨_, Heap.get?_push_size _ rfl, rfl, rfl⟩ (Heap.DictRaw.at raw fun _ e => Heap.get?_push_of_some _ e) (pi_one (tk := s1.toks) I2 _ (turn_mv _ hdt) ⟨_, Heap.get?_push_size _ rfl, rfl, ?_⟩ q)
    rw [← sz]
    rfl
  show wpAny _ _ (callWith cpos (.builtin "dict.values") [.ref d] [] []) _ X.xe s1
  exact method_meetsIn F.slot_dict_values F.entry_dict_values rfl (PySem.evalArgs_none ⟨rfl, raw.typeIs, F.args_dict_values_1 _, _, meets_dict_values_raw d lo, ⟨es, ep, raw⟩, fin⟩)
end KX
end
section
set_option autoImplicit false
set_option maxRecDepth 100000
set_option maxHeartbeats 4000000
/-! which dicts fit: one judge for the program and the law; is_point of other keys -/
namespace KX
open PySem PySem.Spec PyProof.Rows L2
/-- lists and tuples stay -/
def TL (H H' : Hp) : Prop := ∀ b o, H b = some o → (∃ vs, o = .tup vs ∨ o = .lst vs) → H' b = some o
theorem TL.of {H H' : Hp} (s : Same H H') : TL H H' := fun b o e _ => s b o e
theorem TL.trans {H H1 H2 : Hp} (a : TL H H1) (b : TL H1 H2) : TL H H2 := fun c o e k => b c o (a c o e k) k
mutual
theorem Sw.tl {H H' : Hp} (s : TL H H') : ∀ {v : V} {d : PyData}, Sw H v d → Sw H' v d
  | _, _, .non => .non
  | _, _, .bl b => .bl b
  | _, _, .int i => .int i
  | _, _, .str z => .str z
  | _, _, .tup e r => .tup (s _ _ e ⟨_, .inl rfl⟩) (SwAll.tl s r)
  | _, _, .lst e r => .lst (s _ _ e ⟨_, .inr rfl⟩) (SwAll.tl s r)
theorem SwAll.tl {H H' : Hp} (s : TL H H') : ∀ {vs : List V} {ds : List PyData}, SwAll H vs ds → SwAll H' vs ds
  | _, _, .nil => .nil
  | _, _, .cons h r => .cons (Sw.tl s h) (SwAll.tl s r)
end
theorem tl_lock {w : World} {H : Hp} {D : Addr} {xs : List MRow} {u : HO} (e : H D = some (mDict w D xs)) : TL H (upd H D u) := fun b o eb k => by
  by_cases h : b = D
  · subst h
    rw [e] at eb
    cases eb
    obtain ⟨vs, k | k⟩ := k <;> cases k
  · rw [upd_ne h]
    exact eb
theorem steady_mv (w : World) (d : Addr) (o : Obj) (xs : List MRow) : Steady (Itmv w d o xs) (xs.map (·.2.2)) (fun H => H d = some (.frz o (mDict w d xs))) :=
  ⟨fun H q => ⟨q, by rw [List.length_map]; exact Nat.le_refl _⟩, fun i H q h => ⟨q, by rw [List.length_map] at h; exact h⟩, fun i H x H' q y => ⟨y.1, fun _ => by
    obtain ⟨row, e, rfl⟩ := y.2
    rw [List.getElem?_map, e]
    rfl⟩⟩
end KX
namespace K11
open PySem PySem.Spec PyProof.Rows L2 KX RZ StX
theorem steady_m (w : World) (d : Addr) (o : Obj) (xs : List MRow) : Steady (Itm w d o xs) (xs.map (·.2.1)) (fun H => H d = some (.frz o (mDict w d xs))) :=
  ⟨fun H q => ⟨q, by rw [List.length_map]; exact Nat.le_refl _⟩, fun i H q h => ⟨q, by rw [List.length_map] at h; exact h⟩, fun i H x H' q y => ⟨y.1, fun _ => by
    obtain ⟨row, e, rfl⟩ := y.2
    rw [List.getElem?_map, e]
    rfl⟩⟩
theorem unlock_same {H H' : Hp} {D : Addr} {od : Obj} {u : HO} (s : Same (upd H D (.frz od u)) H') (e : H D = some u) : Same H (upd H' D u) := fun b o eb => by
  by_cases h : b = D
  · subst h
    rw [upd_same, ← e]
    exact eb
  · rw [upd_ne h]
    exact s _ _ (by rw [upd_ne h]; exact eb)
abbrev Rws := List (NestedKey × PyData)
def c7 : NestedKey := .tup [.text "a", .text "j", .num 7]
def PT3 : List NestedKey := PTS ++ [c7, .num 3]
def numD : Option PyData → Int
  | some (.int i) => i
  | _ => 0
def fitR (ds : List Dif) (rows : Rws) : Bool := decide (rows.length = (pointsOf ds).length) && (pointsOf ds).all (fun p => (lookI rows p).isSome) && rows.all (fun r => wholeD r.2) && decide (numD (lookI rows (.text "")) = 0) && ds.all fun d => decide (numD (lookI rows d.1) - numD (lookI rows d.2.1) ≤ d.2.2)
def fitN (ds : List Dif) : NV → Bool
  | .data _ => false
  | .dict rows => fitR ds rows
theorem row_at {H : Hp} {xs : List MRow} {rows : Rws} (h : Paired (RowR H) xs rows) {i : Nat} {r : NestedKey × PyData} (e : rows[i]? = some r) : ∃ x, xs[i]? = some x ∧ x.1 = r.1 ∧ Sw H x.2.2 r.2 := by
  induction h generalizing i with
  | nil => cases e
  | cons a _ ih =>
    cases i with
    | zero => cases e; exact ⟨_, rfl, a⟩
    | succ i => exact ih (i := i) e
theorem row_len {H : Hp} {xs : List MRow} {rows : Rws} (h : Paired (RowR H) xs rows) : xs.length = rows.length := Paired.length h
theorem row_get {H : Hp} {xs : List MRow} {rows : Rws} (h : Paired (RowR H) xs rows) (k : NestedKey) : (lookI rows k = none ∧ mGet xs k = none) ∨ ∃ d v, lookI rows k = some d ∧ mGet xs k = some v ∧ Sw H v d := by
  induction h with
  | nil => exact .inl ⟨rfl, rfl⟩
  | @cons x r xs rows a _ ih =>
    have e1 : lookI (r :: rows) k = if r.1 = k then some r.2 else lookI rows k := lookI_cons ..
    have e2 : mGet (x :: xs) k = if x.1 = k then some x.2.2 else mGet xs k := by
      unfold mGet
      rw [List.find?_cons]
      by_cases e : x.1 = k
      · rw [if_pos e, decide_eq_true e]
        rfl
      · rw [if_neg e, decide_eq_false e]
    rw [e1, e2, a.1]
    by_cases e : r.1 = k
    · rw [if_pos e, if_pos e]
      exact .inr ⟨_, _, rfl, rfl, a.2⟩
    · rw [if_neg e, if_neg e]
      exact ih
theorem row_some {H : Hp} {xs : List MRow} {rows : Rws} (h : Paired (RowR H) xs rows) (k : NestedKey) : (mGet xs k).isSome = (lookI rows k).isSome := by
  rcases row_get h k with ⟨e1, e2⟩ | ⟨d, v, e1, e2, _⟩ <;> rw [e1, e2] <;> rfl
theorem look_mem {rows : Rws} {k : NestedKey} {d : PyData} (e : lookI rows k = some d) : (k, d) ∈ rows := by
  induction rows with
  | nil => cases e
  | cons r rows ih =>
    rw [show lookI (r :: rows) k = if r.1 = k then some r.2 else lookI rows k from lookI_cons ..] at e
    by_cases h : r.1 = k
    · rw [if_pos h] at e
      cases e
      rw [← h]
      exact List.mem_cons_self
    · rw [if_neg h] at e
      exact List.mem_cons_of_mem _ (ih e)
/-- as many keys as points, all points among them: no other keys -/
theorem keys_pts {ds : List Dif} {rows : Rws} (nd : (rows.map (·.1)).Nodup) (hl : rows.length = (pointsOf ds).length) (ha : (pointsOf ds).all (fun p => (lookI rows p).isSome) = true) : ∀ r ∈ rows, r.1 ∈ pointsOf ds := fun r hr => by
  have sub : ∀ p ∈ pointsOf ds, p ∈ rows.map (·.1) := fun p hp => by
    have := List.all_eq_true.mp ha p hp
    obtain ⟨d, e⟩ := Option.isSome_iff_exists.mp this
    exact List.mem_map.mpr ⟨_, look_mem e, rfl⟩
  by_cases h : r.1 ∈ pointsOf ds
  · exact h
  · exfalso
    have m : r.1 ∈ rows.map (·.1) := List.mem_map.mpr ⟨r, hr, rfl⟩
    have l := short_of_subset (r.1 :: pointsOf ds) (rows.map (·.1)) (List.nodup_cons.mpr ⟨h, pts_nd ds⟩) fun p hp => by
      rcases List.mem_cons.mp hp with rfl | hp
      · exact m
      · exact sub p hp
    rw [List.length_cons, List.length_map] at l
    omega
theorem fit_no1 {ds : List Dif} {rows : Rws} (h : rows.length ≠ (pointsOf ds).length) : fitR ds rows = false := by
  unfold fitR
  rw [decide_eq_false h]
  rfl
theorem fit_no2 {ds : List Dif} {rows : Rws} (h : (pointsOf ds).all (fun p => (lookI rows p).isSome) = false) : fitR ds rows = false := by
  unfold fitR
  rw [h, Bool.and_false]
  rfl
theorem fit_no3 {ds : List Dif} {rows : Rws} (h : rows.all (fun r => wholeD r.2) = false) : fitR ds rows = false := by
  unfold fitR
  rw [h, Bool.and_false]
  rfl
theorem fit_no4 {ds : List Dif} {rows : Rws} (h : numD (lookI rows (.text "")) ≠ 0) : fitR ds rows = false := by
  unfold fitR
  rw [decide_eq_false h, Bool.and_false]
  rfl
theorem fit_last {ds : List Dif} {rows : Rws} (h1 : rows.length = (pointsOf ds).length) (h2 : (pointsOf ds).all (fun p => (lookI rows p).isSome) = true) (h3 : rows.all (fun r => wholeD r.2) = true) (h4 : numD (lookI rows (.text "")) = 0) :
    fitR ds rows = ds.all fun d => decide (numD (lookI rows d.1) - numD (lookI rows d.2.1) ≤ d.2.2) := by
  unfold fitR
  rw [decide_eq_true h1, h2, h3, decide_eq_true h4]
  rfl
/-- where all values are whole -/
theorem num_get {H : Hp} {xs : List MRow} {rows : Rws} (h : Paired (RowR H) xs rows) (h3 : rows.all (fun r => wholeD r.2) = true) {k : NestedKey} (hk : (lookI rows k).isSome = true) : mGet xs k = some (.int (numD (lookI rows k))) := by
  rcases row_get h k with ⟨e1, e2⟩ | ⟨d, v, e1, e2, sw⟩
  · rw [e1] at hk
    cases hk
  · have := List.all_eq_true.mp h3 _ (look_mem e1)
    rw [e1, e2]
    cases sw with
    | int i => rfl
    | _ => cases this
def dictN : NV → Bool
  | .data _ => false
  | .dict _ => true
theorem kit_dict {w : World} {H : Hp} {v : V} {n : NV} (h : NvAt w H v n) : kitB (tyN n) "dict" = some (dictN n) := by
  cases n with
  | dict r => exact (by decide +kernel : kitB "dict" "dict" = some true)
  | data d =>
    cases d with
    | none => exact (by decide +kernel : kitB "NoneType" "dict" = some false)
    | bool b => exact (by decide +kernel : kitB "bool" "dict" = some false)
    | int i => exact (by decide +kernel : kitB "int" "dict" = some false)
    | str z => exact (by decide +kernel : kitB "str" "dict" = some false)
    | list z => exact (by decide +kernel : kitB "list" "dict" = some false)
    | tuple z => exact (by decide +kernel : kitB "tuple" "dict" = some false)
    | dict z => cases h
/-- two promises of one def -/
theorem FnOk.or {P : Program} {w : World} {K : PySem.W.Frag} {mg : Str → Option Value} {base : Heap} {CX : CXT} {k : Nat} {f : Addr} {fd : FuncData} {ps : List Str} {sp sp' : Sp} (F : FnOk P w K mg base CX k f fd ps sp) (G : FnOk P w K mg base CX k f fd ps sp') :
    FnOk P w K mg base CX k f fd ps (fun vs H Q E => sp vs H Q E ∨ sp' vs H Q E) :=
  ⟨fun vs H Q E h => h.elim (F.len vs H Q E) (G.len vs H Q E), fun A outer s H args us vs Q E hr he hb hv hs => hs.elim (F.run A outer s H args us vs Q E hr he hb hv) (G.run A outer s H args us vs Q E hr he hb hv)⟩
def spNpI : Sp := fun vs H Q _ => ∃ i, vs = [.int i] ∧ Q (.bl false) H
def spWpI : Sp := fun vs H Q _ => ∃ i, vs = [.int i] ∧ ∀ H', Same H H' → Q (.bl false) H'
def spPtX : Sp := fun vs H Q _ => ∃ v p, vs = [v] ∧ MKeyAt H p v ∧ (p = c7 ∨ p = .num 3) ∧ ∀ H', Same H H' → Q (.bl (!decide (p = .num 3))) H'
def spPt3 : Sp := fun vs H Q _ => ∃ v p, vs = [v] ∧ MKeyAt H p v ∧ p ∈ PT3 ∧ ∀ H', Same H H' → Q (.bl (!decide (p = .num 3))) H'
section
variable {P : Program} {w : World} {K : PySem.W.Frag} {mg : Str → Option Value} {base : Heap}
theorem ok_npI {f : Addr} {fd : FuncData} {tk : Tok} (F : Fun K "is_new_position" "is_new_position" sNp f fd) (B : Free mg) : FnOk P w K mg base CX0 1 f fd ["value"] spNpI := by
  refine F.ok scNp (fun vs H Q E h => ?_) (fun cdv A outer s H vs Q E hr h => ?_)
  · obtain ⟨z, rfl, _⟩ := h
    rfl
  · obtain ⟨i, rfl, q⟩ := h
    refine ⟨_, pss_cons (ps_if (PW.pt (pw_or (pt_not (pt_val (pe_callB call_isi (by rfl) (Free.isinstance B) (by decide +kernel) (pa_cons (pv 0) (pa_cons (pe_bltn (v := .ty "str") (by rfl) (Free.str B) (by decide +kernel) rfl) pa_nil))))) (pw_or (pt_cmpR op_lt (pe_callB call_len_str (by rfl) B.len PySem.boot_len (pa_cons (pv 0) pa_nil)) pe_int (nomark _))
          (pw_or (pt_cmpR op_ne (pe_ix ix_str (pv 0) pe_int (fun _ _ => rfl)) pe_str (nomark _)) (pw_or1 (pt_cmpR op_eq (pe_ix ix_str (pv 0) pe_int (fun _ _ => rfl)) pe_str (nomark _)))))))
        (pss_one (ps_ret pe_bl)) pss_nil) (pss_one ps_never), ?_⟩
    exact ⟨_, rfl, .int i, .ty "str", .type "int", .type "str", false, rfl, .ty _, .base (.int _), kit_ty (by decide +kernel), false, rfl, q⟩
theorem ok_wpI {f : Addr} {fd : FuncData} (F : Fun K "is_word_point" "is_word_point" sWp f fd) (N : Fnc P w K mg base CX0 1 "is_name" ["value"] (spName K)) (Np : Fnc P w K mg base CX0 1 "is_new_position" ["value"] spNpI) : FnOk P w K mg base CX0 2 f fd ["value"] spWpI := by
  refine F.ok scWp (fun vs H Q E h => ?_) (fun cdv A outer s H vs Q E hr h => ?_)
  · obtain ⟨z, rfl, _⟩ := h
    rfl
  · obtain ⟨i, rfl, q⟩ := h
    refine ⟨_, pss_one (ps_ret (pe_or (pe_cmpR op_eq (pv 0) pe_str (nomark _)) (pe_or (pe_fnc N hr (by omega) (by rfl) pass0 (pa_cons (pv 0) pa_nil)) (pe_one (pe_fnc Np hr (by omega) (by rfl) pass0 (pa_cons (pv 0) pa_nil)))))), ?_⟩
    refine ⟨_, rfl, rfl, _, rfl, ?_⟩
    rw [decide_eq_false (show ¬ V.int i = V.str "" from fun e => nomatch e)]
    exact ⟨_, rfl, _, _, rfl, .odd (.base (.int i)) (by decide +kernel), fun H1 s1 => ⟨false, rfl, _, rfl, i, rfl, q H1 s1⟩⟩
theorem ok_ptX {f : Addr} {fd : FuncData} (F : Fun K "is_point" "is_point" sPt f fd) (B : Free mg) (N : Fnc P w K mg base CX0 1 "is_name" ["value"] (spName K)) (Wp : Fnc P w K mg base CX0 2 "is_word_point" ["value"] (fun vs H Q E => spWp vs H Q E ∨ spWpI vs H Q E)) (Ig : Fnc P w K mg base CX0 2 "is_integer" ["value"] spIg) :
    FnOk P w K mg base CX0 3 f fd ["value"] spPtX := by
  refine F.ok scPt (fun vs H Q E h => ?_) (fun cdv A outer s H vs Q E hr h => ?_)
  · obtain ⟨v, p, rfl, _⟩ := h
    rfl
  · obtain ⟨v, p, rfl, hp, hm, q⟩ := h
    refine ⟨_, pss_cons (ps_if (pt_not (pt_val (pe_callB call_isi (by rfl) (Free.isinstance B) (by decide +kernel) (pa_cons (pv 0) (pa_cons (pe_bltn (v := .ty "tuple") (by rfl) (Free.tuple B) (by decide +kernel) rfl) pa_nil))))) (pss_one (ps_ret (pe_fnc Wp hr (by omega) (by rfl) pass0 (pa_cons (pv 0) pa_nil)))) pss_nil)
      (pss_one (ps_ret (pe_and (pe_cmpR op_eq (pe_callB call_len_seq (by rfl) (Free.len B) PySem.boot_len (pa_cons (pv 0) pa_nil)) pe_int (nomark _)) (pe_and (pe_fnc N hr (by omega) (by rfl) pass0 (pa_cons (pe_ix ix_tup (pv 0) pe_int (fun _ _ => rfl)) pa_nil)) (pe_and (pe_fnc Wp hr (by omega) (by rfl) pass0 (pa_cons (pe_ix ix_tup (pv 0) pe_int (fun _ _ => rfl)) pa_nil)) (pe_one (pe_fnc Ig hr (by omega) (by rfl) pass0 (pa_cons (pe_ix ix_tup (pv 0) pe_int (fun _ _ => rfl)) pa_nil)))))))), ?_⟩
    rcases hm with rfl | rfl
    · unfold c7 at hp
      obtain ⟨a, us, rfl, e, r⟩ := mtup hp
      cases r with
      | cons r1 r2 => cases r2 with
        | cons r3 r4 => cases r4 with
          | cons r5 r6 =>
            cases r6
            cases mtext r1
            cases mtext r3
            cases mnum r5
            refine ⟨_, rfl, _, .ty "tuple", _, _, true, rfl, .ty _, .base (.tup e), kit_ty kit_tt, true, rfl, ?_⟩
            refine ⟨_, rfl, a, _, rfl, .inr (SqT.of e), rfl, _, rfl, ?_⟩
            refine ⟨_, rfl, a, _, 0, _, rfl, rfl, SqT.of e, rfl, _, _, rfl, .str "a" (by decide +kernel) (by decide +kernel), fun H1 s1 => ⟨_, rfl, ?_⟩⟩
            have nn : nameS "a" = true := by decide +kernel
            rw [nn]
            have e1 := s1 _ _ e
            refine ⟨_, rfl, a, _, 1, _, rfl, rfl, SqT.of e1, rfl, .inl ⟨"j", rfl, by decide +kernel, fun H2 s2 => ⟨_, rfl, ?_⟩⟩⟩
            have e2 := s2 _ _ e1
            exact ⟨_, rfl, a, _, 2, _, rfl, rfl, SqT.of e2, rfl, 7, rfl, by decide +kernel, q _ (s1.trans s2)⟩
    · cases mnum hp
      exact ⟨_, rfl, _, .ty "tuple", _, _, false, rfl, .ty _, .base (.int 3), kit_ty (by decide +kernel), false, rfl, _, rfl, .inr ⟨3, rfl, fun H1 s1 => q H1 s1⟩⟩
theorem pt3_of {f : Addr} {fd : FuncData} (F : FnOk P w K mg base CX0 3 f fd ["value"] spPt) (G : FnOk P w K mg base CX0 3 f fd ["value"] spPtX) : FnOk P w K mg base CX0 3 f fd ["value"] spPt3 :=
  (FnOk.or F G).imp fun vs H Q E h => by
    obtain ⟨v, p, rfl, hp, hm, q⟩ := h
    unfold PT3 at hm
    rcases List.mem_append.mp hm with h | h
    · refine .inl ⟨v, p, rfl, hp, h, fun H' s => ?_⟩
      have := q H' s
      rw [decide_eq_false (fun e => by
        subst e
        exact absurd h (by decide +kernel))] at this
      exact this
    · exact .inr ⟨v, p, rfl, hp, by simpa using h, q⟩
end
end K11
end
section
set_option autoImplicit false
set_option maxRecDepth 100000
set_option maxHeartbeats 4000000
/-! is_fitting of any value -/
namespace K11
open PySem PySem.Spec PyProof.Rows L2 KX RZ StX
abbrev nFtg : List Str := ["differences", "value", "points", "point", "number", "one", "other", "most"]
theorem scFtg : FnScope nFtg ["differences", "value"] (defScope sFtg) := ⟨rfl, rfl, rfl, by decide +kernel, rfl, by decide +kernel, by decide +kernel⟩
def okN : NV → Prop
  | .data _ => True
  | .dict rows => (rows.map (·.1)).Nodup ∧ (∀ r ∈ rows, r.1 ∈ PT3) ∧ rows.length ≤ 1000
def spFtg (w : World) : Sp := fun vs H Q _ => ∃ (v u : V) (ds : List Dif) (n : NV), vs = [v, u] ∧ Ds H v ds ∧ OkDs ds ∧ NvAt w H u n ∧ okN n ∧ ∀ H', Same H H' → Q (.bl (fitN ds n)) H'
theorem fit_pt3 {ds : List Dif} (ok : OkDs ds) {rows : Rws} (nd : (rows.map (·.1)).Nodup) (h : rows.all (fun r => !decide (r.1 = .num 3)) = false) : fitR ds rows = false := by
  by_cases h1 : rows.length = (pointsOf ds).length
  · cases h2 : (pointsOf ds).all (fun p => (lookI rows p).isSome) with
    | false => exact fit_no2 h2
    | true =>
      exfalso
      have : rows.all (fun r => !decide (r.1 = .num 3)) = true := List.all_eq_true.mpr fun r hr => by
        have m := pts_pt ok (keys_pts nd h1 h2 r hr)
        rw [decide_eq_false (fun e => by
          rw [e] at m
          exact absurd m (by decide +kernel))]
        rfl
      rw [h] at this
      cases this
  · exact fit_no1 h1
theorem pt3_dep {p : NestedKey} (h : p ∈ PT3) : p.depth ≤ 8 := by
  unfold PT3 at h
  rcases List.mem_append.mp h with h | h
  · exact pt_dep h
  · simp only [List.mem_cons, List.not_mem_nil, or_false] at h
    rcases h with rfl | rfl <;> decide +kernel
theorem all_id {α : Type} (l : List α) (f : α → Bool) : (l.map f).all id = l.all f := by
  rw [List.all_map]
  rfl
section
variable {P : Program} {w : World} {K : PySem.W.Frag} {mg : Str → Option Value} {base : Heap}
theorem ok_ftg {f : Addr} {fd : FuncData} (F : Fun K "is_fitting" "is_fitting" sFtg f fd) (B : Free mg) (mD : mg "dict" = none) (Ck : Fnc P w K mg base CX0 6 "check_differences" ["differences"] spChk) (Pt : Fnc P w K mg base CX0 3 "is_point" ["value"] spPt3) (Po : Fnc P w K mg base CX0 1 "points_of" ["differences"] spPo) (Wh : Fnc P w K mg base CX0 1 "is_whole" ["value"] spWholeV) :
    FnOk P w K mg base CX0 7 f fd ["differences", "value"] (spFtg w) := by
  refine F.ok scFtg (fun vs H Q E h => ?_) (fun cdv A outer s H vs Q E hr h => ?_)
  · obtain ⟨v, u, ds, n, rfl, _⟩ := h
    rfl
  obtain ⟨v, u, ds, n, rfl, hd, ok, hn, okn, q⟩ := h
  have hu := hr.units
  refine ⟨_, pss_cons (ps_expr (pe_fnc Ck hr (by omega) (by rfl) pass0 (pa_cons (pv 0) pa_nil))) <|
    pss_cons (ps_if (PW.pt (pw_or (pt_not (pt_val (pe_callB (id := "isinstance") (r := rIsiV w) call_isiV (by rfl) B.isinstance (by decide +kernel) (pa_cons (pv 1) (pa_cons (pe_bltn (v := .ty "dict") (by rfl) mD (by decide +kernel) rfl) pa_nil)))))
        (pw_or1 (pt_not (pt_val (pe_callB (cr_all rfl) (by rfl) B.all (by decide +kernel) (pa_cons (pe_lock (pe_lc (own := [("point", 3)]) (g := gName 3) (tt := tYes) rfl scFtg.nd (pi_mkeys (pv 1)) (blkOk_by (N := nFtg) (sc := defScope sFtg) (by decide +kernel))
          (fun _ _ _ _ _ => pg_name (i := 3) scFtg.nd rfl (Or.inl rfl) (Or.inr rfl)) (fun _ _ _ _ _ => pts_nil) (fun _ _ _ _ _ => (pe_fnc Pt hr (by omega) (by rfl) pass0 (pa_cons (pv 3) pa_nil))))) pa_nil))))))) (pss_one (ps_ret pe_bl)) pss_nil) <|
    pss_cons (ps_set (i := 2) scFtg.nd rfl (.inl rfl) (pe_fnc Po hr (by omega) (by rfl) pass0 (pa_cons (pv 0) pa_nil))) <|
    pss_cons (ps_if (PW.pt (pw_or (pt_cmpR op_ne (pe_callB call_lenM (by rfl) B.len PySem.boot_len (pa_cons (pv 1) pa_nil)) (pe_callB call_len_seq (by rfl) (Free.len B) PySem.boot_len (pa_cons (pv 2) pa_nil)) (nomark _))
        (pw_or1 (pt_not (pt_val (pe_callB (cr_all rfl) (by rfl) B.all (by decide +kernel) (pa_cons (pe_lc (own := [("point", 3)]) (g := gName 3) (tt := tYes) (te := tMIn w (tVar 3) (tVar 1)) rfl scFtg.nd (pi_list (pv 2)) (blkOk_by (N := nFtg) (sc := defScope sFtg) (by decide +kernel))
          (fun _ _ _ _ _ => pg_name (i := 3) scFtg.nd rfl (Or.inl rfl) (Or.inr rfl)) (fun _ _ _ _ _ => pts_nil) (fun _ _ _ _ _ => pe_cmp (pc_min hu (pv 3) (pv 1)))) pa_nil))))))) (pss_one (ps_ret pe_bl)) pss_nil) <|
    pss_cons (ps_if (PW.pt (pw_or (pt_not (pt_val (pe_callB (cr_all rfl) (by rfl) B.all (by decide +kernel) (pa_cons (pe_lock (pe_lc (own := [("number", 4)]) (g := gName 4) (tt := tYes) rfl scFtg.nd (pi_mvalues (pv 1)) (blkOk_by (N := nFtg) (sc := defScope sFtg) (by decide +kernel))
          (fun _ _ _ _ _ => pg_name (i := 4) scFtg.nd rfl (Or.inl rfl) (Or.inr rfl)) (fun _ _ _ _ _ => pts_nil) (fun _ _ _ _ _ => (pe_fnc Wh hr (by omega) (by rfl) pass0 (pa_cons (pv 4) pa_nil))))) pa_nil))))
        (pw_or1 (pt_cmpR op_ne (pe_mget hu (pv 1) pe_str (fun _ _ => rfl)) pe_int (nomark _))))) (pss_one (ps_ret pe_bl)) pss_nil) <|
    pss_one (ps_ret (pe_callB (cr_all rfl) (by rfl) B.all (by decide +kernel) (pa_cons (pe_lc (own := [("one", 5), ("other", 6), ("most", 7)]) (g := gTup K 3 (gCons (gName 5) (gCons (gName 6) (gCons (gName 7) gNil)))) (tt := tYes) (te := tOp (rI0 fun i j => .bl (decide (i ≤ j))) (tOp (rI0 fun i j => .int (i - j)) (tMGet w (tVar 1) (tVar 5)) (tMGet w (tVar 1) (tVar 6))) (tVar 7)) rfl scFtg.nd (pi_tup (pv 0)) (blkOk_by (N := nFtg) (sc := defScope sFtg) (by decide +kernel))
      (fun _ _ _ _ _ => pg_tup rfl (pgs_cons (pg_name (i := 5) scFtg.nd rfl (Or.inl rfl) (Or.inr rfl)) (pgs_cons (pg_name (i := 6) scFtg.nd rfl (Or.inl rfl) (Or.inr rfl)) (pgs_cons (pg_name (i := 7) scFtg.nd rfl (Or.inl rfl) (Or.inr rfl)) pgs_nil)))) (fun _ _ _ _ _ => pts_nil)
      (fun _ _ _ _ _ => pe_cmpR op_le (pe_op op_sub (pe_mget hu (pv 1) (pv 5) (fun _ _ => rfl)) (pe_mget hu (pv 1) (pv 6) (fun _ _ => rfl))) (pv 7) (nomark _))) pa_nil))), ?_⟩
  have few := ok.few
  refine ⟨_, rfl, v, ds, rfl, hd, ok, fun H1 s1 => ?_⟩
  refine ⟨_, rfl, u, n, "dict", dictN n, rfl, hn.same s1, kit_dict hn, dictN n, rfl, ?_⟩
  cases n with
  | data d => exact q H1 s1
  | dict rows =>
  obtain ⟨nd, kp, l1000⟩ := okn
  obtain ⟨D, xs, rfl, M, pr⟩ := hn
  have lx := row_len pr
  have Mat : ∀ {H' : Hp}, Same H H' → MD w H' D xs := fun s => ⟨s _ _ M.at_, fun x hx => MKeyAt.same s (M.ks x hx)⟩
  have M1 := Mat s1
  have no : ∀ H', Same H H' → fitR ds rows = false → Q (.bl false) H' := fun H' s e => by
    have := q H' s
    rw [show fitN ds (.dict rows) = fitR ds rows from rfl, e] at this
    exact this
  -- each key is a point
  refine ⟨D, mDict w D xs, M1.at_, True.intro, fun od => ?_⟩
  have t1 : Tup H1 (upd H1 D (.frz od (mDict w D xs))) := tup_upd (md_nt M1)
  refine ⟨_, rfl, D, od, xs, rfl, upd_same, fun R nR => ?_⟩
  have nRD : R ≠ D := fun e => by rw [e, upd_same] at nR; cases nR
  refine lcA rows (fun r => V.bl (!decide (r.1 = .num 3))) (steady_m w D od xs) (fun H' s => s _ _ upd_same) nR (by rw [List.length_map]; exact lx) (by omega) (fun i x r H' QY hx hr0 s k => ?_) (fun H2 s2 e2 => ?_)
  · obtain ⟨row, hrow, ek, _⟩ := row_at pr hr0
    rw [List.getElem?_map, hrow] at hx
    cases hx
    have m := MKeyAt.tupd (t1.trans (Same.tp s)) (M1.ks row (List.mem_of_getElem? hrow))
    refine ⟨rfl, _, rfl, row.2.1, row.1, rfl, m, by rw [ek]; exact kp r (List.mem_of_getElem? hr0), fun H4 s4 => ?_⟩
    rw [ek]
    exact k H4 s4
  refine ⟨s2 _ _ upd_same, ?_⟩
  have u2 := unlock_same s2 M1.at_
  have e2' : (upd H2 D (mDict w D xs)) R = some (.lst (rows.map fun r => V.bl (!decide (r.1 = .num 3)))) := by rw [upd_ne nRD]; exact e2
  generalize upd H2 D (mDict w D xs) = H3 at u2 e2' ⊢
  have s3 := s1.trans u2
  refine ⟨R, rows.map fun r => !decide (r.1 = .num 3), rfl, SqL.of (by rw [e2', List.map_map]; rfl), ?_⟩
  rw [all_id]
  refine ⟨_, rfl, ?_⟩
  cases h3 : rows.all (fun r => !decide (r.1 = .num 3)) with
  | false => exact iteT (no H3 s3 (fit_pt3 ok nd h3))
  | true =>
  refine iteF ?_
  -- as many keys as points
  refine ⟨_, rfl, v, ds, rfl, hd.same s3, ok, fun p ys H4 s4 nP e4 k4 => ?_⟩
  have ly := k4.len
  have s14 := s3.trans s4
  refine ⟨_, rfl, D, xs, rfl, Mat s14, _, rfl, p, ys, rfl, .inl (SqL.of e4), rfl, _, rfl, ?_⟩
  by_cases hl : rows.length = (pointsOf ds).length
  · rw [show decide (V.int ((xs.length : Nat) : Int) = V.int ((ys.length : Nat) : Int)) = true from decide_eq_true (by rw [lx, ly, hl])]
    refine ⟨_, rfl, p, rfl, ⟨_, SqL.of e4⟩, fun R2 nR2 => ?_⟩
    have pf := pts_few ok
    refine lcA (pointsOf ds) (fun k => V.bl (lookI rows k).isSome) (steady_l K p ys) (fun H' s => SqL.of (s _ _ e4)) nR2 ly (by omega) (fun i x k H' QY hx hk s kk => ?_) (fun H5 s5 e5 => ?_)
    · obtain ⟨y, hy, m⟩ := MKeysAt.at_ k4 hk
      rw [hx] at hy
      cases hy
      refine ⟨rfl, _, rfl, _, rfl, D, xs, k, rfl, Mat (s14.trans s), MKeyAt.same s m, pt_dep (pts_pt ok (List.mem_of_getElem? hk)), ?_⟩
      rw [row_some pr k]
      exact kk H' (Same.refl _)
    refine ⟨R2, (pointsOf ds).map fun k => (lookI rows k).isSome, rfl, SqL.of (by rw [e5, List.map_map]; rfl), ?_⟩
    rw [all_id]
    refine ⟨_, rfl, ?_⟩
    have s15 := s14.trans s5
    cases ha : (pointsOf ds).all (fun k => (lookI rows k).isSome) with
    | false => exact iteT (no H5 s15 (fit_no2 ha))
    | true =>
    refine iteF ?_
    have has : ∀ k ∈ pointsOf ds, (lookI rows k).isSome = true := fun k hk => List.all_eq_true.mp ha k hk
    -- each value is whole
    have M5 := Mat s15
    refine ⟨D, mDict w D xs, M5.at_, True.intro, fun od2 => ?_⟩
    have tl : TL H (upd H5 D (.frz od2 (mDict w D xs))) := (TL.of s15).trans (tl_lock M5.at_)
    refine ⟨_, rfl, D, od2, xs, rfl, upd_same, fun R3 nR3 => ?_⟩
    have nRD3 : R3 ≠ D := fun e => by rw [e, upd_same] at nR3; cases nR3
    refine lcA rows (fun r => V.bl (wholeD r.2)) (steady_mv w D od2 xs) (fun H' s => s _ _ upd_same) nR3 (by rw [List.length_map]; exact lx) (by omega) (fun i x r H' QY hx hr0 s k => ?_) (fun H6 s6 e6 => ?_)
    · obtain ⟨row, hrow, _, sw⟩ := row_at pr hr0
      rw [List.getElem?_map, hrow] at hx
      cases hx
      exact ⟨rfl, _, rfl, row.2.2, r.2, rfl, Sw.tl (tl.trans (TL.of s)) sw, k H' (Same.refl _)⟩
    refine ⟨s6 _ _ upd_same, ?_⟩
    have u6 := unlock_same s6 M5.at_
    have e6' : (upd H6 D (mDict w D xs)) R3 = some (.lst (rows.map fun r => V.bl (wholeD r.2))) := by rw [upd_ne nRD3]; exact e6
    generalize upd H6 D (mDict w D xs) = H7 at u6 e6' ⊢
    have s17 := s15.trans u6
    refine ⟨R3, rows.map fun r => wholeD r.2, rfl, SqL.of (by rw [e6', List.map_map]; rfl), ?_⟩
    rw [all_id]
    refine ⟨_, rfl, ?_⟩
    cases hw : rows.all (fun r => wholeD r.2) with
    | false => exact iteT (no H7 s17 (fit_no3 hw))
    | true =>
    refine iteF ?_
    have gv : ∀ k ∈ pointsOf ds, mGet xs k = some (.int (numD (lookI rows k))) := fun k hk => num_get pr hw (has k hk)
    refine ⟨_, rfl, D, xs, .text "", _, rfl, Mat s17, .text _, Nat.zero_le _, gv _ (pts_zero ok), rfl, _, rfl, ?_⟩
    by_cases h0 : numD (lookI rows (.text "")) = 0
    · rw [h0, decide_eq_true rfl]
      refine iteF ?_
      obtain ⟨a, us, rfl, ea, lu, rws⟩ := Ds.row hd
      refine ⟨_, rfl, a, rfl, ⟨_, SqT.of (s17 _ _ ea)⟩, fun R4 nR4 => ?_⟩
      refine lcA ds (fun d => V.bl (decide (numD (lookI rows d.1) - numD (lookI rows d.2.1) ≤ d.2.2))) (steady_t K a us) (fun H' s => SqT.of (s _ _ (s17 _ _ ea))) nR4 lu (by omega) (fun i x d H' QY hx hdi s k => ?_) (fun H8 s8 e8 => ?_)
      · obtain ⟨d', t, p1, p2, hdi', rfl, et, m1, m2⟩ := rws i x hx
        rw [hdi] at hdi'
        cases hdi'
        have hdm := List.mem_of_getElem? hdi
        obtain ⟨k1, k2⟩ := pts_df ok d hdm
        have sa := s17.trans s
        have k := k H' (Same.refl _)
        exact ⟨t, _, rfl, SqT.of (sa _ _ et), rfl, _, _, rfl, _, _, rfl, _, _, rfl, rfl, rfl, _, rfl, _, rfl, D, xs, d.1, _, rfl, Mat sa, MKeyAt.same sa m1, pt_dep (ok.pt d hdm).1, gv _ k1, _, rfl, _, rfl, D, xs, d.2.1, _, rfl, Mat sa, MKeyAt.same sa m2, pt_dep (ok.pt d hdm).2, gv _ k2, _, _, rfl, rfl, _, rfl, _, _, rfl, rfl, k⟩
      · refine ⟨R4, ds.map fun d => decide (numD (lookI rows d.1) - numD (lookI rows d.2.1) ≤ d.2.2), rfl, SqL.of (by rw [e8, List.map_map]; rfl), ?_⟩
        rw [all_id]
        have := q H8 (s17.trans s8)
        rw [show fitN ds (.dict rows) = fitR ds rows from rfl, fit_last hl ha hw h0] at this
        exact this
    · rw [decide_eq_false (fun e => h0 (V.int.inj e))]
      exact iteT (no H7 s17 (fit_no4 h0))
  · rw [show decide (V.int ((xs.length : Nat) : Int) = V.int ((ys.length : Nat) : Int)) = false from decide_eq_false (fun e => hl (by
      have := V.int.inj e
      rw [lx, ly] at this
      exact Int.ofNat.inj this))]
    exact no H4 s14 (fit_no1 hl)
end
end K11
end
section
set_option autoImplicit false
set_option maxRecDepth 100000
set_option maxHeartbeats 4000000
/-! _law_points, _law_differences -/
namespace K11
open PySem PySem.Spec PyProof.Rows L2 KX
def PT8 : List NestedKey := [.text "", .text "i", .text "j", .text "n", .text "*1", .text "*2", .tup [.text "a", .text "i", .num 1], .tup [.text "a", .text "", .num 0]]
theorem pt8 {p : NestedKey} (h : p ∈ PT8) : p ∈ PTS := by
  have : (PT8.all fun p => decide (p ∈ PTS)) = true := by decide +kernel
  exact of_decide_eq_true (List.all_eq_true.mp this p h)
theorem scPts : FnScope [] [] (defScope sPts) := ⟨rfl, rfl, rfl, by decide +kernel, rfl, by decide +kernel, by decide +kernel⟩
def spPts : Sp := fun vs H Q _ => vs = [] ∧ ∀ (p : Addr) (us : List V) (H' : Hp), Same H H' → H p = none → H' p = some (.lst us) → MKeysAt H' PT8 us → Q (.ref p) H'
abbrev nDfs : List Str := ["_law_keg", "_law_turn", "_law_some", "_law_wide", "_law_found"]
theorem scDfs : FnScope nDfs ["_law_keg"] (defScope sDfs) := ⟨rfl, rfl, rfl, by decide +kernel, rfl, by decide +kernel, by decide +kernel⟩
/-- the greatest number that is drawn -/
def big2 : Int := 200000000000000000000
/-- differences as the law draws them -/
structure DrD (ds : List Dif) : Prop where
  few : ds.length ≤ 7
  pt : ∀ d ∈ ds, d.1 ∈ PT8 ∧ d.2.1 ∈ PT8
  sm : ∀ d ∈ ds, -big2 ≤ d.2.2 ∧ d.2.2 ≤ big2
theorem DrD.ok {ds : List Dif} (h : DrD ds) : OkDs ds := ⟨by have := h.few; omega, fun d hd => ⟨pt8 (h.pt d hd).1, pt8 (h.pt d hd).2⟩, fun d hd => by
  have := h.sm d hd
  unfold big2 at this
  unfold lim
  omega⟩
def spDfs : Sp := fun vs H Q _ => ∃ (a : Addr) (y c : Int), vs = [.ref a] ∧ CrAt H a y c ∧ c ≤ 900000 ∧ ∀ (v : V) (ds : List Dif) (c' : Int) (H' : Hp), DrD ds → Ds H' v ds → CrAt H' a y c' → c' ≤ c + 40 → Gw a H H' → Q v H'
section
variable {P : Program} {w : World} {K : PySem.W.Frag} {mg : Str → Option Value} {base : Heap}
theorem ok_pts {f : Addr} {fd : FuncData} (F : Fun K "_law_points" "_law_points" sPts f fd) : FnOk P w K mg base CX0 1 f fd [] spPts := by
  refine F.ok scPts (fun vs H Q E h => ?_) (fun cdv A outer s H vs Q E hr h => ?_)
  · obtain ⟨rfl, _⟩ := h
    rfl
  obtain ⟨rfl, q⟩ := h
  refine ⟨_, pss_one (ps_ret (pe_lstK (pda_cons pd_str (pda_cons pd_str (pda_cons pd_str (pda_cons pd_str (pda_cons pd_str (pda_cons pd_str (pda_cons (pd_tup (pda_cons pd_str (pda_cons pd_str (pda_cons pd_int pda_nil)))) (pda_cons (pd_tup (pda_cons pd_str (pda_cons pd_str (pda_cons pd_int pda_nil)))) pda_nil)))))))))), ?_⟩
  exact ⟨⟨True.intro, True.intro, True.intro, True.intro, True.intro, True.intro, ⟨True.intro, True.intro, True.intro, True.intro⟩, ⟨True.intro, True.intro, True.intro, True.intro⟩, True.intro⟩, q⟩
theorem ok_dfs {f : Addr} {fd : FuncData} (F : Fun K "_law_differences" "_law_differences" sDfs f fd) (B : Free mg) (Pts : Fnc P w K mg base CX0 1 "_law_points" [] spPts) (Ta : Fnc P w K mg base CX0 1 "_law_tap" ["_law_keg", "_law_total"] spFish) (Pi : Fnc P w K mg base CX0 2 "_law_pick" ["_law_keg", "_law_items"] spOne) :
    FnOk P w K mg base CX0 3 f fd ["_law_keg"] spDfs := by
  refine F.ok scDfs (fun vs H Q E h => ?_) (fun cdv A outer s H vs Q E hr h => ?_)
  · obtain ⟨a, y, c, rfl, _⟩ := h
    rfl
  obtain ⟨a, y, c, rfl, C, hc, q⟩ := h
  refine ⟨_, pss_cons (ps_setLc (i := 2) (own := [("_law_turn", 1)]) (g := gName 1) (tt := tYes) (te := tCall spOne [] E0 (tCons (tVar 0) (tCons (tCall spPts [] E0 tNil) tNil))) rfl scDfs.nd rfl rfl (sw_true rfl rfl rfl (by decide +kernel)) (pi_range1 (by rfl) B.range (pa_cons (pe_op op_add pe_int (pe_fnc Ta hr (by omega) (by rfl) pass0 (pa_cons (pv 0) (pa_cons pe_int pa_nil)))) pa_nil)) (blkOk_by (N := nDfs) (sc := defScope sDfs) (by decide +kernel))
        (fun _ _ _ _ _ => pg_name (i := 1) scDfs.nd rfl (Or.inl rfl) (Or.inr rfl)) (fun _ _ _ _ _ => pts_nil) (fun _ _ _ _ _ => (pe_fnc Pi hr (by omega) (by rfl) pass0 (pa_cons (pv 0) (pa_cons (pe_fnc0 Pts hr (by omega) (by rfl) pass0) pa_nil))))) <|
    pss_cons (ps_par (i := 3) (j := 4) rfl scDfs.nd rfl rfl (by decide) rfl rfl (pa_cons (pe_fnc Pi hr (by omega) (by rfl) pass0 (pa_cons (pv 0) (pa_cons (pe_lst (pa_cons pe_int (pa_cons pe_int (pa_cons pe_int (pa_cons (pe_op op_pow pe_int pe_int) pa_nil))))) pa_nil))) (pa_cons (pe_lst pa_nil) pa_nil)) (by rfl)) <|
    pss_cons (ps_for PassesOwn.never rfl (pi_range1 (by rfl) B.range (pa_cons (pe_fnc Ta hr (by omega) (by rfl) pass0 (pa_cons (pv 0) (pa_cons pe_int pa_nil))) pa_nil)) (pg_name (i := 1) scDfs.nd rfl (Or.inl rfl))
      (pss_one (ps_expr (pe_bm PySem.F.plainAttrs_list PySem.F.slot_list_append PySem.F.type_list_append mt_append (pv 4) (pa_cons (pe_tup (pa_cons (pe_fnc Pi hr (by omega) (by rfl) pass0 (pa_cons (pv 0) (pa_cons (pv 2) pa_nil))) (pa_cons (pe_fnc Pi hr (by omega) (by rfl) pass0 (pa_cons (pv 0) (pa_cons (pv 2) pa_nil))) (pa_cons (pe_op op_add (pe_op op_sub (pe_fnc Ta hr (by omega) (by rfl) pass0 (pa_cons (pv 0) (pa_cons (pe_op op_add (pe_op op_mul pe_int (pv 3)) pe_int) pa_nil))) (pv 3)) (pe_op op_fdiv (pv 3) pe_int)) pa_nil)))) pa_nil))))) <|
    pss_one (ps_ret (pe_callTy call_tuple_of (by rfl) (Free.tuple B) (by decide +kernel) (pa_cons (pv 4) pa_nil))), ?_⟩
  -- some points
  refine ⟨_, rfl, ?_⟩
  (first | refine (use_tap (t := 4) C (by omega) (by decide) (by decide) fun r c1 H1 r0 r1 C1 l1 g1 => ?_) | (show tNil _ _ _; unfold tNil; refine (use_tap (t := 4) C (by omega) (by decide) (by decide) fun r c1 H1 r0 r1 C1 l1 g1 => ?_)) | ((try unfold tCons); (try unfold tNil); (try unfold tC); refine (use_tap (t := 4) C (by omega) (by decide) (by decide) fun r c1 H1 r0 r1 C1 l1 g1 => ?_)))
  refine ⟨2, r, rfl, rfl, _, rfl, by omega, by omega, fun D nD => ?_⟩
  obtain ⟨n, hn⟩ : ∃ n : Nat, (2 + r).toNat = n := ⟨_, rfl⟩
  have n5 : n ≤ 5 := by omega
  have n2 : 2 ≤ n := by omega
  rw [hn]
  have Da := C1.ne nD
  have sD := same_upd (p := D) (o := .lst []) nD
  refine lc_range (lo := 0) (n := n) (fun i H' => ∃ (c' : Int) (ks : List NestedKey) (us : List V), CrAt H' a y c' ∧ c' ≤ c1 + i ∧ Gw a H1 H' ∧ H' D = some (.lst us) ∧ MKeysAt H' ks us ∧ ks.length = i ∧ ∀ k ∈ ks, k ∈ PT8) ⟨c1, [], [], C1.same sD, by omega, Gw.of sD, upd_same, .nil, rfl, fun _ h => (nomatch h)⟩ (fun i H2 hi hP => ?_) (fun H2 hP => ?_)
  · obtain ⟨c2, ks, us, C2, l2, g2, d2, k2, lk, hk⟩ := hP
    refine ⟨rfl, _, rfl, ?_⟩
    (first | refine (⟨rfl, fun p vs H3 s3 np e3 k3 => ?_⟩) | (show tNil _ _ _; unfold tNil; refine (⟨rfl, fun p vs H3 s3 np e3 k3 => ?_⟩)) | ((try unfold tCons); (try unfold tNil); (try unfold tC); refine (⟨rfl, fun p vs H3 s3 np e3 k3 => ?_⟩)))
    have lu := MKeysAt.len k2
    (first | refine (use_pickK (C2.same s3) (by omega) e3 (C2.ne np) k3 (by decide) (by decide) fun k v c3 H4 hk4 m4 C4 l4 g4 => ?_) | (show tNil _ _ _; unfold tNil; refine (use_pickK (C2.same s3) (by omega) e3 (C2.ne np) k3 (by decide) (by decide) fun k v c3 H4 hk4 m4 C4 l4 g4 => ?_)) | ((try unfold tCons); (try unfold tNil); (try unfold tC); refine (use_pickK (C2.same s3) (by omega) e3 (C2.ne np) k3 (by decide) (by decide) fun k v c3 H4 hk4 m4 C4 l4 g4 => ?_)))
    have d4 := g4.at_ Da (s3 _ _ d2)
    have t5 : Tup H4 (upd H4 D (.lst (us ++ [v]))) := tup_upd fun zs e => by rw [d4] at e; cases e
    refine ⟨us, d4, by rw [sizeLine_eq]; omega, c3, ks ++ [k], us ++ [v], ?_, by omega, ?_, upd_same, ?_, by rw [List.length_append]; simp; omega, fun j hj => ?_⟩
    · obtain ⟨x, e, CC⟩ := C4
      exact ⟨x, by rw [upd_ne Da.symm]; exact e, CC⟩
    · have g14 := g2.trans ((Gw.of s3).trans g4)
      refine ⟨fun b o nb e => ?_, g14.tu.trans t5⟩
      rw [upd_ne (ne_of_none e nD)]
      exact g14.gr b o nb e
    · exact MKeysAt.snoc (MKeysAt.tp' (((Same.tp s3).trans g4.tu).trans t5) k2) (MKeyAt.tupd t5 m4)
    · rcases List.mem_append.mp hj with hj | hj
      · exact hk j hj
      · rw [List.mem_singleton.mp hj]
        exact hk4
  obtain ⟨c2, ks, us, C2, l2, g2, d2, k2, lk, hk⟩ := hP
  -- how wide
  refine ⟨_, rfl, 10, 20, rfl, rfl, ⟨by decide, by decide, by decide⟩, le_line (by simp), fun p np => ?_⟩
  have sp := same_upd (p := p) (o := .lst [V.int 2, V.int 4, V.int 4, V.int (10 ^ Int.toNat 20)]) np
  have C3 := C2.same sp
  (first | refine (use_pick C3 (by omega) upd_same (C2.ne np) (by simp) (by simp) fun r3 v3 c4 H4 hv C4 l4 g4 => ?_) | (show tNil _ _ _; unfold tNil; refine (use_pick C3 (by omega) upd_same (C2.ne np) (by simp) (by simp) fun r3 v3 c4 H4 hv C4 l4 g4 => ?_)) | ((try unfold tCons); (try unfold tNil); (try unfold tC); refine (use_pick C3 (by omega) upd_same (C2.ne np) (by simp) (by simp) fun r3 v3 c4 H4 hv C4 l4 g4 => ?_)))
  have hw : ∃ wd : Int, v3 = .int wd ∧ (wd = 2 ∨ wd = 4 ∨ wd = 100000000000000000000) := by
    match r3, hv with
    | 0, hv => cases hv; exact ⟨_, rfl, .inl rfl⟩
    | 1, hv => cases hv; exact ⟨_, rfl, .inr (.inl rfl)⟩
    | 2, hv => cases hv; exact ⟨_, rfl, .inr (.inl rfl)⟩
    | 3, hv => cases hv; exact ⟨_, rfl, .inr (.inr (by decide))⟩
    | n + 4, hv => simp at hv
  obtain ⟨wd, rfl, hwd⟩ := hw
  have g24 := g2.trans ((Gw.of sp).trans g4)
  have d4 := g4.at_ Da (sp _ _ d2)
  have k4 := MKeysAt.tp' ((Same.tp sp).trans g4.tu) k2
  refine ⟨le_line (by simp), fun F' nF => ?_⟩
  have sF := same_upd (p := F') (o := .lst []) nF
  have eF : (upd H4 F' (.lst [])) F' = some (.lst []) := upd_same
  have C5 := C4.same sF
  have Fa := C4.ne nF
  have FD : F' ≠ D := fun z => by rw [z, d4] at nF; cases nF
  have g5 := g1.trans (g24.trans (Gw.of sF))
  have d5 := sF _ _ d4
  have k5 := MKeysAt.same sF k4
  have nF1 : H F' = none := by
    cases e : H F' with
    | none => rfl
    | some o =>
      have := (g1.trans g24).gr F' o (by simpa using Fa) e
      rw [this] at nF
      cases nF
  have nD1 : H D = none := by
    cases e : H D with
    | none => rfl
    | some o =>
      have := g1.gr D o (by simpa using Da) e
      rw [this] at nD
      cases nD
  generalize upd H4 F' (.lst []) = H5 at eF C5 g5 d5 k5 ⊢
  -- the differences
  refine ⟨_, _, rfl, ?_⟩
  refine ⟨_, rfl, ?_⟩
  (first | refine (use_tap (t := 8) C5 (by omega) (by decide) (by decide) fun r6 c6 H6 r60 r61 C6 l6 g6 => ?_) | (show tNil _ _ _; unfold tNil; refine (use_tap (t := 8) C5 (by omega) (by decide) (by decide) fun r6 c6 H6 r60 r61 C6 l6 g6 => ?_)) | ((try unfold tCons); (try unfold tNil); (try unfold tC); refine (use_tap (t := 8) C5 (by omega) (by decide) (by decide) fun r6 c6 H6 r60 r61 C6 l6 g6 => ?_)))
  refine ⟨r6, rfl, by omega, by omega, ?_⟩
  obtain ⟨m, hm⟩ : ∃ m : Nat, r6.toNat = m := ⟨_, rfl⟩
  have m7 : m ≤ 7 := by omega
  rw [hm]
  have lus := MKeysAt.len k5
  have g16 := g5.trans g6
  refine for_range (lo := 0) (n := m) (fun i σ' H' => ∃ (t1 : Option V) (c' : Int) (ds : List Dif) (zs : List V), σ' = [some (.ref a), t1, some (.ref D), some (.int wd), some (.ref F')] ∧ CrAt H' a y c' ∧ c' ≤ c6 + 3 * i ∧ Gw a H H' ∧ H' D = some (.lst us) ∧ MKeysAt H' ks us ∧ H' F' = some (.lst zs) ∧ MKeysAt H' (ds.map dfK) zs ∧ ds.length = i ∧ (∀ d ∈ ds, (d.1 ∈ PT8 ∧ d.2.1 ∈ PT8) ∧ -big2 ≤ d.2.2 ∧ d.2.2 ≤ big2))
    ⟨_, c6, [], [], rfl, C6, by omega, g16, g6.at_ Da d5, MKeysAt.tp' g6.tu k5, g6.at_ Fa eF, .nil, rfl, fun _ h => (nomatch h)⟩ (fun i σ' H7 hi hP => ?_) (fun σ' H7 hP => ?_)
  · obtain ⟨t1, c7, ds, zs, rfl, C7, l7, g7, d7, k7, f7, z7, lds, hds⟩ := hP
    have lz := MKeysAt.len z7
    rw [List.length_map] at lz
    refine ⟨_, rfl, .inl ⟨rfl, _, SqL.of f7⟩, ?_⟩
    refine ⟨_, rfl, _, rfl, ?_⟩
    (first | refine (use_pickK C7 (by omega) d7 Da k7 (by omega) (by omega) fun x vx c8 H8 hx mx C8 l8 g8 => ?_) | (show tNil _ _ _; unfold tNil; refine (use_pickK C7 (by omega) d7 Da k7 (by omega) (by omega) fun x vx c8 H8 hx mx C8 l8 g8 => ?_)) | ((try unfold tCons); (try unfold tNil); (try unfold tC); refine (use_pickK C7 (by omega) d7 Da k7 (by omega) (by omega) fun x vx c8 H8 hx mx C8 l8 g8 => ?_)))
    have d8 := g8.at_ Da d7
    have k8 := MKeysAt.tp' g8.tu k7
    refine ⟨_, rfl, _, rfl, ?_⟩
    (first | refine (use_pickK C8 (by omega) d8 Da k8 (by omega) (by omega) fun b vb c9 H9 hb mb C9 l9 g9 => ?_) | (show tNil _ _ _; unfold tNil; refine (use_pickK C8 (by omega) d8 Da k8 (by omega) (by omega) fun b vb c9 H9 hb mb C9 l9 g9 => ?_)) | ((try unfold tCons); (try unfold tNil); (try unfold tC); refine (use_pickK C8 (by omega) d8 Da k8 (by omega) (by omega) fun b vb c9 H9 hb mb C9 l9 g9 => ?_)))
    refine ⟨_, rfl, _, rfl, 2, wd, rfl, rfl, .inl ⟨by decide, by decide⟩, 2 * wd, 1, rfl, rfl, ?_⟩
    (first | refine (use_tap (t := 2 * wd + 1) C9 (by omega) (by omega) (by omega) fun r10 c10 H10 q0 q1 C10 l10 g10 => ?_) | (show tNil _ _ _; unfold tNil; refine (use_tap (t := 2 * wd + 1) C9 (by omega) (by omega) (by omega) fun r10 c10 H10 q0 q1 C10 l10 g10 => ?_)) | ((try unfold tCons); (try unfold tNil); (try unfold tC); refine (use_tap (t := 2 * wd + 1) C9 (by omega) (by omega) (by omega) fun r10 c10 H10 q0 q1 C10 l10 g10 => ?_)))
    refine ⟨_, rfl, _, _, rfl, rfl, _, rfl, _, 2, rfl, rfl, ⟨by decide, by decide⟩, _, _, rfl, rfl, le_line (by simp), fun t nt => ?_⟩
    have st := same_upd (p := t) (o := .tup [vx, vb, .int (r10 - wd + wd / 2)]) nt
    have et : (upd H10 t (.tup [vx, vb, .int (r10 - wd + wd / 2)])) t = some (.tup [vx, vb, .int (r10 - wd + wd / 2)]) := upd_same
    have C11 := C10.same st
    have g11 := g8.trans (g9.trans (g10.trans (Gw.of st)))
    have mx' := MKeyAt.tupd (g9.trans (g10.trans (Gw.of (a := a) st))).tu mx
    have mb' := MKeyAt.tupd (g10.trans (Gw.of (a := a) st)).tu mb
    generalize upd H10 t (.tup [vx, vb, .int (r10 - wd + wd / 2)]) = H11 at et C11 g11 mx' mb' ⊢
    have f11 := g11.at_ Fa f7
    have d11 := g11.at_ Da d7
    refine ⟨F', zs, _, rfl, rfl, f11, by rw [sizeLine_eq]; omega, ?_⟩
    have t12 : Tup H11 (upd H11 F' (.lst (zs ++ [.ref t]))) := tup_upd fun z e => by rw [f11] at e; cases e
    refine ⟨_, c10, ds ++ [(x, b, r10 - wd + wd / 2)], zs ++ [.ref t], rfl, ?_, by omega, ?_, by rw [upd_ne FD.symm]; exact d11, MKeysAt.tp' (g11.tu.trans t12) k7, upd_same, ?_, by rw [List.length_append]; simp; omega, fun d hd => ?_⟩
    · obtain ⟨x0, e, CC⟩ := C11
      exact ⟨x0, by rw [upd_ne Fa.symm]; exact e, CC⟩
    · have g := g7.trans g11
      refine ⟨fun b0 o nb e => ?_, g.tu.trans t12⟩
      rw [upd_ne (ne_of_none e nF1)]
      exact g.gr b0 o nb e
    · rw [List.map_append]
      exact MKeysAt.snoc (MKeysAt.tp' (g11.tu.trans t12) z7) (.tup (t12 _ _ et) (.cons (MKeyAt.tupd t12 mx') (.cons (MKeyAt.tupd t12 mb') (.cons (.num _) .nil))))
    · rcases List.mem_append.mp hd with hd | hd
      · exact hds d hd
      · rw [List.mem_singleton.mp hd]
        refine ⟨⟨hk x hx, hk b hb⟩, ?_⟩
        unfold big2
        dsimp only
        rcases hwd with h | h | h <;> subst h <;> omega
  obtain ⟨t1, c7, ds, zs, rfl, C7, l7, g7, d7, k7, f7, z7, lds, hds⟩ := hP
  refine ⟨_, rfl, F', _, rfl, .inl ⟨SqL.of f7, fun T nT => ?_⟩⟩
  have sT := same_upd (p := T) (o := .tup zs) nT
  exact q (.ref T) ds c7 _ ⟨by omega, fun d hd => (hds d hd).1, fun d hd => (hds d hd).2⟩ (MKeyAt.tup upd_same (MKeysAt.same sT z7)) (C7.same sT) (by omega) (g7.trans (Gw.of sT))
end
end K11
end
section
set_option autoImplicit false
set_option maxRecDepth 100000
set_option maxHeartbeats 4000000
/-! _law_told_points -/
namespace K11
open PySem PySem.Spec PyProof.Rows L2 KX
/-- the told points behind a difference -/
def told1 (ts : List NestedKey) (d : Dif) : List NestedKey := ts ++ [d.1, d.2.1].filter fun p => !decide (p ∈ ts)
def toldL : List Dif → List NestedKey → List NestedKey
  | [], ts => ts
  | d :: ds, ts => toldL ds (told1 ts d)
theorem toldL_snoc (d : Dif) : ∀ (ds : List Dif) (ts : List NestedKey), toldL (ds ++ [d]) ts = told1 (toldL ds ts) d
  | [], _ => rfl
  | e :: ds, ts => toldL_snoc d ds (told1 ts e)
theorem toldL_mem {p : NestedKey} : ∀ (ds : List Dif) (ts : List NestedKey), p ∈ toldL ds ts ↔ p ∈ ts ∨ p ∈ flat ds
  | [], ts => by
    show p ∈ ts ↔ p ∈ ts ∨ p ∈ ([] : List NestedKey)
    simp
  | d :: ds, ts => by
    show p ∈ toldL ds (told1 ts d) ↔ _
    rw [toldL_mem ds]
    have e1 : p ∈ told1 ts d ↔ p ∈ ts ∨ p = d.1 ∨ p = d.2.1 := by
      unfold told1
      rw [List.mem_append, List.mem_filter]
      by_cases m : p ∈ ts
      · simp [m]
      · simp [m]
    have e2 : p ∈ flat (d :: ds) ↔ (p = d.1 ∨ p = d.2.1) ∨ p ∈ flat ds := by
      unfold flat
      rw [List.flatMap_cons, List.mem_append]
      simp
    rw [e1, e2, or_assoc]
theorem toldL_len : ∀ (ds : List Dif) (ts : List NestedKey), (toldL ds ts).length ≤ ts.length + 2 * ds.length
  | [], ts => by show ts.length ≤ ts.length + 2 * 0; omega
  | d :: ds, ts => by
    have := toldL_len ds (told1 ts d)
    have h : (told1 ts d).length ≤ ts.length + 2 := by
      unfold told1
      rw [List.length_append]
      have := List.length_filter_le (fun p => !decide (p ∈ ts)) [d.1, d.2.1]
      simp only [List.length_cons, List.length_nil] at this
      omega
    show (toldL ds (told1 ts d)).length ≤ _
    rw [List.length_cons]
    omega
/-- the first of each -/
def firsts (ks : List NestedKey) : List Nat := (List.range ks.length).filter fun i => !decide (ks.getD i .none ∈ ks.take i)
def firstK (ks : List NestedKey) : List NestedKey := (firsts ks).map fun i => ks.getD i .none
theorem firstK_nd (ks : List NestedKey) : (firstK ks).Nodup := by
  unfold firstK firsts List.Nodup
  rw [List.pairwise_map, List.pairwise_filter]
  refine List.Pairwise.imp_of_mem (fun {i j} hi hj hij _ tj e => ?_) List.pairwise_lt_range
  have hj := List.mem_range.mp hj
  have hi := List.mem_range.mp hi
  have nj : ks.getD j .none ∉ ks.take j := by simpa using tj
  refine nj ?_
  rw [← e]
  refine List.mem_iff_getElem?.mpr ⟨i, ?_⟩
  rw [List.getElem?_take_of_lt hij, List.getElem?_eq_getElem hi, List.getD_eq_getElem?_getD, List.getElem?_eq_getElem hi]
  rfl
theorem firstK_mem {ks : List NestedKey} {p : NestedKey} : p ∈ firstK ks ↔ p ∈ ks := by
  unfold firstK firsts
  rw [List.mem_map]
  constructor
  · rintro ⟨i, hi, rfl⟩
    have hi := List.mem_range.mp (List.mem_filter.mp hi).1
    rw [List.getD_eq_getElem?_getD, List.getElem?_eq_getElem hi]
    exact List.getElem_mem hi
  · intro h
    obtain ⟨n, hn⟩ := List.mem_iff_getElem?.mp h
    obtain ⟨c, hc, ec, mc⟩ := least (p := fun i => ks[i]? = some p) n hn
    have hcl : c < ks.length := (List.getElem?_eq_some_iff.mp ec).1
    have eg : ks.getD c .none = p := by rw [List.getD_eq_getElem?_getD, ec]; rfl
    refine ⟨c, List.mem_filter.mpr ⟨List.mem_range.mpr hcl, ?_⟩, eg⟩
    rw [eg]
    have : p ∉ ks.take c := fun m => by
      obtain ⟨j, hj⟩ := List.mem_iff_getElem?.mp m
      have hjc : j < c := by
        have := (List.getElem?_eq_some_iff.mp hj).1
        rw [List.length_take] at this
        omega
      rw [List.getElem?_take_of_lt hjc] at hj
      exact mc j hjc hj
    simp [this]
/-- the points as the law tells them -/
def toldPts (ds : List Dif) : List NestedKey := firstK (toldL ds [.text ""])
theorem told_mem {ds : List Dif} {p : NestedKey} : p ∈ toldPts ds ↔ p = .text "" ∨ p ∈ flat ds := by
  unfold toldPts
  rw [firstK_mem, toldL_mem]
  simp
theorem told_nd (ds : List Dif) : (toldPts ds).Nodup := firstK_nd _
theorem told_pt {ds : List Dif} (o : OkDs ds) {p : NestedKey} (h : p ∈ toldPts ds) : p ∈ PTS := by
  rcases told_mem.mp h with rfl | h
  · unfold PTS; exact List.mem_cons_self
  · exact flat_pt o h
theorem told_pts {ds : List Dif} (o : OkDs ds) {p : NestedKey} : p ∈ toldPts ds ↔ p ∈ pointsOf ds := by rw [told_mem, pts_mem o]
theorem told_few {ds : List Dif} (o : OkDs ds) : (toldPts ds).length ≤ 9 := short_of_subset _ PTS (told_nd ds) fun _ h => told_pt o h
theorem told_len {ds : List Dif} (o : OkDs ds) : (toldPts ds).length = (pointsOf ds).length :=
  Nat.le_antisymm (short_of_subset _ _ (told_nd ds) fun _ h => (told_pts o).mp h) (short_of_subset _ _ (pts_nd ds) fun _ h => (told_pts o).mpr h)
theorem toldL_pt {ds : List Dif} (o : OkDs ds) (i : Nat) {p : NestedKey} (h : p ∈ toldL (ds.take i) [.text ""]) : p ∈ PTS := by
  rcases (toldL_mem _ _).mp h with h | h
  · rw [List.mem_singleton.mp h]
    unfold PTS
    exact List.mem_cons_self
  · obtain ⟨d, hd, e⟩ := flat_mem.mp h
    exact flat_pt o (flat_mem.mpr ⟨d, List.mem_of_mem_take hd, e⟩)
abbrev nTp : List Str := ["_law_differences_here", "_law_found", "_law_one", "_law_other", "_law_top", "_law_point", "_law_at"]
theorem scTp : FnScope nTp ["_law_differences_here"] (defScope sTp) := ⟨rfl, rfl, rfl, by decide +kernel, rfl, by decide +kernel, by decide +kernel⟩
def spTp : Sp := fun vs H Q _ => ∃ (v : V) (ds : List Dif), vs = [v] ∧ Ds H v ds ∧ OkDs ds ∧ ∀ (p : Addr) (us : List V) (H' : Hp), Same H H' → H p = none → H' p = some (.lst us) → MKeysAt H' (toldPts ds) us → Q (.ref p) H'
theorem cutV_take (zs : List V) (i : Nat) : cutV zs none (some (i : Int)) = zs.take i := by
  unfold cutV
  have e1 : HT.sIx zs.length 0 none = 0 := rfl
  have e2 : HT.sIx zs.length zs.length (some (i : Int)) = min i zs.length := by
    unfold HT.sIx
    simp only []
    split <;> omega
  rw [e1, e2, List.drop_zero, Nat.sub_zero, List.take_eq_take_iff]
  omega
/-- those of a list at some places -/
theorem keys_pick {H : Hp} {ks : List NestedKey} {us : List V} (h : MKeysAt H ks us) : ∀ ix : List Nat, (∀ i ∈ ix, i < ks.length) → MKeysAt H (ix.map fun i => ks.getD i .none) (ix.map fun i => us.getD i .non)
  | [], _ => .nil
  | i :: ix, hi => by
    have hl := hi i List.mem_cons_self
    have e := List.getElem?_eq_getElem hl
    obtain ⟨v, hv, m⟩ := MKeysAt.at_ h e
    refine .cons ?_ (keys_pick h ix fun j hj => hi j (List.mem_cons_of_mem _ hj))
    show MKeyAt H (ks.getD i .none) (us.getD i .non)
    rw [List.getD_eq_getElem?_getD, List.getD_eq_getElem?_getD, e, hv]
    exact m
section
variable {P : Program} {w : World} {K : PySem.W.Frag} {mg : Str → Option Value} {base : Heap}
theorem ok_tp {f : Addr} {fd : FuncData} (F : Fun K "_law_told_points" "_law_told_points" sTp f fd) (mE : mg "enumerate" = none) : FnOk P w K mg base CX0 1 f fd ["_law_differences_here"] spTp := by
  refine F.ok scTp (fun vs H Q E h => ?_) (fun cdv A outer s H vs Q E hr h => ?_)
  · obtain ⟨v, ds, rfl, _⟩ := h
    rfl
  obtain ⟨v, ds, rfl, hd, ok, q⟩ := h
  have hu := hr.units
  refine ⟨_, pss_cons (ps_set (i := 1) scTp.nd rfl (.inr rfl) (pe_lst (pa_cons pe_str pa_nil))) <|
    pss_cons (ps_for PassesOwn.never rfl (pi_tup (pv 0)) (pg_tup rfl (pgs_cons (pg_name (i := 2) scTp.nd rfl (Or.inl rfl)) (pgs_cons (pg_name (i := 3) scTp.nd rfl (Or.inl rfl)) (pgs_cons (pg_name (i := 4) scTp.nd rfl (Or.inl rfl)) pgs_nil))))
      (pss_one (ps_set (i := 1) scTp.nd rfl (.inr rfl) (pe_op op_cat (pv 1) (pe_lc (own := [("_law_point", 5)]) (g := gName 5) (te := tVar 5) rfl scTp.nd (pi_tup (pe_tup (pa_cons (pv 2) (pa_cons (pv 3) pa_nil)))) (blkOk_by (N := nTp) (sc := defScope sTp) (by decide +kernel))
          (fun _ _ _ _ _ => pg_name (i := 5) scTp.nd rfl (Or.inl rfl) (Or.inr rfl)) (fun _ _ _ _ _ => pts_one (pt_cmpR (r := rInM K true) (op_niM hu) (pv 5) (pv 1) (by with_unfolding_all rfl))) (fun _ _ _ _ _ => pv 5)))))) <|
    pss_one (ps_ret (pe_lc (own := [("_law_at", 6), ("_law_point", 5)]) (g := gTup K 2 (gCons (gName 6) (gCons (gName 5) gNil))) (te := tVar 5) rfl scTp.nd (pi_enum (by rfl) mE (pa_cons (pv 1) pa_nil)) (blkOk_by (N := nTp) (sc := defScope sTp) (by decide +kernel))
          (fun _ _ _ _ _ => pg_tup rfl (pgs_cons (pg_name (i := 6) scTp.nd rfl (Or.inl rfl) (Or.inr rfl)) (pgs_cons (pg_name (i := 5) scTp.nd rfl (Or.inl rfl) (Or.inr rfl)) pgs_nil))) (fun _ _ _ _ _ => pts_one (pt_cmpR (r := rInM K true) (op_niM hu) (pv 5) (pe_slice (r := rSlL K) sl_list (pv 1) po_none (po_some (pv 6))) (by with_unfolding_all rfl))) (fun _ _ _ _ _ => pv 5))), ?_⟩
  obtain ⟨a, us, rfl, ea, lu, rows⟩ := Ds.row hd
  have few := ok.few
  refine ⟨le_line (by simp), fun F0 nF => ?_⟩
  have s1 := same_upd (p := F0) (o := .lst [V.str ""]) nF
  refine ⟨_, rfl, a, rfl, ⟨_, SqT.of (s1 _ _ ea)⟩, ?_⟩
  refine for_tup (K := K) (a := a) (xs := us) (fun i σ' H' => ∃ (t2 t3 t4 : Option V) (L : Addr) (zs : List V), σ' = [some (.ref a), some (.ref L), t2, t3, t4, none, none] ∧ Same H H' ∧ H L = none ∧ H' L = some (.lst zs) ∧ MKeysAt H' (toldL (ds.take i) [.text ""]) zs)
    ⟨none, none, none, F0, [V.str ""], rfl, s1, nF, upd_same, .cons (.text "") .nil⟩ (fun i σ' H' _ hP => ?_) (fun i x σ' H1 hi hP => ?_) (fun σ' H1 hP => ?_)
  · obtain ⟨t2, t3, t4, L, zs, _, s, _, _, _⟩ := hP
    exact SqT.of (s _ _ ea)
  · obtain ⟨t2, t3, t4, L, zs, rfl, s2, nL, eL, kL⟩ := hP
    obtain ⟨d, t, p1, p2, hdi, rfl, et, m1, m2⟩ := rows i x hi
    have m1' := MKeyAt.same s2 m1
    have m2' := MKeyAt.same s2 m2
    have tl := toldL_len (ds.take i) [.text ""]
    rw [List.length_take] at tl
    simp only [List.length_cons, List.length_nil] at tl
    have lz := MKeysAt.len kL
    have hdm := List.mem_of_getElem? hdi
    refine ⟨t, _, rfl, SqT.of (s2 _ _ et), rfl, _, _, rfl, _, _, rfl, _, _, rfl, rfl, ?_⟩
    refine ⟨_, rfl, _, rfl, _, rfl, le_line (by simp), fun T nT => ⟨T, rfl, ⟨_, SqT.of upd_same⟩, fun D nD => ?_⟩⟩
    have sT := same_upd (p := T) (o := .tup [p1, p2]) nT
    have eT : (upd H1 T (.tup [p1, p2])) T = some (.tup [p1, p2]) := upd_same
    have kT : MKeysAt (upd H1 T (.tup [p1, p2])) [d.1, d.2.1] [p1, p2] := .cons (MKeyAt.same sT m1') (.cons (MKeyAt.same sT m2') .nil)
    have eL1 := sT _ _ eL
    have kL1 := MKeysAt.same sT kL
    generalize upd H1 T (.tup [p1, p2]) = H2 at sT eT kT eL1 kL1 nD ⊢
    have dpt := ok.pt d hdm
    have dd : NestedKey.depthAll (toldL (ds.take i) [.text ""]) ≤ 8 := pts_dep fun p hp => toldL_pt ok i hp
    refine lcF ([p1, p2].zip [d.1, d.2.1]) (fun p => !decide (p.2 ∈ toldL (ds.take i) [.text ""])) (fun p => p.1) (steady_t K T [p1, p2]) (fun H' s => SqT.of (s _ _ eT)) nD rfl (by simp) (fun j x l H' QY QN hx hl s ky kn => ?_) (fun H3 s3 e3 => ?_)
    · obtain ⟨hx1, hx2⟩ := List.getElem?_zip_eq_some.mp hl
      rw [hx] at hx1
      cases hx1
      obtain ⟨y, hy, m⟩ := MKeysAt.at_ kT hx2
      rw [hx] at hy
      cases hy
      refine ⟨rfl, _, rfl, _, rfl, L, _, zs, l.2, rfl, .inl (SqL.of (s _ _ eL1)), MKeysAt.same s kL1, MKeyAt.same s m, dd, _, rfl, ?_⟩
      show if (!decide (l.2 ∈ toldL (ds.take i) [.text ""])) = true then _ else _
      refine ite2 (fun e => ⟨_, rfl, ky e H' (Same.refl _)⟩) (fun e => kn (by simpa using e) H' (Same.refl _))
    · have eL3 := s3 _ _ eL1
      refine ⟨L, D, zs, _, rfl, rfl, eL3, e3, ?_, fun R nR => ?_⟩
      · rw [List.length_map, sizeLine_eq]
        have := List.length_filter_le (fun p : V × NestedKey => !decide (p.2 ∈ toldL (ds.take i) [.text ""])) ([p1, p2].zip [d.1, d.2.1])
        have h2 : ([p1, p2].zip [d.1, d.2.1]).length = 2 := rfl
        omega
      · have s4 := same_upd (p := R) (o := .lst (zs ++ (([p1, p2].zip [d.1, d.2.1]).filter fun p => !decide (p.2 ∈ toldL (ds.take i) [.text ""])).map fun p => p.1)) nR
        have sall := s2.trans (sT.trans s3)
        refine ⟨_, _, _, R, _, rfl, sall.trans s4, none_back sall nR, upd_same, ?_⟩
        rw [List.take_add_one, hdi]
        show MKeysAt _ (toldL (ds.take i ++ [d]) _) _
        rw [toldL_snoc]
        unfold told1
        refine MKeysAt.app (MKeysAt.same (s3.trans s4) kL1) ?_
        have fz : ∀ {ks : List NestedKey} {ys : List V} (T : NestedKey → Bool) {H' : Hp}, MKeysAt H' ks ys → MKeysAt H' (ks.filter T) (((ys.zip ks).filter fun p => T p.2).map fun p => p.1) := fun {ks ys} T {H'} h => by
          induction ks generalizing ys with
          | nil => cases h; exact .nil
          | cons k ks ih =>
            cases h with
            | @cons _ v _ vs r t =>
              rw [List.zip_cons_cons]
              by_cases e : T k = true
              · rw [List.filter_cons_of_pos e, List.filter_cons_of_pos (by exact e)]
                exact .cons r (ih t)
              · rw [List.filter_cons_of_neg e, List.filter_cons_of_neg (by exact e)]
                exact ih t
        exact fz (fun p => !decide (p ∈ toldL (ds.take i) [.text ""])) (MKeysAt.same (s3.trans s4) kT)
  obtain ⟨t2, t3, t4, L, zs, rfl, s2, nL, eL, kL⟩ := hP
  rw [lu, List.take_length] at kL
  have tpt : ∀ p ∈ toldL ds [.text ""], p ∈ PTS := fun p hp => toldL_pt ok ds.length (by rw [List.take_length]; exact hp)
  generalize hK : toldL ds [.text ""] = ks at kL tpt
  have lz := MKeysAt.len kL
  have lk : ks.length ≤ 19 := by
    have tl := toldL_len ds [.text ""]
    rw [hK] at tl
    simp only [List.length_cons, List.length_nil] at tl
    omega
  refine ⟨_, rfl, L, zs, rfl, SqL.of eL, fun D nD => ?_⟩
  refine lc_it (walk_enum (K := K) (a := L) (xs := zs)) (fun i H' => Same H1 H' ∧ H' D = some (.lst (((List.range i).filter fun j => !decide (ks.getD j .none ∈ ks.take j)).map fun j => zs.getD j .non))) ⟨same_upd nD, upd_same⟩ (fun i H' _ hP => SqL.of (hP.1 _ _ eL)) (fun i x H2 H3 hi hP hY => ?_) (fun H2 hP => ?_)
  · obtain ⟨s3, d3⟩ := hP
    obtain ⟨T, i1, x1, rfl, nT, rfl, e1, e2⟩ := hY
    cases e1
    have e2 : zs[i]? = some x1 := e2
    have sT := same_upd (p := T) (o := .tup [.int (i : Nat), x1]) nT
    have eT : (upd H2 T (.tup [.int (i : Nat), x1])) T = some (.tup [.int (i : Nat), x1]) := upd_same
    have s4 := s3.trans sT
    have d4 := sT _ _ d3
    generalize upd H2 T (.tup [.int (i : Nat), x1]) = H4 at eT s4 d4 ⊢
    have hik : i < ks.length := by omega
    obtain ⟨y, hy, m⟩ := MKeysAt.at_ kL (List.getElem?_eq_getElem hik)
    rw [e2] at hy
    cases hy
    refine ⟨T, _, rfl, SqT.of eT, rfl, _, _, rfl, _, _, rfl, rfl, rfl, _, rfl, _, rfl, _, rfl, (i : Nat), rfl, L, zs, rfl, SqL.of (s4 _ _ eL), fun R nR => ?_⟩
    have ec : cutV zs none (some ((i : Nat) : Int)) = zs.take i := cutV_take zs i
    rw [ec]
    have sR := same_upd (p := R) (o := .lst (zs.take i)) nR
    have s5 := s4.trans sR
    have eg : ks.getD i .none = ks[i] := by rw [List.getD_eq_getElem?_getD, List.getElem?_eq_getElem hik]; rfl
    have ez : zs.getD i .non = x1 := by rw [List.getD_eq_getElem?_getD, e2]; rfl
    have nx : (List.range (i + 1)).filter (fun j => !decide (ks.getD j .none ∈ ks.take j)) = (List.range i).filter (fun j => !decide (ks.getD j .none ∈ ks.take j)) ++ (if (!decide (ks[i] ∈ ks.take i)) = true then [i] else []) := by
      rw [List.range_succ, List.filter_append]
      congr 1
      rw [← eg]
      exact List.filter_cons
    refine ⟨R, ks.take i, zs.take i, ks[i], rfl, .inl (SqL.of upd_same), MKeysAt.take i (MKeysAt.same s5 kL), MKeyAt.same s5 m, pts_dep fun p hp => tpt p (List.mem_of_mem_take hp), _, rfl, ?_⟩
    show if (!decide (ks[i] ∈ ks.take i)) = true then _ else _
    have d5 := sR _ _ d4
    refine ite2 (fun e => ⟨_, rfl, _, d5, ?_, fun b o eb => ?_, ?_⟩) (fun e => ⟨s5, ?_⟩)
    · have := List.length_filter_le (fun j => !decide (ks.getD j .none ∈ ks.take j)) (List.range i)
      rw [List.length_range] at this
      rw [List.length_map, sizeLine_eq]
      omega
    · rw [upd_ne (ne_of_none eb nD)]
      exact s5 _ _ eb
    · rw [upd_same, nx, if_pos e, List.map_append]
      show _ = some (HO.lst (_ ++ [zs.getD i .non]))
      rw [ez]
    · rw [nx, if_neg e, List.append_nil]
      exact d5
  · obtain ⟨s3, d3⟩ := hP
    rw [lz] at d3
    refine q D _ H2 (s2.trans s3) (none_back s2 nD) d3 ?_
    unfold toldPts firstK firsts
    rw [hK]
    refine keys_pick (MKeysAt.same s3 kL) _ fun i hi => ?_
    exact List.mem_range.mp (List.mem_filter.mp hi).1
end
end K11
end
section
set_option autoImplicit false
set_option maxRecDepth 100000
set_option maxHeartbeats 4000000
/-! _law_fits, _law_is_fitting of any value -/
namespace K11
open PySem PySem.Spec PyProof.Rows L2 KX RZ StX
abbrev nLf : List Str := ["_law_differences_here", "_law_numbers", "_law_one", "_law_other", "_law_top"]
theorem scLf : FnScope nLf ["_law_differences_here", "_law_numbers"] (defScope sLf) := ⟨rfl, rfl, rfl, by decide +kernel, rfl, by decide +kernel, by decide +kernel⟩
def spLf (w : World) : Sp := fun vs H Q _ => ∃ (v : V) (D : Addr) (ds : List Dif) (xs : List MRow) (g : NestedKey → Int), vs = [v, .ref D] ∧ Ds H v ds ∧ OkDs ds ∧ MD w H D xs ∧ (∀ k ∈ pointsOf ds, mGet xs k = some (.int (g k))) ∧ ∀ H', Same H H' → Q (.bl (ds.all fun d => decide (g d.1 - g d.2.1 ≤ d.2.2))) H'
abbrev nLif : List Str := ["_law_differences_here", "_law_value", "_law_points_here", "_law_point", "_law_one"]
theorem scLif : FnScope nLif ["_law_differences_here", "_law_value"] (defScope sLif) := ⟨rfl, rfl, rfl, by decide +kernel, rfl, by decide +kernel, by decide +kernel⟩
theorem empty_all {α β : Type} (l : List α) (p : α → Bool) (g : α → β) : ((l.filter p).map g).isEmpty = l.all fun x => !p x := by
  induction l with
  | nil => rfl
  | cons x l ih =>
    rw [List.all_cons, List.filter_cons]
    cases h : p x with
    | true => rfl
    | false =>
      rw [if_neg Bool.false_ne_true, ih]
      rfl
section
variable {P : Program} {w : World} {K : PySem.W.Frag} {mg : Str → Option Value} {base : Heap}
theorem ok_lf {f : Addr} {fd : FuncData} (F : Fun K "_law_fits" "_law_fits" sLf f fd) : FnOk P w K mg base CX0 1 f fd ["_law_differences_here", "_law_numbers"] (spLf w) := by
  refine F.ok scLf (fun vs H Q E h => ?_) (fun cdv A outer s H vs Q E hr h => ?_)
  · obtain ⟨v, D, ds, xs, g, rfl, _⟩ := h
    rfl
  obtain ⟨v, D, ds, xs, g, rfl, hd, ok, M, gv, q⟩ := h
  have hu := hr.units
  refine ⟨_, pss_one (ps_ret (pe_cmpR (op_eqNil hu) (pe_lc (own := [("_law_one", 2), ("_law_other", 3), ("_law_top", 4)]) (g := gTup K 3 (gCons (gName 2) (gCons (gName 3) (gCons (gName 4) gNil)))) (tt := tTest (tOp (rI0 fun i j => .bl (decide (i > j))) (tOp (rI0 fun i j => .int (i - j)) (tMGet w (tVar 1) (tVar 2)) (tMGet w (tVar 1) (tVar 3))) (tVar 4))) (te := tVar 4) rfl scLf.nd (pi_tup (pv 0)) (blkOk_by (N := nLf) (sc := defScope sLf) (by decide +kernel))
      (fun _ _ _ _ _ => pg_tup rfl (pgs_cons (pg_name (i := 2) scLf.nd rfl (Or.inl rfl) (Or.inr rfl)) (pgs_cons (pg_name (i := 3) scLf.nd rfl (Or.inl rfl) (Or.inr rfl)) (pgs_cons (pg_name (i := 4) scLf.nd rfl (Or.inl rfl) (Or.inr rfl)) pgs_nil)))) (fun _ _ _ _ _ => pts_one (pt_cmpR op_gt (pe_op op_sub (pe_mget hu (pv 1) (pv 2) (fun _ _ => rfl)) (pe_mget hu (pv 1) (pv 3) (fun _ _ => rfl))) (pv 4) (nomark _))) (fun _ _ _ _ _ => pv 4)) (pe_lst pa_nil) (nomark _))), ?_⟩
  obtain ⟨a, us, rfl, ea, lu, rows⟩ := Ds.row hd
  have few := ok.few
  refine ⟨_, rfl, a, rfl, ⟨_, SqT.of ea⟩, fun R nR => ?_⟩
  refine lcF ds (fun d => decide (g d.1 - g d.2.1 > d.2.2)) (fun d => V.int d.2.2) (steady_t K a us) (fun H' s => SqT.of (s _ _ ea)) nR lu (by omega) (fun i x d H' QY QN hx hdi s ky kn => ?_) (fun H1 s1 e1 => ?_)
  · obtain ⟨d', t, p1, p2, hdi', rfl, et, m1, m2⟩ := rows i x hx
    rw [hdi] at hdi'
    cases hdi'
    have hdm := List.mem_of_getElem? hdi
    obtain ⟨k1, k2⟩ := pts_df ok d hdm
    have M1 : MD w H' D xs := ⟨s _ _ M.at_, fun r hr => MKeyAt.same s (M.ks r hr)⟩
    refine ⟨t, _, rfl, SqT.of (s _ _ et), rfl, _, _, rfl, _, _, rfl, _, _, rfl, rfl, rfl, ?_⟩
    refine ⟨_, rfl, _, rfl, D, xs, d.1, _, rfl, M1, MKeyAt.same s m1, pt_dep (ok.pt d hdm).1, gv _ k1, _, rfl, _, rfl, D, xs, d.2.1, _, rfl, M1, MKeyAt.same s m2, pt_dep (ok.pt d hdm).2, gv _ k2, _, _, rfl, rfl, _, rfl, _, _, rfl, rfl, _, rfl, ?_⟩
    cases e : decide (g d.1 - g d.2.1 > d.2.2) with
    | true => exact iteT ⟨_, rfl, ky e H' (Same.refl _)⟩
    | false => exact iteF (kn e H' (Same.refl _))
  · refine ⟨le_line (by simp), fun N nN => ?_⟩
    have s2 := same_upd (p := N) (o := .lst []) nN
    refine ⟨(ds.filter fun d => decide (g d.1 - g d.2.1 > d.2.2)).map fun d => V.int d.2.2, ⟨R, N, rfl, rfl, .inl ⟨SqL.of (s2 _ _ e1), SqL.of upd_same⟩⟩, ?_⟩
    rw [empty_all]
    have := q _ (s1.trans s2)
    have e : (ds.all fun d => decide (g d.1 - g d.2.1 ≤ d.2.2)) = ds.all fun d => !decide (g d.1 - g d.2.1 > d.2.2) := by
      congr 1
      funext d
      by_cases h : g d.1 - g d.2.1 ≤ d.2.2
      · rw [decide_eq_true h, decide_eq_false (by omega)]
        rfl
      · rw [decide_eq_false h, decide_eq_true (by omega)]
        rfl
    rw [e] at this
    exact this
theorem ok_lif {f : Addr} {fd : FuncData} (F : Fun K "_law_is_fitting" "_law_is_fitting" sLif f fd) (B : Free mg) (mD : mg "dict" = none) (bb : mg "bool" = none) (Tp : Fnc P w K mg base CX0 1 "_law_told_points" ["_law_differences_here"] spTp) (Lf : Fnc P w K mg base CX0 1 "_law_fits" ["_law_differences_here", "_law_numbers"] (spLf w)) :
    FnOk P w K mg base CX0 2 f fd ["_law_differences_here", "_law_value"] (spFtg w) := by
  refine F.ok scLif (fun vs H Q E h => ?_) (fun cdv A outer s H vs Q E hr h => ?_)
  · obtain ⟨v, u, ds, n, rfl, _⟩ := h
    rfl
  obtain ⟨v, u, ds, n, rfl, hd, ok, hn, okn, q⟩ := h
  have hu := hr.units
  refine ⟨_, pss_cons (ps_set (i := 2) scLif.nd rfl (.inl rfl) (pe_fnc Tp hr (by omega) (by rfl) pass0 (pa_cons (pv 0) pa_nil))) <|
    pss_cons (ps_if (PW.pt (pw_or (pt_not (pt_val (pe_callB (id := "isinstance") (r := rIsiV w) call_isiV (by rfl) B.isinstance (by decide +kernel) (pa_cons (pv 1) (pa_cons (pe_bltn (v := .ty "dict") (by rfl) mD (by decide +kernel) rfl) pa_nil)))))
        (pw_or1 (pt_cmpR op_ne (pe_callB call_lenM (by rfl) B.len PySem.boot_len (pa_cons (pv 1) pa_nil)) (pe_callB call_len_seq (by rfl) (Free.len B) PySem.boot_len (pa_cons (pv 2) pa_nil)) (nomark _))))) (pss_one (ps_ret pe_bl)) pss_nil) <|
    pss_cons (ps_if (pt_cmpR (op_neNil hu) (pe_lc (own := [("_law_point", 3)]) (g := gName 3) (tt := tTest (tMNotIn w (tVar 3) (tVar 1))) (te := tVar 3) rfl scLif.nd (pi_list (pv 2)) (blkOk_by (N := nLif) (sc := defScope sLif) (by decide +kernel))
        (fun _ _ _ _ _ => pg_name (i := 3) scLif.nd rfl (Or.inl rfl) (Or.inr rfl)) (fun _ _ _ _ _ => pts_one (pt_cmp (pc_mnotin hu (pv 3) (pv 1)))) (fun _ _ _ _ _ => pv 3)) (pe_lst pa_nil) (nomark _)) (pss_one (ps_ret pe_bl)) pss_nil) <|
    pss_cons (ps_if (pt_cmpR (op_neNil hu) (pe_lc (own := [("_law_one", 4)]) (g := gName 4) (tt := tOr (tNot (tB (tCB (rIsiV w) (tCons (tVar 4) (tCons (tC (V.ty "int")) tNil))))) (tB (tCB (rIsiV w) (tCons (tVar 4) (tCons (tC (V.ty "bool")) tNil))))) (te := tVar 4) rfl scLif.nd (pi_list (pe_listValsM rfl (pv 1) (by rfl) B.list (by decide +kernel))) (blkOk_by (N := nLif) (sc := defScope sLif) (by decide +kernel))
        (fun _ _ _ _ _ => pg_name (i := 4) scLif.nd rfl (Or.inl rfl) (Or.inr rfl)) (fun _ _ _ _ _ => pts_one (PW.pt (pw_or (pt_not (pt_val (pe_callB (id := "isinstance") (r := rIsiV w) call_isiV (by rfl) B.isinstance (by decide +kernel) (pa_cons (pv 4) (pa_cons (pe_bltn (v := .ty "int") (by rfl) B.int (by decide +kernel) rfl) pa_nil)))))
          (pw_or1 (pt_val (pe_callB (id := "isinstance") (r := rIsiV w) call_isiV (by rfl) B.isinstance (by decide +kernel) (pa_cons (pv 4) (pa_cons (pe_bltn (v := .ty "bool") (by rfl) bb (by decide +kernel) rfl) pa_nil)))))))) (fun _ _ _ _ _ => pv 4)) (pe_lst pa_nil) (nomark _)) (pss_one (ps_ret pe_bl)) pss_nil) <|
    pss_one (ps_ret (pe_and (pe_cmpR op_eq (pe_mget hu (pv 1) pe_str (fun _ _ => rfl)) pe_int (nomark _)) (pe_one (pe_fnc Lf hr (by omega) (by rfl) pass0 (pa_cons (pv 0) (pa_cons (pv 1) pa_nil)))))), ?_⟩
  have lt := told_len ok
  have few := told_few ok
  refine ⟨_, rfl, v, ds, rfl, hd, ok, fun p us H1 s1 np ep kp => ?_⟩
  have lu := MKeysAt.len kp
  refine ⟨_, rfl, u, n, "dict", dictN n, rfl, hn.same s1, kit_dict hn, dictN n, rfl, ?_⟩
  cases n with
  | data d => exact q H1 s1
  | dict rows =>
  obtain ⟨nd, _, l1000⟩ := okn
  obtain ⟨D, xs, rfl, M, pr⟩ := hn
  have lx := row_len pr
  have Mat : ∀ {H' : Hp}, Same H H' → MD w H' D xs := fun s => ⟨s _ _ M.at_, fun x hx => MKeyAt.same s (M.ks x hx)⟩
  have no : ∀ H', Same H H' → fitR ds rows = false → Q (.bl false) H' := fun H' s e => by
    have := q H' s
    rw [show fitN ds (.dict rows) = fitR ds rows from rfl, e] at this
    exact this
  refine ⟨_, rfl, D, xs, rfl, Mat s1, _, rfl, p, us, rfl, .inl (SqL.of ep), rfl, _, rfl, ?_⟩
  by_cases hl : rows.length = (pointsOf ds).length
  · rw [show decide (V.int ((xs.length : Nat) : Int) = V.int ((us.length : Nat) : Int)) = true from decide_eq_true (by rw [lx, lu, lt, hl])]
    refine iteF ?_
    -- each point is there
    refine ⟨_, rfl, p, rfl, ⟨_, SqL.of ep⟩, fun R nR => ?_⟩
    have lz : us.length = ((toldPts ds).zip us).length := by rw [List.length_zip, lu, Nat.min_self]
    refine lcF ((toldPts ds).zip us) (fun z => !(lookI rows z.1).isSome) (fun z => z.2) (steady_l K p us) (fun H' s => SqL.of (s _ _ ep)) nR lz (by rw [← lz]; omega) (fun i x z H' QY QN hx hz s ky kn => ?_) (fun H2 s2 e2 => ?_)
    · obtain ⟨k, y⟩ := z
      obtain ⟨hk, hy⟩ := List.getElem?_zip_eq_some.mp hz
      rw [hx] at hy
      cases hy
      obtain ⟨y', hy', m⟩ := MKeysAt.at_ kp hk
      rw [hx] at hy'
      cases hy'
      have hm := List.mem_of_getElem? hk
      refine ⟨rfl, _, rfl, _, rfl, D, xs, k, rfl, Mat (s1.trans s), MKeyAt.same s m, pt_dep (told_pt ok hm), _, rfl, ?_⟩
      rw [row_some pr k]
      cases e : (lookI rows k).isSome with
      | true => exact iteF (kn (by show (!(lookI rows k).isSome) = false; rw [e]; rfl) H' (Same.refl _))
      | false => exact iteT ⟨_, rfl, ky (by show (!(lookI rows k).isSome) = true; rw [e]; rfl) H' (Same.refl _)⟩
    refine ⟨le_line (by simp), fun N nN => ?_⟩
    have s3 := same_upd (p := N) (o := .lst []) nN
    refine ⟨_, ⟨R, N, rfl, rfl, .inl ⟨SqL.of (s3 _ _ e2), SqL.of upd_same⟩⟩, _, rfl, ?_⟩
    rw [empty_all]
    have eall : (((toldPts ds).zip us).all fun z => !(!(lookI rows z.1).isSome)) = (pointsOf ds).all fun k => (lookI rows k).isSome := by
      have e1 : (((toldPts ds).zip us).all fun z => !(!(lookI rows z.1).isSome)) = (((toldPts ds).zip us).map (·.1)).all fun k => (lookI rows k).isSome := by
        rw [List.all_map]
        congr 1
        funext z
        exact Bool.not_not _
      rw [e1, List.map_fst_zip (by omega)]
      rw [Bool.eq_iff_iff, List.all_eq_true, List.all_eq_true]
      exact ⟨fun h k hk => h k ((told_pts ok).mpr hk), fun h k hk => h k ((told_pts ok).mp hk)⟩
    rw [eall]
    have s13 := s1.trans (s2.trans s3)
    generalize upd H2 N (.lst []) = H3 at s13 ⊢
    cases ha : (pointsOf ds).all (fun k => (lookI rows k).isSome) with
    | false => exact iteT (no H3 s13 (fit_no2 ha))
    | true =>
    have has : ∀ k ∈ pointsOf ds, (lookI rows k).isSome = true := fun k hk => List.all_eq_true.mp ha k hk
    refine iteF ?_
    -- each value is whole
    refine ⟨_, rfl, D, xs, rfl, Mat s13, fun W nW => ?_⟩
    have s4 := same_upd (p := W) (o := .lst (xs.map (·.2.2))) nW
    have e4 : (upd H3 W (.lst (xs.map (·.2.2)))) W = some (.lst (xs.map (·.2.2))) := upd_same
    have s14 := s13.trans s4
    generalize upd H3 W (.lst (xs.map (·.2.2))) = H4 at s4 e4 s14 ⊢
    refine ⟨W, rfl, ⟨_, SqL.of e4⟩, fun R2 nR2 => ?_⟩
    have lz2 : (xs.map (·.2.2)).length = (xs.zip rows).length := by rw [List.length_map, List.length_zip, lx, Nat.min_self]
    refine lcF (xs.zip rows) (fun z => !wholeD z.2.2) (fun z => z.1.2.2) (steady_l K W (xs.map (·.2.2))) (fun H' s => SqL.of (s _ _ e4)) nR2 lz2 (by rw [← lz2, List.length_map]; omega) (fun i x z H' QY QN hx hz s ky kn => ?_) (fun H5 s5 e5 => ?_)
    · obtain ⟨row, r⟩ := z
      obtain ⟨hr1, hr2⟩ := List.getElem?_zip_eq_some.mp hz
      rw [List.getElem?_map, hr1] at hx
      cases hx
      obtain ⟨row', hrow', _, sw⟩ := row_at pr hr2
      rw [hr1] at hrow'
      cases hrow'
      have sw := Sw.same (s14.trans s) sw
      obtain ⟨kk, dd⟩ := r
      refine ⟨rfl, _, rfl, row.2.2, .data dd, "int", _, rfl, sw, kit_int dd, _, rfl, ?_⟩
      have bad : wholeD dd = false → ∃ b, some b = some true ∧ True := fun _ => ⟨true, rfl, True.intro⟩
      cases dd with
      | int i => exact ⟨_, rfl, row.2.2, .data (.int i), "bool", false, rfl, sw, kit_bool (.int i), false, rfl, iteF (kn rfl H' (Same.refl _))⟩
      | bool b => exact ⟨_, rfl, row.2.2, .data (.bool b), "bool", true, rfl, sw, kit_bool (.bool b), true, rfl, iteT ⟨_, rfl, ky rfl H' (Same.refl _)⟩⟩
      | none => exact ⟨_, rfl, ky rfl H' (Same.refl _)⟩
      | str z => exact ⟨_, rfl, ky rfl H' (Same.refl _)⟩
      | list z => exact ⟨_, rfl, ky rfl H' (Same.refl _)⟩
      | tuple z => exact ⟨_, rfl, ky rfl H' (Same.refl _)⟩
      | dict z => exact ⟨_, rfl, ky rfl H' (Same.refl _)⟩
    refine ⟨le_line (by simp), fun N2 nN2 => ?_⟩
    have s6 := same_upd (p := N2) (o := .lst []) nN2
    refine ⟨_, ⟨R2, N2, rfl, rfl, .inl ⟨SqL.of (s6 _ _ e5), SqL.of upd_same⟩⟩, _, rfl, ?_⟩
    rw [empty_all]
    have eall2 : ((xs.zip rows).all fun z => !(!wholeD z.2.2)) = rows.all fun r => wholeD r.2 := by
      have e1 : ((xs.zip rows).all fun z => !(!wholeD z.2.2)) = ((xs.zip rows).map (·.2)).all fun r => wholeD r.2 := by
        rw [List.all_map]
        congr 1
        funext z
        exact Bool.not_not _
      rw [e1, List.map_snd_zip (by omega)]
    rw [eall2]
    have s16 := s14.trans (s5.trans s6)
    generalize upd H5 N2 (.lst []) = H6 at s16 ⊢
    cases hw : rows.all (fun r => wholeD r.2) with
    | false => exact iteT (no H6 s16 (fit_no3 hw))
    | true =>
    refine iteF ?_
    have gv : ∀ k ∈ pointsOf ds, mGet xs k = some (.int (numD (lookI rows k))) := fun k hk => num_get pr hw (has k hk)
    refine ⟨_, rfl, D, xs, .text "", _, rfl, Mat s16, .text _, Nat.zero_le _, gv _ (pts_zero ok), rfl, _, rfl, ?_⟩
    by_cases h0 : numD (lookI rows (.text "")) = 0
    · rw [h0, decide_eq_true rfl]
      refine ⟨_, rfl, _, rfl, v, D, ds, xs, fun k => numD (lookI rows k), rfl, hd.same s16, ok, Mat s16, gv, fun H7 s7 => ?_⟩
      have := q H7 (s16.trans s7)
      rw [show fitN ds (.dict rows) = fitR ds rows from rfl, fit_last hl ha hw h0] at this
      exact this
    · rw [decide_eq_false (fun e => h0 (V.int.inj e))]
      exact no H6 s16 (fit_no4 h0)
  · rw [show decide (V.int ((xs.length : Nat) : Int) = V.int ((us.length : Nat) : Int)) = false from decide_eq_false (fun e => hl (by
      have := V.int.inj e
      rw [lx, lu, lt] at this
      exact Int.ofNat.inj this))]
    exact no H1 s1 (fit_no1 hl)
end
end K11
end
section
set_option autoImplicit false
set_option maxRecDepth 100000
set_option maxHeartbeats 4000000
/-! repr of any value, its text told by its data -/
namespace KX
open PySem PySem.Spec PyProof.Rows L2
/-- data whose text is not long -/
structure Gd (n m : Nat) (d : PyData) : Prop where
  sh : d.showable = true
  lv : d.leavesShort 100 = true
  wt : d.weight ≤ n
  dp : d.depth ≤ m
theorem Gd.mono {n m n' m' : Nat} {d : PyData} (h : Gd n m d) (h1 : n ≤ n') (h2 : m ≤ m') : Gd n' m' d := ⟨h.sh, h.lv, Nat.le_trans h.wt h1, Nat.le_trans h.dp h2⟩
theorem gd_non : Gd 0 0 .none := ⟨rfl, rfl, Nat.le_refl _, Nat.le_refl _⟩
theorem gd_bool (b : Bool) : Gd 0 0 (.bool b) := ⟨rfl, rfl, Nat.le_refl _, Nat.le_refl _⟩
theorem gd_int {i : Int} (h : i.natAbs < 10 ^ 70) : Gd 240 0 (.int i) := by
  have l : i.natAbs.log2 < 239 := by
    by_cases e : i.natAbs = 0
    · rw [e]
      decide
    · exact (Nat.log2_lt e).mpr (Nat.lt_trans h (by decide))
  refine ⟨?_, ?_, ?_, Nat.le_refl _⟩
  · show decide (i.natAbs.log2 < 1920) = true
    exact decide_eq_true (by omega)
  · show decide ((PyData.shown (.int i)).length ≤ 100) = true
    refine decide_eq_true ?_
    have e := int_text_length_le10 (k := 70) (by decide) h
    show (Str.ofString (toString i)).length ≤ 100
    rw [PySem.ofString_length]
    omega
  · show (if i == 0 then 0 else i.natAbs.log2 + 1) ≤ 240
    split <;> omega
theorem gd_str {z : Str} (h : z.cps.toList.all (fun c => decide (c < 16 ^ 8)) = true) (l : z.cps.size ≤ 20) : Gd 20 0 (.str z) := ⟨rfl, h, l, Nat.le_refl _⟩
theorem gd_all {n m : Nat} : ∀ {xs : List PyData}, (∀ x ∈ xs, Gd n m x) → PyData.showableAll xs = true ∧ PyData.leavesShortAll 100 xs = true ∧ PyData.weightAll xs ≤ xs.length * (n + 1) ∧ PyData.depthAll xs ≤ m
  | [], _ => ⟨rfl, rfl, by simp [PyData.weightAll], Nat.zero_le _⟩
  | x :: xs, h => by
    obtain ⟨a, b, c, d⟩ := gd_all fun y hy => h y (List.mem_cons_of_mem _ hy)
    have g := h x List.mem_cons_self
    refine ⟨?_, ?_, ?_, ?_⟩
    · simp only [PyData.showableAll, g.sh, a, Bool.and_self]
    · simp only [PyData.leavesShortAll, g.lv, b, Bool.and_self]
    · have := g.wt
      simp only [PyData.weightAll, List.length_cons, Nat.add_mul, Nat.one_mul]
      omega
    · have := g.dp
      simp only [PyData.depthAll]
      omega
theorem gd_tup {n m : Nat} {xs : List PyData} (h : ∀ x ∈ xs, Gd n m x) : Gd (xs.length * (n + 1)) (m + 1) (.tuple xs) := by
  obtain ⟨a, b, c, d⟩ := gd_all h
  exact ⟨a, b, c, Nat.succ_le_succ d⟩
theorem gd_lst {n m : Nat} {xs : List PyData} (h : ∀ x ∈ xs, Gd n m x) : Gd (xs.length * (n + 1)) (m + 1) (.list xs) := by
  obtain ⟨a, b, c, d⟩ := gd_all h
  exact ⟨a, b, c, Nat.succ_le_succ d⟩
theorem gd_kvs {n m : Nat} : ∀ {kvs : List (PyData × PyData)}, (∀ x ∈ kvs, Gd n m x.1 ∧ Gd n m x.2) → PyData.showableKv kvs = true ∧ PyData.leavesShortKv 100 kvs = true ∧ PyData.weightKv kvs ≤ kvs.length * (2 * n + 2) ∧ PyData.depthKv kvs ≤ m
  | [], _ => ⟨rfl, rfl, by simp [PyData.weightKv], Nat.zero_le _⟩
  | (k, v) :: xs, h => by
    obtain ⟨a, b, c, d⟩ := gd_kvs fun y hy => h y (List.mem_cons_of_mem _ hy)
    obtain ⟨g1, g2⟩ := h (k, v) List.mem_cons_self
    have g1 : Gd n m k := g1
    have g2 : Gd n m v := g2
    refine ⟨?_, ?_, ?_, ?_⟩
    · simp only [PyData.showableKv, g1.sh, g2.sh, a, Bool.and_self]
    · simp only [PyData.leavesShortKv, g1.lv, g2.lv, b, Bool.and_self]
    · have := g1.wt
      have := g2.wt
      simp only [PyData.weightKv, List.length_cons, Nat.add_mul, Nat.one_mul]
      omega
    · have := g1.dp
      have := g2.dp
      simp only [PyData.depthKv]
      omega
theorem gd_dict {n m : Nat} {kvs : List (PyData × PyData)} (h : ∀ x ∈ kvs, Gd n m x.1 ∧ Gd n m x.2) : Gd (kvs.length * (2 * n + 2)) (m + 1) (.dict kvs) := by
  obtain ⟨a, b, c, d⟩ := gd_kvs h
  exact ⟨a, b, c, Nat.succ_le_succ d⟩
theorem Gd.fits {n m : Nat} {d : PyData} (h : Gd n m d) (hn : n ≤ 100000) : d.shown.length ≤ sizeLine := by
  have := PyData.shown_le 100 (by decide) d h.lv
  have := h.wt
  rw [sizeLine_eq]
  have : (100 + 2) * d.weight ≤ 102 * 100000 := Nat.mul_le_mul_left _ (by omega)
  omega
mutual
def noLst : PyData → Bool
  | .list _ => false
  | .dict _ => false
  | .tuple xs => noLsts xs
  | _ => true
def noLsts : List PyData → Bool
  | [] => true
  | x :: xs => noLst x && noLsts xs
end
section
variable {P : Program} {w : World} {H : Hp} {h : Heap}
mutual
theorem sw_reads (ok : HOk P w H h) : ∀ {v : V} {d : PyData}, Sw H v d → ∀ {u : Value}, RelV v u → ∃ as, Reads h u d as ∧ (noLst d = true → as = [])
  | _, _, .non, u, r => by
    cases (show u = Value.none from r)
    exact ⟨[], .none, fun _ => rfl⟩
  | _, _, .bl b, u, r => by
    cases (show u = Value.bool b from r)
    exact ⟨[], .bool b, fun _ => rfl⟩
  | _, _, .int i, u, r => by
    obtain ⟨t, rfl⟩ := (show ∃ t, u = Value.int i t from r)
    exact ⟨[], .int i t, fun _ => rfl⟩
  | _, _, .str z, u, r => by
    obtain ⟨t, rfl⟩ := (show ∃ t, u = Value.str z t from r)
    exact ⟨[], .str z t, fun _ => rfl⟩
  | _, _, .tup (a := a) (vs := vs) (ds := ds) e q, u, r => by
    cases (show u = Value.ref a from r)
    obtain ⟨_, its, rv, o, ho, hc, n, hd⟩ := (show vs.length ≤ sizeLine ∧ ∃ its : List Value, Vals vs its ∧ IsTup h a its.toArray from ok a _ e)
    obtain ⟨as, ra, em⟩ := sws_reads ok q rv
    exact ⟨as, .tuple ho hc hd (by rw [List.toList_toArray]; exact ra), fun k => em k⟩
  | _, _, .lst (a := a) (vs := vs) (ds := ds) e q, u, r => by
    cases (show u = Value.ref a from r)
    obtain ⟨_, its, n, rv, ho⟩ := (show vs.length ≤ sizeLine ∧ ∃ (its : List Value) (n : Nat), Vals vs its ∧ h.get? a = some { cls := .type "list", data := .seq its.toArray n } from ok a _ e)
    obtain ⟨as, ra, em⟩ := sws_reads ok q rv
    exact ⟨a :: as, .list ho rfl rfl (by rw [List.toList_toArray]; exact ra), fun k => by cases k⟩
theorem sws_reads (ok : HOk P w H h) : ∀ {vs : List V} {ds : List PyData}, SwAll H vs ds → ∀ {us : List Value}, Vals vs us → ∃ as, ReadsAll h us ds as ∧ (noLsts ds = true → as = [])
  | _, _, .nil, _, .nil => ⟨[], .nil, fun _ => rfl⟩
  | _, _, .cons (d := d) (ds := ds) a q, _, .cons r rr => by
    obtain ⟨as, ra, ea⟩ := sw_reads ok a r
    obtain ⟨bs, rb, eb⟩ := sws_reads ok q rr
    refine ⟨as ++ bs, .cons ra rb, fun k => ?_⟩
    have k : (noLst d && noLsts ds) = true := k
    rw [Bool.and_eq_true] at k
    rw [ea k.1, eb k.2]
    rfl
end
mutual
theorem sw_nd : ∀ {v : V} {d : PyData}, Sw H v d → d.hasDict = false
  | _, _, .non => rfl
  | _, _, .bl _ => rfl
  | _, _, .int _ => rfl
  | _, _, .str _ => rfl
  | _, _, .tup _ q => sws_nd q
  | _, _, .lst _ q => sws_nd q
theorem sws_nd : ∀ {vs : List V} {ds : List PyData}, SwAll H vs ds → PyData.hasDictAll ds = false
  | _, _, .nil => rfl
  | _, _, .cons a q => by
    simp only [PyData.hasDictAll, sw_nd a, sws_nd q, Bool.or_self]
end
end
def dataN : NV → PyData
  | .data d => d
  | .dict rows => .dict (rows.map fun r => (r.1.data, r.2))
def plN : NV → Prop
  | .data _ => True
  | .dict rows => ∀ r ∈ rows, noLst r.2 = true
theorem rows_reads {P : Program} {w : World} {H : Hp} {h : Heap} (ok : HOk P w H h) : ∀ {xs : List MRow} {rows : List (NestedKey × PyData)}, Paired (RowR H) xs rows → (∀ x ∈ xs, MKeyAt H x.1 x.2.1) → (∀ r ∈ rows, noLst r.2 = true) → ∀ {es : List DictEntry}, Paired (MRel w) xs es →
    ReadsAll h (es.map (·.key)) ((rows.map fun r => (r.1.data, r.2)).map (·.1)) [] ∧ ReadsAll h (es.map (·.val)) ((rows.map fun r => (r.1.data, r.2)).map (·.2)) []
  | _, _, .nil, _, _, _, .nil => ⟨.nil, .nil⟩
  | _, _, .cons (a := x) (b := r) a q, hk, hn, _, .cons (b := e) b bb => by
    obtain ⟨h1, h2⟩ := rows_reads ok q (fun y hy => hk y (List.mem_cons_of_mem _ hy)) (fun y hy => hn y (List.mem_cons_of_mem _ hy)) bb
    obtain ⟨_, k1, k2⟩ := b
    obtain ⟨a1, a2⟩ := a
    have m := key_data ok (hk x List.mem_cons_self) k1
    rw [a1] at m
    obtain ⟨as, rd, em⟩ := sw_reads ok a2 k2
    rw [em (hn r List.mem_cons_self)] at rd
    exact ⟨ReadsAll.cons (as := []) (bs := []) m h1, ReadsAll.cons (as := []) (bs := []) rd h2⟩
def rReprV (w : World) : List V → Hp → VK → Prop := fun vs H Q => ∃ v n, vs = [v] ∧ NvAt w H v n ∧ plN n ∧ Gd 100000 50 (dataN n) ∧ Q (.str (dataN n).shown) H
theorem call_reprV {X : Cx} (hg : X.A.guards = some []) (hu : X.A.units + 64 < cLine) : CallR X (.builtin "repr") (rReprV X.w) := by
  intro pins s σ H vs us Q I r h
  obtain ⟨v, n, rfl, hn, pl, g, q⟩ := h
  obtain ⟨u, rfl, ru⟩ := vals1 r
  have hz := g.fits (Nat.le_refl _)
  have hd := g.dp
  cases n with
  | dict rows =>
    obtain ⟨a, xs, rfl, M, pr⟩ := hn
    obtain rfl : u = Value.ref a := ru
    obtain ⟨⟨o, es, ep, ho, hc, hdt, rel⟩, _, _, lo, _⟩ := M.ok I.hok
    obtain ⟨r1, r2⟩ := rows_reads I.hok pr M.ks pl rel
    have rd : Reads s.heap (.ref a) (.dict (rows.map fun r => (r.1.data, r.2))) (a :: [] ++ []) := .dict ho hc.1 hdt r1 r2
    refine repr_of_reads' rd g.sh (fun _ hm => ?_) hg (by have : PyData.depth (.dict (rows.map fun r => (r.1.data, r.2))) ≤ 50 := hd; omega) (fun _ _ z => z) (fun h' t tk kp => ?_) hz
    · have : sysModules = a := by simpa using hm
      rw [this] at lo
      simp at lo
    · exact ⟨.str _, H, I.kept kp, ⟨t, rfl⟩, q⟩
  | data d =>
    have hn : Sw H v d := hn
    have nd := sw_nd hn
    obtain ⟨as, rd, _⟩ := sw_reads I.hok hn ru
    cases hn with
    | non =>
      obtain rfl : u = Value.none := ru
      exact PySem.P.repr_of_none ⟨.str _, H, I.tok _, ⟨_, rfl⟩, q⟩
    | bl b =>
      obtain rfl : u = Value.bool b := ru
      refine PySem.P.repr_of_bool ⟨.str _, H, I.tok _, ⟨_, rfl⟩, ?_⟩
      cases b <;> exact q
    | int i =>
      obtain ⟨t, rfl⟩ := (show ∃ t, u = Value.int i t from ru)
      exact PySem.P.repr_of_int (of_decide_eq_true g.sh) ⟨.str _, H, I.tok _, ⟨_, rfl⟩, q⟩
    | str z =>
      obtain ⟨t, rfl⟩ := (show ∃ t, u = Value.str z t from ru)
      exact PySem.P.repr_of_str ⟨.str _, H, I.tok _, ⟨_, rfl⟩, q⟩ hz
    | @tup a vs ds e k =>
      obtain rfl : u = Value.ref a := ru
      exact repr_of_reads' rd g.sh (PyData.noDict_hsm nd) hg (by show _ + (PyData.depth (.tuple ds) + 1) < _; have : PyData.depth (.tuple ds) ≤ 50 := hd; omega) (fun _ _ z => z) (fun h' t tk kp => ⟨.str _, H, I.kept kp, ⟨t, rfl⟩, q⟩) hz
    | @lst a vs ds e k =>
      obtain rfl : u = Value.ref a := ru
      exact repr_of_reads' rd g.sh (PyData.noDict_hsm nd) hg (by show _ + (PyData.depth (.list ds) + 1) < _; have : PyData.depth (.list ds) ≤ 50 := hd; omega) (fun _ _ z => z) (fun h' t tk kp => ⟨.str _, H, I.kept kp, ⟨t, rfl⟩, q⟩) hz
end KX
end
section
set_option autoImplicit false
set_option maxRecDepth 100000
set_option maxHeartbeats 4000000
/-! dict(list of pairs), the keys texts, numbers and tuples side by side -/
namespace KX
open PySem PySem.Spec PyProof.Rows L2
def mMerge (acc : List MRow) (rows : List MRow) : List MRow := rows.foldl (fun a r => mPut a r.1 r.2.1 r.2.2) acc
theorem mMerge_snoc (acc rows : List MRow) (r : MRow) : mMerge acc (rows ++ [r]) = mPut (mMerge acc rows) r.1 r.2.1 r.2.2 := by
  unfold mMerge
  rw [List.foldl_append]
  rfl
theorem mPut_from {xs : List MRow} {k : NestedKey} {y v : V} {x : MRow} (h : x ∈ mPut xs k y v) : (∃ z ∈ xs, z.1 = x.1 ∧ z.2.1 = x.2.1) ∨ (x.1 = k ∧ x.2.1 = y) := by
  unfold mPut at h
  split at h
  · obtain ⟨z, hz, rfl⟩ := List.mem_map.mp h
    refine .inl ⟨z, hz, ?_⟩
    split <;> exact ⟨rfl, rfl⟩
  · rcases List.mem_append.mp h with h | h
    · exact .inl ⟨x, h, rfl, rfl⟩
    · rw [List.mem_singleton] at h
      subst h
      exact .inr ⟨rfl, rfl⟩
theorem mMerge_from : ∀ {rows acc : List MRow} {x : MRow}, x ∈ mMerge acc rows → (∃ z ∈ acc, z.1 = x.1 ∧ z.2.1 = x.2.1) ∨ ∃ z ∈ rows, z.1 = x.1 ∧ z.2.1 = x.2.1
  | [], acc, x, h => .inl ⟨x, h, rfl, rfl⟩
  | r :: rows, acc, x, h => by
    rcases mMerge_from (rows := rows) (acc := mPut acc r.1 r.2.1 r.2.2) h with ⟨z, hz, e1, e2⟩ | ⟨z, hz, e⟩
    · rcases mPut_from hz with ⟨y, hy, f1, f2⟩ | ⟨f1, f2⟩
      · exact .inl ⟨y, hy, f1.trans e1, f2.trans e2⟩
      · exact .inr ⟨r, List.mem_cons_self, f1.symm.trans e1, f2.symm.trans e2⟩
    · exact .inr ⟨z, List.mem_cons_of_mem _ hz, e⟩
theorem mPut_len (xs : List MRow) (k : NestedKey) (y v : V) : (mPut xs k y v).length ≤ xs.length + 1 := by
  unfold mPut
  split
  · rw [List.length_map]
    omega
  · rw [List.length_append]
    exact Nat.le_refl _
theorem mMerge_len : ∀ (rows acc : List MRow), (mMerge acc rows).length ≤ acc.length + rows.length
  | [], acc => Nat.le_refl _
  | r :: rows, acc => by
    have h := mMerge_len rows (mPut acc r.1 r.2.1 r.2.2)
    have := mPut_len acc r.1 r.2.1 r.2.2
    rw [List.length_cons]
    show (mMerge (mPut acc r.1 r.2.1 r.2.2) rows).length ≤ _
    omega
theorem m_setRaw {P : Program} {w : World} {A : Around} {E : Value → Shared → Prop} {s : Shared} {a : Addr} {xs : List MRow} {k : NestedKey} {y v : V} {u z : Value} {Q : Unit → Shared → Prop} (hu : A.units + 16 < cLine) (M : MDOk w s.heap a xs) (ks : ∀ x ∈ xs, ∀ u, RelV x.2.1 u → NestedIs s.heap x.1 u)
    (is : NestedIs s.heap k u) (dk : k.depth ≤ 8) (ry : RelV y u) (rv : RelV v z) (few : xs.length < sizeLine)
    (h : ∀ h' tk, MDOk w h' a (mPut xs k y v) → Heap.SameBut a s.heap h' → Q () { s with heap := h', toks := tk }) : wpAny (model P w) A (dictSet a u z) Q E s := by
  obtain ⟨⟨o, es, ep, ho, hc, hd, r⟩, nd, dp, lo, le⟩ := M
  have m : MixOk w s.heap es (xs.map (·.1)) := by
    refine ⟨by rw [List.length_map, Paired.length r, Array.length_toList], fun i e he => ?_, nd⟩
    obtain ⟨x, hx, e1, e2, _⟩ := Paired.atR r (by rw [Array.getElem?_toList]; exact he)
    have mx := List.mem_of_getElem? hx
    exact ⟨x.1, by rw [List.getElem?_map, hx]; rfl, ks x mx _ e2, dp x mx, e1⟩
  have sz : es.size = xs.length := by rw [Paired.length r, Array.length_toList]
  unfold dictSet
  try with_reducible refine wpAny_holding ?_
  refine wpAny_bind (pyHash_key k u A s _ is (by omega) ?_)
  unfold dictSetHashed
  try with_reducible refine wpAny_holding ?_
  refine wpAny_bind (mix_find (s := { s with toks := s.toks + k.draws }) (by omega) is dk ho hd m (fun n => ?_) fun j e => ?_)
  · have g := mGet_none n
    have ep' : mPut xs k y v = xs ++ [(k, y, v)] := by
      unfold mPut
      rw [g]
      rfl
    rw [ep'] at h
    have hg := Heap.get?_update_self (Obj.mapDictKeys (·.push ⟨k.hash w, u, z⟩)) ho (Obj.isFreed_of_dict (Obj.data_mapDictKeys hd _))
    refine wpAny_bind (wpAny_rule (wpAny_updateDictKeys (hz := by omega) (s := { s with toks := s.toks + k.draws }) ho hd (h _ _ ⟨⟨_, _, _, hg, hc.mapDictKeys _, Obj.data_mapDictKeys hd _, ?_⟩, ?_, ?_, lo, ?_⟩ (Heap.SameBut.update ..))))
    · rw [Array.toList_push]
      exact Paired.app r (.cons ⟨rfl, ry, rv⟩ .nil)
    · rw [List.map_append, List.nodup_append]
      refine ⟨nd, by simp, fun p hp q hq => ?_⟩
      simp only [List.map_cons, List.map_nil, List.mem_singleton] at hq
      rw [hq]
      intro c
      rw [c] at hp
      obtain ⟨j, hj⟩ := List.mem_iff_getElem?.mp hp
      exact n j hj
    · intro x hx
      rcases List.mem_append.mp hx with hx | hx
      · exact dp x hx
      · rw [List.mem_singleton] at hx
        rw [hx]
        exact dk
    · rw [List.length_append, List.length_singleton]
      exact few
  · rw [List.getElem?_map] at e
    obtain ⟨x, hx, rfl⟩ := Option.map_eq_some_iff.mp e
    have ep' : mPut xs x.1 y v = xs.modify j fun x => (x.1, x.2.1, v) := by
      unfold mPut
      rw [mGet_at nd hx]
      exact map_mod nd hx rfl
    have ek : (mPut xs x.1 y v).map (·.1) = xs.map (·.1) := by
      unfold mPut
      rw [mGet_at nd hx]
      exact mPut_keys xs
    have hg := Heap.get?_update_self (Obj.mapDict (·.modify j fun e => { e with val := z })) ho (Obj.isFreed_of_dict (Obj.data_mapDict hd _))
    refine wpAny_bind (wpAny_rule (wpAny_bind (wpAny_updateDict (s := { s with toks := s.toks + x.1.draws }) ho hd (wpAny_point (h _ _ ⟨⟨_, _, _, hg, hc.mapDict _, Obj.data_mapDict hd _, ?_⟩, ?_, ?_, lo, ?_⟩ (Heap.SameBut.update ..))))))
    · rw [ep']
      have := Paired.mod (f := fun x : MRow => (x.1, x.2.1, v)) (g := fun e : DictEntry => { e with val := z }) (fun p q rr => ⟨rr.1, rr.2.1, rv⟩) j r
      obtain ⟨l⟩ := es
      simpa using this
    · rw [ek]
      exact nd
    · intro p hp
      have : p.1 ∈ (mPut xs x.1 y v).map (·.1) := List.mem_map.mpr ⟨p, hp, rfl⟩
      rw [ek] at this
      obtain ⟨q, hq, eq⟩ := List.mem_map.mp this
      rw [← eq]
      exact dp q hq
    · have := congrArg List.length ek
      rw [List.length_map, List.length_map] at this
      omega
def PrM (K : PySem.W.Frag) (H : Hp) (p : Addr) (r : MRow) : Prop := SqT K H p [r.2.1, r.2.2] ∧ MKeyAt H r.1 r.2.1 ∧ r.1.depth ≤ 8
theorem prs_of {X : Cx} {pins : List (Addr × Obj)} {σ : L2.St} {H : Hp} {s : Shared} (I : Inv X pins σ H s) : ∀ {ps : List Addr} {rows : List MRow}, Paired (PrM X.K H) ps rows →
    ∃ prs : List (Value × Value), prs.length = ps.length ∧ (∀ (j : Nat) (k v : Value), prs[j]? = some (k, v) → ∃ b : Addr, ps[j]? = some b ∧ s.heap.IsTuple b #[k, v]) ∧ ∀ (j : Nat) (k v : Value), prs[j]? = some (k, v) → ∃ r : MRow, rows[j]? = some r ∧ RelV r.2.1 k ∧ RelV r.2.2 v
  | _, _, .nil => ⟨[], rfl, fun j k v e => by simp at e, fun j k v e => by simp at e⟩
  | _, _, .cons (a := p) (b := r) h t => by
    obtain ⟨prs, hl, h1, h2⟩ := prs_of I t
    obtain ⟨its, rv, ht, _⟩ := I.tuple h.1
    obtain ⟨u, y, ei, ru, ry⟩ := vals2 rv
    subst ei
    refine ⟨(u, y) :: prs, by rw [List.length_cons, List.length_cons, hl], fun j k v e => ?_, fun j k v e => ?_⟩
    · cases j with
      | zero =>
        cases e
        exact ⟨p, rfl, ht⟩
      | succ j =>
        obtain ⟨b, e1, e2⟩ := h1 j k v (by simpa using e)
        exact ⟨b, by simpa using e1, e2⟩
    · cases j with
      | zero =>
        cases e
        exact ⟨r, rfl, ru, ry⟩
      | succ j =>
        obtain ⟨b, e1, e2⟩ := h2 j k v (by simpa using e)
        exact ⟨b, by simpa using e1, e2⟩
def rDictM (K : PySem.W.Frag) (w : World) : List V → Hp → VK → Prop := fun vs H Q => ∃ (a : Addr) (ps : List Addr) (rows : List MRow), vs = [.ref a] ∧ SqL K H a (ps.map V.ref) ∧ Paired (PrM K H) ps rows ∧ rows.length < sizeLine ∧ ∀ p, H p = none → Q (.ref p) (upd H p (mDict w p (mMerge [] rows)))
theorem call_dictM {X : Cx} (hcalm : X.calm = true) (hu : X.A.units + 64 < cLine) : CallR X (.type "dict") (rDictM X.K X.w) := by
  intro pins s σ H vs us Q I r q
  obtain ⟨a, ps, rows, rfl, hq, hp, few, q⟩ := q
  obtain ⟨u, rfl, ru⟩ := vals1 r
  obtain rfl : u = Value.ref a := ru
  obtain ⟨its, rv, pl, hz⟩ := I.list hq
  have ei := refs_at rv
  subst ei
  obtain ⟨prs, hl, hp1, hp2⟩ := prs_of I hp
  have lr : ps.length = rows.length := Paired.length hp
  obtain ⟨o, n, ho, hc, hd, hdat⟩ := pl
  have big := I.big
  have keyM : ∀ {r : MRow}, r ∈ rows → MKeyAt H r.1 r.2.1 ∧ r.1.depth ≤ 8 := fun {r} hr => by
    obtain ⟨j, hj⟩ := List.mem_iff_getElem?.mp hr
    obtain ⟨p, _, e⟩ := Paired.atR hp hj
    exact e.2
  have ok : PlainSeq "list" s.heap a (ps.map Value.ref).toArray ∧ PairItems s.heap (ps.map Value.ref).toArray (fun j => ps.getD j 0) prs := by
    refine ⟨⟨o, n, ho, hc, hd, hdat⟩, by simp [hl], fun j k v e => ?_⟩
    obtain ⟨b, e1, e2⟩ := hp1 j k v e
    have eb : ps.getD j 0 = b := by rw [List.getD_eq_getElem?_getD, e1]; rfl
    show (ps.map Value.ref).toArray[j]? = some (Value.ref (ps.getD j 0)) ∧ PairAt s.heap (ps.getD j 0) k v
    rw [eb]
    exact ⟨by simp [e1], .inl e2⟩
  refine call_dict_arg (PairArg.list a (ps.map Value.ref).toArray (fun j => ps.getD j 0) prs) ok fun s₁ hs₁ hdf ok₁ => ?_
  subst hs₁
  have k0 : ∀ b ob, s.heap.get? b = some ob → (s.heap.push { cls := .type "dict", data := .dict #[] }).get? b = some ob := fun b ob e => Heap.get?_push_of_some _ e
  have lo : (s.heap.objs.size == sysModules) = false := beq_eq_false_iff_ne.mpr (Ne.symm (Nat.ne_of_lt big))
  refine updateFrom_arg (Tab := fun i h => MDOk X.w h s.heap.objs.size (mMerge [] (rows.take i)) ∧ ∀ b ob, s.heap.get? b = some ob → h.get? b = some ob) (PairArg.list a (ps.map Value.ref).toArray (fun j => ps.getD j 0) prs) .none (I.ok.hd hcalm) ok₁ hdf
    ⟨⟨⟨_, #[], 0, Heap.get?_push_size _ rfl, ⟨rfl, rfl, rfl⟩, rfl, .nil⟩, List.nodup_nil, fun _ h => (nomatch h), lo, Nat.zero_le _⟩, k0⟩ (fun _ _ tb => ?_) (fun i h h' wr' hdw hw tb hk => ⟨?_, fun b ob e => ?_⟩) ?_ ?_
  · obtain ⟨⟨ob, _, _, e, _⟩, _⟩ := tb.1
    exact Heap.lt_size e
  · obtain ⟨⟨ob, es, ep, e1, e2⟩, nd, dp, l, f⟩ := tb.1
    exact ⟨⟨ob, es, ep, hk _ _ hdw e1, e2⟩, nd, dp, l, f⟩
  · refine hk b ob (fun hb => ?_) (tb.2 b ob e)
    rcases hw b hb with h | h
    · exact nomatch h
    · have h : (s.heap.push { cls := .type "dict", data := .dict #[] }).get? b = none := h
      rw [k0 b ob e] at h
      cases h
  · intro i key v s' Q' E' hi hrel tb _ hQ
    obtain ⟨r, hr, r1, r2⟩ := hp2 i key v hrel
    have mr := keyM (List.mem_of_getElem? hr)
    have up : ∀ {k : NestedKey} {z : Value}, NestedIs s.heap k z → NestedIs s'.heap k z := fun {k z} x => NestedIs.at (fun b ob vs m e _ => tb.2 b ob e) k z x
    have lm := mMerge_len (rows.take i) []
    rw [List.length_nil, List.length_take] at lm
    refine m_setRaw (y := r.2.1) (v := r.2.2) (by show X.A.units + 1 + 1 + 16 < cLine; omega) tb.1 (fun x hx z rz => ?_) (up (mkey_of I.hok mr.1 r1)) mr.2 r1 r2 (by omega) fun h' tk M' sb => ?_
    · rcases mMerge_from hx with ⟨y, hy, _⟩ | ⟨y, hy, e1, e2⟩
      · cases hy
      · have my := (keyM (List.mem_of_mem_take hy)).1
        rw [e1, e2] at my
        exact up (mkey_of I.hok my rz)
    · refine hQ h' tk ⟨?_, fun b ob e => (sb.2 b (Nat.ne_of_lt (Heap.lt_size e))).trans (tb.2 b ob e)⟩ sb
      rw [List.take_add_one, hr]
      show MDOk X.w h' _ (mMerge [] (rows.take i ++ [r]))
      rw [mMerge_snoc]
      exact M'
  · intro h' tk tb hk
    have e : rows.take prs.length = rows := List.take_of_length_le (by omega)
    rw [e] at tb
    exact ⟨rfl, .ref s.heap.objs.size, upd H s.heap.objs.size (mDict X.w s.heap.objs.size (mMerge [] rows)), I.laid (t' := tk) tb.2 (Nat.le_refl _) (mObj tb.1), rfl, q _ (I.hok.fresh (Nat.le_refl _))⟩
end KX
end
section
set_option autoImplicit false
set_option maxRecDepth 100000
set_option maxHeartbeats 4000000
/-! t[::-1] of a tuple -/
namespace KX
open PySem PySem.Spec PyProof.Rows L2 HT
theorem fm_congr {α β : Type} {f g : α → Option β} : ∀ {l : List α}, (∀ x ∈ l, f x = g x) → l.filterMap f = l.filterMap g
  | [], _ => rfl
  | x :: l, h => by
    rw [List.filterMap_cons, List.filterMap_cons, h x List.mem_cons_self, fm_congr fun y hy => h y (List.mem_cons_of_mem _ hy)]
theorem range_get {α : Type} : ∀ ys : List α, (List.range ys.length).filterMap (fun k => ys[k]?) = ys
  | [] => rfl
  | y :: ys => by
    rw [List.length_cons, List.range_succ_eq_map, List.filterMap_cons, List.filterMap_map]
    show y :: (List.range ys.length).filterMap (fun k => (y :: ys)[k + 1]?) = y :: ys
    rw [fm_congr (g := fun k => ys[k]?) fun k _ => List.getElem?_cons_succ, range_get ys]
section
variable {prog : Program} {w : World} {A : Around} {E : Value → Shared → Prop} {s : Shared}
theorem rev_pick (xs : Array Value) : ((List.range xs.size).filterMap fun (k : Nat) => xs[((xs.size : Int) - 1 + (k : Int) * (-1)).toNat]?).toArray = xs.toList.reverse.toArray := by
  have e := PySem.W.krv_pick xs
  congr 1
  have h : ∀ k, k ∈ List.range xs.size → xs[((xs.size : Int) - 1 + (k : Int) * (-1)).toNat]? = xs.toList.reverse[k]? := fun k hk => by
    have hk := List.mem_range.mp hk
    rw [List.getElem?_reverse (by simpa using hk), Array.getElem?_toList, Array.length_toList]
    congr 1
    omega
  rw [fm_congr h]
  have l : xs.size = xs.toList.reverse.length := by simp
  rw [l]
  exact range_get _
theorem adj_rev (n : Nat) : Builtin.Slice.sliceAdjust none none (-1) (n : Int) = ((n : Int) - 1, -1) := by
  unfold Builtin.Slice.sliceAdjust
  simp
theorem places_rev (n : Nat) : Builtin.Slice.slicePlaces ((n : Int) - 1) (-1) (-1) = n := by
  unfold Builtin.Slice.slicePlaces
  have h1 : ¬ ((-1 : Int) > 0) := by omega
  simp only [h1, if_false]
  split
  · rw [show (- -1 : Int) = 1 by decide, Int.ediv_one]
    omega
  · omega
theorem getItem_tuple_rev {t sl : Addr} {items : Array Value} {vl vu vs : Value} {Q : Value → Shared → Prop} (ht : IsTup s.heap t items) (hs : s.heap.IsSliceOf sl vl vu vs) (pl : IsPart vl none) (pu : IsPart vu none) (ps : IsPart vs (some (-1)))
    (h : Q (.ref s.heap.objs.size) { s with heap := s.heap.push { cls := .type "tuple", data := .seq items.toList.reverse.toArray } }) (hsz : items.size ≤ sizeLine) : wpAny (model prog w) A (getItem (.ref t) (.ref sl)) Q E s := by
  have htake : sizeOk (.seq items.toList.reverse.toArray) := by
    show items.toList.reverse.toArray.size ≤ sizeLine
    simpa using hsz
  obtain ⟨os, hos, hcs, hds⟩ := id hs
  have hTs : s.TypeIs (.ref sl) "slice" := ⟨os, hos, hcs⟩
  unfold getItem
  try with_reducible refine wpAny_holding ?_
  first | refine wpAny_bind (wpAny_pure ?_) | skip
  refine wpAny_bind (wpAny_sequenceKey ht.typeIs (by decide) ?_)
  refine wpAny_bind (wpAny_callSpecial?_slot (name := Str.ofString "__getitem__") ht.typeIs PyProof.Rows.slot_tuple_getitem
    (wpAny_call_entry PyProof.Rows.slot_tuple_getitem ht.typeIs entry_tuple_getitem ?_ (args_tuple_getitem _ _)))
  show wpAny _ _ (Builtin.Tuple.tupleItemsOf (.ref t) >>= _) _ _ s
  refine wpAny_bind (tupleItemsOf_ ht ?_)
  refine wpAny_bind (wpAny_typeOf hTs ?_)
  rw [if_pos (by decide)]
  refine wpAny_bind ?_
  unfold Builtin.Slice.sliceApplied Builtin.Slice.sliceFields
  refine wpAny_bind (wpAny_bind (wpAny_field hos hds (x := vl) rfl (wpAny_bind (wpAny_field hos hds (x := vu) rfl (wpAny_bind (wpAny_field hos hds (x := vs) rfl (wpAny_pure ?_)))))))
  refine wpAny_bind (slicePart_ ps ?_)
  show wpAny _ _ (if ((-1 : Int) == 0) = true then _ else _) _ _ s
  rw [if_neg (by decide)]
  refine wpAny_bind (slicePart_ pl (wpAny_bind (slicePart_ pu (wpAny_bind (wpAny_pure ?_)))))
  show wpAny _ _ (match Builtin.Slice.sliceAdjust none none (-1) (items.size : Int) with | (lo, hi) => pure (lo, (-1 : Int), Builtin.Slice.slicePlaces lo hi (-1))) _ _ s
  rw [adj_rev]
  show wpAny _ _ (pure (((items.size : Int) - 1), (-1 : Int), Builtin.Slice.slicePlaces ((items.size : Int) - 1) (-1) (-1))) _ _ s
  rw [places_rev]
  refine wpAny_pure ?_
  have hno : ¬ ((((items.size : Int) - 1) == 0 && (-1 : Int) == 1 && items.size == items.size) = true) := by
    rw [show ((-1 : Int) == 1) = false by decide, Bool.and_false, Bool.false_and]
    exact Bool.false_ne_true
  show wpAny _ _ (if (((items.size : Int) - 1) == 0 && (-1 : Int) == 1 && items.size == items.size) = true then _ else _) _ _ s
  rw [if_neg hno, rev_pick]
  first
    | exact wpAny_bind (m := Builtin.Tuple.tupleExact _) (wpAny_newObj_type (wpAny_pure ⟨_, rfl, wpAny_pure h⟩) htake)
    | exact wpAny_bind (m := Builtin.Tuple.tupleExact _) (wpAny_newObj_type (wpAny_bind (wpAny_pure (wpAny_pure ⟨_, rfl, wpAny_pure h⟩))) htake)
    | exact wpAny_bind (wpAny_bind (m := Builtin.Tuple.tupleExact _) (wpAny_newObj_type (wpAny_pure (wpAny_pure ⟨_, rfl, wpAny_pure h⟩)) htake))
    | exact wpAny_bind (wpAny_bind (m := Builtin.Tuple.tupleExact _) (wpAny_newObj_type (wpAny_pure ⟨_, rfl, wpAny_pure h⟩) htake))
end
def tRevT (K : PySem.W.Frag) (te : TE) : TE := fun σ H Q => te σ H fun x H1 => ∃ a xs, x = .ref a ∧ SqT K H1 a xs ∧ ∀ p, H1 p = none → Q (.ref p) (upd H1 p (.tup xs.reverse))
theorem pe_revT {X : Cx} {e : Expr} {te : TE} {k : Nat} {p1 p2 p3 pos : Pos} (he : PE X e te) : PE X (.Subscript e (.Slice none none (some (.UnaryOp .USub (.Constant (.int 1) k p1) p2)) p3) pos) (tRevT X.K te) := by
  refine ⟨fun pins s σ H Q I h => ?_⟩
  refine Subscript_ (thn (he.run pins s σ H _ I h) fun v s1 ⟨x, H1, I1, r1, q1⟩ => ?_)
  obtain ⟨a, xs, ex, hx, q⟩ := q1
  subst ex
  cases r1
  have hst : PO X (some (.UnaryOp .USub (.Constant (.int 1) k p1) p2)) (tPart (tUn (rU fun i => .int (-i)) (tC (.int 1)))) := po_some (pe_un un_neg pe_int)
  refine wpAny_Slice (thn (po_none.run pins s1 σ H1 (fun o H2 => o = none ∧ H2 = H1) I1 ⟨rfl, rfl⟩) fun vl s2 ⟨l, H2, I2, pl, el, e2⟩ => ?_)
  subst el e2
  refine thn (po_none.run pins s2 σ H2 (fun o H3 => o = none ∧ H3 = H2) I2 ⟨rfl, rfl⟩) fun vu s3 ⟨u, H3, I3, pu, eu, e3⟩ => ?_
  subst eu e3
  refine thn (hst.run pins s3 σ H3 (fun o H4 => o = some (-1) ∧ H4 = H3) I3 ⟨1, rfl, -1, rfl, rfl, rfl⟩) fun vs s4 ⟨o, H4, I4, ps, eo, e4⟩ => ?_
  subst eo e4
  have I5 : Inv X pins σ H4 { s4 with heap := s4.heap.push { cls := .type "slice", data := .fields #[vl, vu, vs] } } := I4.kept (t' := s4.toks) fun b ob q => Heap.get?_push_of_some _ q
  obtain ⟨its, r, ht, hz⟩ := I5.tuple hx
  have hlen := r.length
  show wpAny (model X.prog X.w) X.A (subscriptTail e (.Slice none none (some (.UnaryOp .USub (.Constant (.int 1) k p1) p2)) p3) (.ref a) (.ref s4.heap.objs.size)) (EP X pins σ Q) X.xe { s4 with heap := s4.heap.push { cls := .type "slice", data := .fields #[vl, vu, vs] } }
  refine tail_any (ops := [.ref a, .ref s4.heap.objs.size]) ht.typeIs (PyProof.Rows.slot_tuple_getitem.lookup) ?_ (by with_unfolding_all rfl)
  refine getItem_tuple_rev ht (Heap.IsSliceOf.new _ vl vu vs) pl pu ps ?_ (by rw [List.size_toArray]; omega)
  refine ⟨.ref _, _, I5.laid (t' := s4.toks) (o := .tup xs.reverse) (fun b ob q => Heap.get?_push_of_some _ q) (Nat.le_refl _) ?_, rfl, q _ (I5.hok.fresh (Nat.le_refl _))⟩
  refine ⟨by rw [List.length_reverse]; exact hz, its.reverse, r.reverse, ?_⟩
  exact ⟨_, Heap.get?_push_size _ rfl, rfl, 0, by simp⟩
end KX
end
section
set_option autoImplicit false
set_option maxRecDepth 100000
set_option maxHeartbeats 4000000
/-! list(d.items()) of a dict with keys of all kinds -/
namespace KX
open PySem PySem.Spec PyProof.Rows L2 LiI
def putM : Hp → List Addr → List MRow → Hp
  | H, a :: as, p :: xs => putM (upd H a (.tup [p.2.1, p.2.2])) as xs
  | H, _, _ => H
theorem putM_off {b : Addr} : ∀ (as : List Addr) (xs : List MRow) (H : Hp), b ∉ as → putM H as xs b = H b
  | [], _, _, _ => rfl
  | _ :: _, [], _, _ => rfl
  | a :: as, p :: xs, H, h => by
    show putM (upd H a (.tup [p.2.1, p.2.2])) as xs b = H b
    rw [putM_off as xs _ (fun z => h (List.mem_cons_of_mem _ z)), upd_ne (fun z => h (by rw [z]; exact List.mem_cons_self))]
theorem putM_at : ∀ (as : List Addr) (xs : List MRow) (H : Hp), as.length = xs.length → as.Nodup → Paired (fun (t : Addr) (p : MRow) => putM H as xs t = some (.tup [p.2.1, p.2.2])) as xs
  | [], [], _, _, _ => .nil
  | [], _ :: _, _, h, _ => by cases h
  | _ :: _, [], _, h, _ => by cases h
  | a :: as, p :: xs, H, h, hn => by
    have hn' := List.nodup_cons.mp hn
    have ih := putM_at as xs (upd H a (.tup [p.2.1, p.2.2])) (Nat.succ.inj h) hn'.2
    refine .cons ?_ ih
    show putM (upd H a (.tup [p.2.1, p.2.2])) as xs a = some (.tup [p.2.1, p.2.2])
    rw [putM_off as xs _ hn'.1, upd_same]
def tListItemsM (w : World) (te : TE) : TE := fun σ H Q => te σ H fun x H1 => ∃ (d : Addr) (xs : List MRow), x = .ref d ∧ MD w H1 d xs ∧
  ∀ (H' : Hp) (p : Addr) (ts : List Addr), Same H1 H' → H1 p = none → (∀ t ∈ ts, H1 t = none) → p ∉ ts → H' p = some (.lst (ts.map V.ref)) → Paired (fun (t : Addr) (q : MRow) => H' t = some (.tup [q.2.1, q.2.2])) ts xs → Q (.ref p) H'
section
variable {X : Cx} {e : Expr} {te : TE} {p apos cpos pos : Pos}
theorem itemsM_laid {pins : List (Addr × Obj)} {σ : L2.St} {H : Hp} {s : Shared} {h' : Heap} {tk : Nat} {xs : List MRow} {es : Array DictEntry} {acc : Array Value} {c : Nat} {as : List Addr} (I : Inv X pins σ H s) (hz : xs.length ≤ sizeLine) (pr : Paired (MRel X.w) xs es.toList)
    (hk : ∀ b o, s.heap.get? b = some o → h'.get? b = some o) (hS : h'.get? s.heap.objs.size = some { cls := .type "list", dict := none, data := .seq acc c, slots := #[] }) (hl : as.length = es.size) (hG : PySem.W.DilG es s.heap.objs.size h' as) (hacc : acc.toList = as.map Value.ref) :
    ∃ H' : Hp, Same H H' ∧ H s.heap.objs.size = none ∧ (∀ t ∈ as, H t = none) ∧ s.heap.objs.size ∉ as ∧ H' s.heap.objs.size = some (.lst (as.map V.ref)) ∧ Paired (fun (t : Addr) (q : MRow) => H' t = some (.tup [q.2.1, q.2.2])) as xs ∧ Inv X pins σ H' { s with heap := h', toks := tk } := by
  have lk : xs.length = es.size := by rw [Paired.length pr, Array.length_toList]
  have hSn : s.heap.objs.size ∉ as := fun z => Nat.lt_irrefl _ (hG.above _ z)
  have nd : as.Nodup := List.Pairwise.imp (fun {a b} (h : a < b) => Nat.ne_of_lt h) hG.rise
  have new : ∀ t ∈ as, H t = none := fun t ht => I.hok.fresh (Nat.le_of_lt (hG.above t ht))
  have newS : H s.heap.objs.size = none := I.hok.fresh (Nat.le_refl _)
  have atP := putM_at as xs (upd H s.heap.objs.size (.lst (as.map V.ref))) (by omega) nd
  have off : ∀ b, b ∉ as → b ≠ s.heap.objs.size → putM (upd H s.heap.objs.size (.lst (as.map V.ref))) as xs b = H b := fun b h1 h2 => by rw [putM_off as xs _ h1, upd_ne h2]
  have low : ∀ b o, s.heap.get? b = some o → b ∉ as ∧ b ≠ s.heap.objs.size := fun b o e => ⟨fun z => absurd (Heap.lt_size e) (Nat.not_lt.mpr (Nat.le_of_lt (hG.above b z))), Nat.ne_of_lt (Heap.lt_size e)⟩
  have kp : ∀ b u, H b = some u → (putM (upd H s.heap.objs.size (.lst (as.map V.ref))) as xs) b = some u := fun b u e => by
    rw [off b (fun z => by rw [new b z] at e; cases e) (fun z => by rw [z, newS] at e; cases e)]
    exact e
  have eS : putM (upd H s.heap.objs.size (.lst (as.map V.ref))) as xs s.heap.objs.size = some (.lst (as.map V.ref)) := by rw [putM_off as xs _ hSn, upd_same]
  refine ⟨putM (upd H s.heap.objs.size (.lst (as.map V.ref))) as xs, kp, newS, new, hSn, eS, atP, ?_⟩
  refine I.call' (ch := []) rfl ⟨fun b o q _ _ _ => hk b o q, fun b o q _ _ _ => ⟨o.slots, hk b o q⟩, fun b o q n _ => ?_, fun b o q _ => ⟨o, hk b o q⟩, fun b xs q => kp b _ q, fun b o u q => kp b _ q, fun b ps q => ⟨#[], by rw [kp b _ q]; simp⟩⟩ (fun b u q => ?_) I.bare fun b z => by simp at z
  · obtain ⟨z1, z2⟩ := low b o q
    rw [off b z1 z2]
    exact n
  · by_cases hb : b ∈ as
    · obtain ⟨j, row, e1, e2, e3⟩ := paired_ix atP hb
      rw [e3] at q
      cases q
      obtain ⟨hj, f3⟩ := hG.pairs j b e1
      obtain ⟨en, g1, _, g2, g3⟩ := LiI.paired_get pr e2
      rw [Array.getElem?_toList, Array.getElem?_eq_getElem hj] at g1
      cases g1
      exact ⟨by show 2 ≤ sizeLine; decide, [es[j].key, es[j].val], .cons g2 (.cons g3 .nil), ⟨_, f3, rfl, _, rfl⟩⟩
    · by_cases hb2 : b = s.heap.objs.size
      · rw [hb2] at q ⊢
        rw [eS] at q
        cases q
        refine ⟨by rw [List.length_map]; omega, acc.toList, c, by rw [hacc]; exact LiI.vals_refs as, ?_⟩
        rw [Array.toArray_toList]
        exact hS
      · rw [off b hb hb2] at q
        exact (I.hok b u q).stay (fun d v _ y => hk d v y) (fun d y => kp d _ y) fun d xs y => kp d _ y
/-- list(e.items()) -/
theorem pe_listItemsM (hc : X.calm = true) (he : PE X e te) (hg : Gl X "list") (hm : X.mg "list" = none) (hv : bootBuiltins "list" = some (.type "list")) (hbase : attributeBase e "items" X.env (eval e X.env) = eval e X.env := by rfl) (hline : (apos.endLine == cpos.line) = true := by rfl)
    (hs : starEach [.Call (.Attribute e "items" apos) [] [] cpos] X.env = (false, eval (.Call (.Attribute e "items" apos) [] [] cpos) X.env) :: starEach [] X.env := by rfl) :
    PE X (.Call (.Name "list" p) [.Call (.Attribute e "items" apos) [] [] cpos] [] pos) (tListItemsM X.w te) := by
  refine ⟨fun pins s σ H Q I hq => ?_⟩
  refine wpAny_Call_Name_kw (ld_blt I hg hm hv ?_)
  refine PyProof.Rows.callWith_type1 ?_ hs rfl
  rw [hs]
  show wpAny _ _ (spliced ((false, eval (.Call (.Attribute e "items" apos) [] [] cpos) X.env) :: backTo pos (starEach [] X.env))) _ _ s
  refine Calls.spliced_cons ?_
  refine wpAny_Call_method (T := "dict") (id := "dict.items") hbase rfl hline F.plainAttrs_dict F.slot_dict_items F.type_dict_items (thn (he.run pins s σ H _ I hq) fun u s1 ⟨x, H1, I1, rx, d, xs, ex, D, q⟩ => ?_)
  subst ex
  obtain rfl : u = Value.ref d := rx
  obtain ⟨lo, few, es, ep, raw, sz, pr⟩ := D.raw I1
  have I2 : Inv X pins σ H1 { s1 with heap := s1.heap.push { cls := .type "dict_items", data := .fields #[.ref d] } } := I1.kept (t' := s1.toks) fun b ob q => Heap.get?_push_of_some _ q
  obtain ⟨o, eo, exd, _⟩ := id raw
  refine ⟨D.ty I1, (fun b qq => by cases qq; exact ⟨o, eo, exd.2.1⟩), ?_⟩
  show wpAny _ _ (callWith cpos (.builtin "dict.items") [.ref d] [] []) _ X.xe s1
  refine method_meetsIn F.slot_dict_items F.entry_dict_items rfl (PySem.evalArgs_none ⟨rfl, D.ty I1, F.args_dict_items_1 _, _, PySem.meets_dict_items_raw d lo, ⟨es, ep, raw⟩, ?_⟩)
  refine Calls.spliced_nil ?_
  refine PySem.W.dil_call (es := es) (ep := ep) (I1.ok.hd hc) ⟨_, Heap.get?_push_size _ rfl, rfl, rfl⟩ (Heap.DictRaw.at raw fun _ e => Heap.get?_push_of_some _ e) (by omega) fun h' tk acc c as hk hS hl hG hacc => ?_
  obtain ⟨H', k1, k2, k3, k4, k5, k6, J⟩ := itemsM_laid (tk := tk) I2 few pr hk hS hl hG hacc
  exact ⟨.ref _, H', J, rfl, q H' _ as k1 k2 k3 k4 k5 k6⟩
end
end KX
end
section
set_option autoImplicit false
set_option maxRecDepth 100000
set_option maxHeartbeats 4000000
/-! values that stay while the creel turns; tuples joined and cut; _law_near_ring -/
namespace K11
open PySem PySem.Spec PyProof.Rows L2 KX RZ StX
mutual
theorem sw_tup {H H' : Hp} (t : Tup H H') : ∀ {v : V} {d : PyData}, noLst d = true → Sw H v d → Sw H' v d
  | _, _, _, .non => .non
  | _, _, _, .bl b => .bl b
  | _, _, _, .int i => .int i
  | _, _, _, .str z => .str z
  | _, _, n, .tup e r => .tup (t _ _ e) (sws_tup t n r)
theorem sws_tup {H H' : Hp} (t : Tup H H') : ∀ {vs : List V} {ds : List PyData}, noLsts ds = true → SwAll H vs ds → SwAll H' vs ds
  | _, _, _, .nil => .nil
  | _ :: _, d :: ds, n, .cons h r => by
    have n : (noLst d && noLsts ds) = true := n
    rw [Bool.and_eq_true] at n
    exact .cons (sw_tup t n.1 h) (sws_tup t n.2 r)
end
def ApN (a : Addr) (v : V) : NV → Prop
  | .data (.list xs) => v ≠ .ref a ∧ noLsts xs = true
  | .data d => noLst d = true
  | .dict rows => v ≠ .ref a ∧ ∀ r ∈ rows, noLst r.2 = true
structure GoodV (w : World) (a : Addr) (H : Hp) (u : V) (n : NV) : Prop where
  at_ : NvAt w H u n
  ap : ApN a u n
  okn : okN n
  sm : smallN n
  gd : Gd 100000 50 (dataN n)
theorem GoodV.same {w : World} {a : Addr} {H H' : Hp} {u : V} {n : NV} (g : GoodV w a H u n) (s : Same H H') : GoodV w a H' u n := ⟨g.at_.same s, g.ap, g.okn, g.sm, g.gd⟩
theorem GoodV.gw {w : World} {a : Addr} {H H' : Hp} {u : V} {n : NV} (g : GoodV w a H u n) (h : Gw a H H') : GoodV w a H' u n := by
  refine ⟨?_, g.ap, g.okn, g.sm, g.gd⟩
  have at_ := g.at_
  have ap := g.ap
  cases n with
  | dict rows =>
    obtain ⟨D, xs, rfl, M, pr⟩ := at_
    have ne : D ≠ a := fun e => ap.1 (by rw [e])
    have nl := ap.2
    refine ⟨D, xs, rfl, ⟨h.at_ ne M.at_, fun x hx => MKeyAt.tupd h.tu (M.ks x hx)⟩, ?_⟩
    clear M ap g
    induction pr with
    | nil => exact .nil
    | @cons x r xs rows k _ ih => exact .cons ⟨k.1, sw_tup h.tu (nl r List.mem_cons_self) k.2⟩ (ih fun y hy => nl y (List.mem_cons_of_mem _ hy))
  | data d =>
    cases d with
    | list xs =>
      cases at_ with
      | lst e r => exact .lst (h.at_ (fun k => ap.1 (by rw [k])) e) (sws_tup h.tu ap.2 r)
    | none => exact sw_tup h.tu ap at_
    | bool b => exact sw_tup h.tu ap at_
    | int i => exact sw_tup h.tu ap at_
    | str z => exact sw_tup h.tu ap at_
    | tuple xs => exact sw_tup h.tu ap at_
    | dict xs => cases at_
/-- one part of a tuple of indices -/
def Atm (d : PyData) : Prop := Gd 240 0 d ∧ noLst d = true
theorem noLsts_of {xs : List PyData} (h : ∀ x ∈ xs, noLst x = true) : noLsts xs = true := by
  induction xs with
  | nil => rfl
  | cons x xs ih =>
    show (noLst x && noLsts xs) = true
    rw [h x List.mem_cons_self, ih fun y hy => h y (List.mem_cons_of_mem _ hy)]
    rfl
theorem atm_int {i : Int} (h : i.natAbs < 10 ^ 70) : Atm (.int i) := ⟨gd_int h, rfl⟩
theorem atm_non : Atm .none := ⟨gd_non.mono (by decide) (by decide), rfl⟩
theorem atm_bool (b : Bool) : Atm (.bool b) := ⟨(gd_bool b).mono (by decide) (by decide), rfl⟩
theorem atm_zero : Atm (.str "0") := ⟨(gd_str (by decide +kernel) (by decide +kernel)).mono (by decide) (by decide), rfl⟩
theorem good_tup {w : World} {a : Addr} {H : Hp} {u : V} {xs : List PyData} (h : Sw H u (.tuple xs)) (at_ : ∀ x ∈ xs, Atm x) (l : xs.length ≤ 400) : GoodV w a H u (.data (.tuple xs)) :=
  ⟨h, noLsts_of fun x hx => (at_ x hx).2, True.intro, by show xs.length ≤ 1000; omega, (gd_tup fun x hx => (at_ x hx).1).mono (Nat.le_trans (Nat.mul_le_mul_right _ l) (by decide)) (by decide)⟩
theorem good_tup2 {w : World} {a : Addr} {H : Hp} {u : V} {xs : List PyData} (h : Sw H u (.tuple [.tuple xs])) (at_ : ∀ x ∈ xs, Atm x) (l : xs.length ≤ 400) : GoodV w a H u (.data (.tuple [.tuple xs])) := by
  have g : Gd 96400 1 (.tuple xs) := (gd_tup fun x hx => (at_ x hx).1).mono (Nat.le_trans (Nat.mul_le_mul_right _ l) (by decide)) (by decide)
  refine ⟨h, ?_, True.intro, by show 1 ≤ 1000; decide, ?_⟩
  · show (noLsts xs && true) = true
    rw [noLsts_of fun x hx => (at_ x hx).2]
    rfl
  · exact (gd_tup (n := 96400) (m := 1) fun x hx => by rw [List.mem_singleton.mp hx]; exact g).mono (by show 1 * (96400 + 1) ≤ 100000; decide) (by decide)
theorem good_lst {w : World} {a p : Addr} {H : Hp} {xs : List PyData} (h : Sw H (.ref p) (.list xs)) (ne : p ≠ a) (at_ : ∀ x ∈ xs, Atm x) (l : xs.length ≤ 400) : GoodV w a H (.ref p) (.data (.list xs)) :=
  ⟨h, ⟨fun e => ne (by injection e), noLsts_of fun x hx => (at_ x hx).2⟩, True.intro, True.intro, (gd_lst fun x hx => (at_ x hx).1).mono (Nat.le_trans (Nat.mul_le_mul_right _ l) (by decide)) (by decide)⟩
theorem good_atm {w : World} {a : Addr} {H : Hp} {u : V} {d : PyData} (h : Sw H u d) (at_ : Atm d) (nt : ∀ xs, d ≠ .tuple xs) : GoodV w a H u (.data d) := by
  refine ⟨h, ?_, True.intro, ?_, at_.1.mono (by decide) (by decide)⟩
  · cases d with
    | list xs => exact nomatch at_.2
    | _ => exact at_.2
  · cases d with
    | tuple xs => exact absurd rfl (nt xs)
    | _ => exact True.intro
theorem good_new {w : World} {a p : Addr} {H : Hp} (h : MD w H p []) (ne : p ≠ a) : GoodV w a H (.ref p) (.dict []) :=
  ⟨⟨p, [], rfl, h, .nil⟩, ⟨fun e => ne (by injection e), fun _ k => (nomatch k)⟩, ⟨List.nodup_nil, fun _ k => (nomatch k), Nat.zero_le _⟩, True.intro, (gd_dict (n := 0) (m := 0) (kvs := []) fun _ k => (nomatch k)).mono (by decide) (by decide)⟩
/-- t + u -/
theorem cat_sw {K : PySem.W.Frag} {H : Hp} {v u : V} {ds es : List PyData} {Q : VK} (hd : Sw H v (.tuple ds)) (he : Sw H u (.tuple es)) (few : ds.length + es.length ≤ 1000) (q : ∀ (v' : V) (H' : Hp), Same H H' → Sw H' v' (.tuple (ds ++ es)) → Q v' H') : rCatA K v u H Q := by
  cases hd with
  | @tup a us _ ea ku =>
  cases he with
  | @tup b ws _ eb kw =>
  have lu := ku.len
  have lw := kw.len
  refine ⟨a, b, us, ws, rfl, rfl, SqT.of ea, SqT.of eb, by rw [sizeLine_eq]; omega, fun e => ?_, fun _ e => ?_, fun _ _ p np => ?_⟩
  · subst e
    have : ds = [] := List.length_eq_zero_iff.mp lu.symm
    subst this
    exact q _ H (Same.refl _) (.tup eb kw)
  · subst e
    have : es = [] := List.length_eq_zero_iff.mp lw.symm
    subst this
    rw [List.append_nil] at q
    exact q _ H (Same.refl _) (.tup ea ku)
  · have s := same_upd (p := p) (o := .tup (us ++ ws)) np
    exact q _ _ s (.tup upd_same (SwAll.app (SwAll.same s ku) (SwAll.same s kw)))
/-- t[lo:hi] -/
theorem slice_sw {K : PySem.W.Frag} {H : Hp} {v : V} {ds : List PyData} {lo hi : Option Int} {Q : VK} (h : Sw H v (.tuple ds))
    (q : ∀ (v' : V) (H' : Hp), Same H H' → Sw H' v' (.tuple ((ds.drop (HT.sIx ds.length 0 lo)).take (HT.sIx ds.length ds.length hi - HT.sIx ds.length 0 lo))) → Q v' H') : rSlA K v lo hi H Q := by
  cases h with
  | @tup a us _ ea ku =>
  have lu := ku.len
  refine ⟨a, us, rfl, SqT.of ea, fun w => ?_, fun _ p np => ?_⟩
  · rw [lu] at w
    refine q _ H (Same.refl _) ?_
    rw [w.1, w.2, List.drop_zero, Nat.sub_zero, List.take_length]
    exact .tup ea ku
  · have s := same_upd (p := p) (o := .tup (cutV us lo hi)) np
    have et : (upd H p (.tup (cutV us lo hi))) p = some (.tup (cutV us lo hi)) := upd_same
    have e : cutV us lo hi = (us.drop (HT.sIx ds.length 0 lo)).take (HT.sIx ds.length ds.length hi - HT.sIx ds.length 0 lo) := by
      unfold cutV
      rw [lu]
    refine q _ _ s (.tup et ?_)
    generalize upd H p (.tup (cutV us lo hi)) = H' at s
    rw [e]
    exact SwAll.take _ (SwAll.drop _ (SwAll.same s ku))
theorem slice_to_sw {K : PySem.W.Frag} {H : Hp} {v : V} {ds : List PyData} {i : Nat} {Q : VK} (h : Sw H v (.tuple ds)) (hi : i ≤ ds.length) (q : ∀ (v' : V) (H' : Hp), Same H H' → Sw H' v' (.tuple (ds.take i)) → Q v' H') : rSlA K v none (some (i : Nat)) H Q :=
  slice_sw h fun v' H' s m => q v' H' s (by
    have e1 : HT.sIx ds.length 0 none = 0 := rfl
    rw [e1, HT.sIx_nat, List.drop_zero, Nat.sub_zero, Nat.min_eq_left hi] at m
    exact m)
theorem slice_from_sw {K : PySem.W.Frag} {H : Hp} {v : V} {ds : List PyData} {i : Nat} {Q : VK} (h : Sw H v (.tuple ds)) (hi : i ≤ ds.length) (q : ∀ (v' : V) (H' : Hp), Same H H' → Sw H' v' (.tuple (ds.drop i)) → Q v' H') : rSlA K v (some (i : Nat)) none H Q :=
  slice_sw h fun v' H' s m => q v' H' s (by
    have e1 : HT.sIx ds.length ds.length none = ds.length := rfl
    rw [e1, HT.sIx_nat, Nat.min_eq_left hi, List.take_of_length_le (by rw [List.length_drop]; exact Nat.le_refl _)] at m
    exact m)
/-- one of a list of such values -/
theorem pick_good {w : World} {H : Hp} {a p : Addr} {y c : Int} {vs : List V} {Q : VK} (C : CrAt H a y c) (hc : c < 1000000) (hp : H p = some (.lst vs)) (ne : p ≠ a) (h0 : 0 < vs.length) (h1 : vs.length ≤ 1000) (g : ∀ v ∈ vs, ∃ n, GoodV w a H v n)
    (q : ∀ v n c' H', GoodV w a H' v n → CrAt H' a y c' → c' ≤ c + 1 → Gw a H H' → Q v H') : spOne [.ref a, .ref p] H Q E0 :=
  use_pick C hc hp ne h0 h1 fun r v c' H' hv C' l' gw => by
    obtain ⟨n, gv⟩ := g v (List.mem_of_getElem? hv)
    exact q v n c' H' (gv.gw gw) C' l' gw
def spNear (w : World) : Sp := fun vs H Q _ => ∃ (a : Addr) (y c : Int) (v : V) (ds : List Dif), vs = [.ref a, v] ∧ CrAt H a y c ∧ c ≤ 900000 ∧ Ds H v ds ∧ DrD ds ∧
  ∀ (u : V) (n : NV) (c' : Int) (H' : Hp), GoodV w a H' u n → CrAt H' a y c' → c' ≤ c + 20 → Gw a H H' → Q u H'
end K11
end
section
set_option autoImplicit false
set_option maxRecDepth 100000
set_option maxHeartbeats 4000000
/-! _law_near_ring -/
namespace K11
open PySem PySem.Spec PyProof.Rows L2 KX RZ StX
theorem SwAll.rev {H : Hp} : ∀ {vs : List V} {ds : List PyData}, SwAll H vs ds → SwAll H vs.reverse ds.reverse
  | _, _, .nil => .nil
  | _, _, .cons a r => by
    rw [List.reverse_cons, List.reverse_cons]
    exact KX.SwAll.app (SwAll.rev r) (.cons a .nil)
theorem ints_sw {H : Hp} : ∀ is : List Nat, SwAll H (is.map fun i => V.int (i : Nat)) (is.map fun i => PyData.int (i : Nat))
  | [] => .nil
  | i :: is => .cons (.int _) (ints_sw is)
abbrev nNr : List Str := ["_law_keg", "_law_differences_here", "_law_rows", "_law_many_here", "_law_spot", "_law_way", "_law_turn"]
theorem scNr : FnScope nNr ["_law_keg", "_law_differences_here"] (defScope sNr) := ⟨rfl, rfl, rfl, by decide +kernel, rfl, by decide +kernel, by decide +kernel⟩
abbrev NrX (P : Program) (w : World) (K : PySem.W.Frag) (mg : Str → Option Value) (base : Heap) (f : Addr) (cdv : Value) (A : Around) (outer : List Env) (s0 : Shared) (H0 : Hp) (E : XK) : Cx := cxOf CX0 P w K mg base nNr "_law_near_ring" (defScope sNr) f cdv A outer s0 H0 E
def IntD (d : PyData) : Prop := ∃ i : Nat, d = .int (i : Nat) ∧ i < 1000
theorem IntD.atm {d : PyData} (h : IntD d) : Atm d := by
  obtain ⟨i, rfl, l⟩ := h
  exact atm_int (by
    have : (10 : Nat) ^ 3 ≤ 10 ^ 70 := Nat.pow_le_pow_right (by decide) (by decide)
    have : ((i : Nat) : Int).natAbs = i := Int.natAbs_natCast i
    omega)
/-- what follows, wherever the indices are from -/
def uNr (w : World) : TS := fun Dn σ H => ∃ (a : Addr) (y c : Int) (v rw_ : V) (xs : List PyData) (many : Nat), σ = [some (.ref a), some v, some rw_, some (.int (many : Nat)), none, none, none] ∧ CrAt H a y c ∧ c ≤ 950000 ∧ Sw H rw_ (.tuple xs) ∧ (∀ x ∈ xs, IntD x) ∧ xs.length ≤ 9 ∧ many < 1000 ∧
  ∀ (u : V) (n : NV) (c' : Int) (H' : Hp), GoodV w a H' u n → CrAt H' a y c' → c' ≤ c + 4 → Gw a H H' → Dn.rt u H'
theorem pss_imp {X : Cx} {b : List Stmt} {t u : TS} (h : PSs X b t) (i : ∀ D σ H, u D σ H → t D σ H) : PSs X b u := ⟨fun pins s σ H D I q => h.run pins s σ H D I (i _ _ _ q)⟩
section
variable {P : Program} {w : World} {K : PySem.W.Frag} {mg : Str → Option Value} {base : Heap} {f : Addr} {cdv : Value} {A : Around} {outer : List Env} {s0 : Shared} {H0 : Hp} {E : XK}
theorem nr_rest (hr : Room 7 (NrX P w K mg base f cdv A outer s0 H0 E).nox.A) (B : Free mg) (Ta : Fnc P w K mg base CX0 1 "_law_tap" ["_law_keg", "_law_total"] spFish) (Pi : Fnc P w K mg base CX0 2 "_law_pick" ["_law_keg", "_law_items"] spOne) :
    PSs (NrX P w K mg base f cdv A outer s0 H0 E).nox ((defBody sNr).drop 2) (uNr w) := by
  have hu := hr.units
  refine pss_imp (pss_cons (ps_if (pt_cmpR (op_eqNil hu) (pv 2) (pe_tup pa_nil) (nomark _)) (pss_one (ps_ret (pe_fnc Pi hr (by omega) (by rfl) pass0 (pa_cons (pv 0) (pa_cons (pe_lst (pa_cons (pe_tup pa_nil) (pa_cons (pe_tup (pa_cons pe_int pa_nil)) (pa_cons pe_non (pa_cons (pe_lst (pa_cons pe_int pa_nil)) (pa_cons (pe_tup (pa_cons (pe_tup pa_nil) pa_nil)) pa_nil)))))) pa_nil))))) pss_nil) <|
    pss_cons (ps_par (i := 4) (j := 5) rfl scNr.nd rfl rfl (by decide) rfl rfl (pa_cons (pe_fnc Ta hr (by omega) (by rfl) pass0 (pa_cons (pv 0) (pa_cons (pe_callB call_len_seq (by rfl) (Free.len B) PySem.boot_len (pa_cons (pv 2) pa_nil)) pa_nil))) (pa_cons (pe_fnc Ta hr (by omega) (by rfl) pass0 (pa_cons (pv 0) (pa_cons pe_int pa_nil))) pa_nil)) (by rfl)) <|
    pss_cons (ps_if (pt_cmpR op_eq (pv 5) pe_int (nomark _)) (pss_one (ps_ret (pe_op op_catA (pe_slice sl_tupA (pv 2) (po_some (pv 4)) po_none) (pe_slice sl_tupA (pv 2) po_none (po_some (pv 4)))))) pss_nil) <|
    pss_cons (ps_if (pt_cmpR op_eq (pv 5) pe_int (nomark _)) (pss_one (ps_ret (pe_op op_catA (pv 2) (pv 2)))) pss_nil) <|
    pss_cons (ps_if (pt_cmpR op_eq (pv 5) pe_int (nomark _)) (pss_one (ps_ret (pe_op op_catA (pe_slice sl_tupA (pv 2) po_none (po_some (pv 4))) (pe_slice sl_tupA (pv 2) (po_some (pe_op op_add (pv 4) pe_int)) po_none)))) pss_nil) <|
    pss_cons (ps_if (pt_cmpR op_eq (pv 5) pe_int (nomark _)) (pss_one (ps_ret (pe_op op_catA (pe_op op_catA (pe_slice sl_tupA (pv 2) po_none (po_some (pv 4))) (pe_tup (pa_cons (pe_fnc Pi hr (by omega) (by rfl) pass0 (pa_cons (pv 0) (pa_cons (pe_lst (pa_cons (pv 3) (pa_cons (pe_un un_neg pe_int) (pa_cons pe_bl (pa_cons pe_non (pa_cons pe_str (pa_cons pe_int (pa_cons pe_int pa_nil)))))))) pa_nil))) pa_nil))) (pe_slice sl_tupA (pv 2) (po_some (pe_op op_add (pv 4) pe_int)) po_none)))) pss_nil) <|
    pss_cons (ps_if (pt_cmpR op_eq (pv 5) pe_int (nomark _)) (pss_one (ps_ret (pe_revT (pv 2)))) pss_nil) <|
    pss_one (ps_ret (pe_fnc Pi hr (by omega) (by rfl) pass0 (pa_cons (pv 0) (pa_cons (pe_lst (pa_cons (pe_callTy call_list_of (by rfl) (Free.list B) (by decide +kernel) (pa_cons (pv 2) pa_nil)) (pa_cons (pv 2) (pa_cons (pe_op op_catA (pv 2) (pe_slice sl_tupA (pv 2) po_none (po_some pe_int))) (pa_cons pe_non (pa_cons (pe_tup pa_nil) (pa_cons pe_mnew (pa_cons (pe_slice sl_tupA (pv 2) po_none (po_some pe_int)) (pa_cons (pe_tup (pa_cons (pv 2) pa_nil)) (pa_cons (pe_ix ix_tup (pv 2) pe_int (fun _ _ => rfl)) pa_nil)))))))))) pa_nil))))) ?_
  rintro Dn σ H ⟨a, y, c, v, rw_, xs, many, rfl, C, hc, hs, hx, l9, hm, q⟩
  have hs0 := hs
  cases hs with
  | @tup T vs _ eT sx =>
  have ln := sx.len
  have at_ : ∀ x ∈ xs, Atm x := fun x hxm => (hx x hxm).atm
  refine ⟨_, rfl, le_line (by simp), fun N nN => ?_⟩
  have s1 := same_upd (p := N) (o := .tup []) nN
  have eN : (upd H N (.tup [])) N = some (.tup []) := upd_same
  generalize upd H N (.tup []) = H1 at s1 eN ⊢
  have hs1 := Sw.same s1 hs0
  have C1 := C.same s1
  refine ⟨vs, ⟨T, N, rfl, rfl, .inr ⟨SqT.of (s1 _ _ eT), SqT.of eN⟩⟩, _, rfl, ?_⟩
  cases e0 : vs.isEmpty with
  | true =>
    refine iteT ⟨_, rfl, ?_⟩
    refine ⟨le_line (by simp), fun p1 n1 => ?_⟩
    have t1 := same_upd (p := p1) (o := .tup []) n1
    have e1 : (upd H1 p1 (.tup [])) p1 = some (.tup []) := upd_same
    generalize upd H1 p1 (.tup []) = H2 at t1 e1 ⊢
    refine ⟨le_line (by simp), fun p2 n2 => ?_⟩
    have t2 := same_upd (p := p2) (o := .tup [V.int 0]) n2
    have e2 : (upd H2 p2 (.tup [V.int 0])) p2 = some (.tup [V.int 0]) := upd_same
    generalize upd H2 p2 (.tup [V.int 0]) = H3 at t2 e2 ⊢
    refine ⟨le_line (by simp), fun p3 n3 => ?_⟩
    have ne3 := (C1.same (t1.trans t2)).ne n3
    have t3 := same_upd (p := p3) (o := .lst [V.int 0]) n3
    have e3 : (upd H3 p3 (.lst [V.int 0])) p3 = some (.lst [V.int 0]) := upd_same
    generalize upd H3 p3 (.lst [V.int 0]) = H4 at t3 e3 ⊢
    refine ⟨le_line (by simp), fun p4 n4 => ?_⟩
    have t4 := same_upd (p := p4) (o := .tup []) n4
    have e4 : (upd H4 p4 (.tup [])) p4 = some (.tup []) := upd_same
    generalize upd H4 p4 (.tup []) = H5 at t4 e4 ⊢
    refine ⟨le_line (by simp), fun p5 n5 => ?_⟩
    have t5 := same_upd (p := p5) (o := .tup [V.ref p4]) n5
    have e5 : (upd H5 p5 (.tup [V.ref p4])) p5 = some (.tup [V.ref p4]) := upd_same
    generalize upd H5 p5 (.tup [V.ref p4]) = H6 at t5 e5 ⊢
    refine ⟨le_line (by simp), fun L nL => ?_⟩
    have t6 := same_upd (p := L) (o := .lst [V.ref p1, .ref p2, .non, .ref p3, .ref p5]) nL
    have eL : (upd H6 L (.lst [V.ref p1, .ref p2, .non, .ref p3, .ref p5])) L = some (.lst [V.ref p1, .ref p2, .non, .ref p3, .ref p5]) := upd_same
    have st := t1.trans (t2.trans (t3.trans (t4.trans (t5.trans t6))))
    have neL := (C1.same (t1.trans (t2.trans (t3.trans (t4.trans t5))))).ne nL
    generalize upd H6 L (.lst [V.ref p1, .ref p2, .non, .ref p3, .ref p5]) = H7 at t6 eL st ⊢
    have za : ∀ x ∈ [PyData.int 0], Atm x := fun x hxm => by
      rw [List.mem_singleton.mp hxm]
      exact atm_int (by decide)
    refine pick_good (w := w) (C1.same st) (by omega) eL neL (by simp) (by simp) (fun v hv => ?_) fun u n c' H' g C' l' gw => q u n c' H' g C' (by omega) ((Gw.of (s1.trans st)).trans gw)
    simp only [List.mem_cons, List.not_mem_nil, or_false] at hv
    rcases hv with rfl | rfl | rfl | rfl | rfl
    · exact ⟨_, good_tup (xs := []) (.tup (((((t2.trans t3).trans t4).trans t5).trans t6) _ _ e1) .nil) (fun x hxm => nomatch hxm) (by decide)⟩
    · exact ⟨_, good_tup (xs := [.int 0]) (.tup ((((t3.trans t4).trans t5).trans t6) _ _ e2) (.cons (.int 0) .nil)) za (by decide)⟩
    · exact ⟨.data .none, good_atm .non atm_non (fun _ e => nomatch e)⟩
    · exact ⟨_, good_lst (xs := [.int 0]) (.lst (((t4.trans t5).trans t6) _ _ e3) (.cons (.int 0) .nil)) ne3 za (by decide)⟩
    · exact ⟨_, good_tup2 (xs := []) (.tup (t6 _ _ e5) (.cons (.tup ((t5.trans t6) _ _ e4) .nil) .nil)) (fun x hxm => nomatch hxm) (by decide)⟩
  | false =>
  refine iteF ?_
  have pos : 0 < xs.length := by
    cases vs with
    | nil => cases e0
    | cons _ _ =>
      rw [← ln]
      exact Nat.succ_pos _
  have eT1 := s1 _ _ eT
  refine ⟨_, rfl, _, rfl, T, vs, rfl, .inr (SqT.of eT1), ?_⟩
  (first | refine (use_tap (t := (vs.length : Nat)) C1 (by omega) (by omega) (by omega) fun r c2 H2 r0 r1 C2 l2 g2 => ?_) | (show tNil _ _ _; unfold tNil; refine (use_tap (t := (vs.length : Nat)) C1 (by omega) (by omega) (by omega) fun r c2 H2 r0 r1 C2 l2 g2 => ?_)) | ((try unfold tCons); (try unfold tNil); (try unfold tC); refine (use_tap (t := (vs.length : Nat)) C1 (by omega) (by omega) (by omega) fun r c2 H2 r0 r1 C2 l2 g2 => ?_)))
  obtain ⟨k, rfl⟩ : ∃ k : Nat, r = (k : Nat) := ⟨r.toNat, (Int.toNat_of_nonneg r0).symm⟩
  have hk : k < xs.length := by omega
  refine ⟨_, rfl, ?_⟩
  (first | refine (use_tap (t := 8) C2 (by omega) (by decide) (by decide) fun wy c3 H3 w0 w1 C3 l3 g3 => ?_) | (show tNil _ _ _; unfold tNil; refine (use_tap (t := 8) C2 (by omega) (by decide) (by decide) fun wy c3 H3 w0 w1 C3 l3 g3 => ?_)) | ((try unfold tCons); (try unfold tNil); (try unfold tC); refine (use_tap (t := 8) C2 (by omega) (by decide) (by decide) fun wy c3 H3 w0 w1 C3 l3 g3 => ?_)))
  refine ⟨_, _, rfl, ?_⟩
  have g13 := g2.trans g3
  have gH := (Gw.of (a := a) s1).trans g13
  have eT3 : H3 T = some (.tup vs) := gH.tu _ _ eT
  have sx3 : SwAll H3 vs xs := sws_tup gH.tu (noLsts_of fun x hxm => (at_ x hxm).2) sx
  have hs3 : Sw H3 (.ref T) (.tuple xs) := .tup eT3 sx3
  have fin : ∀ (v' : V) (ys : List PyData) (H' : Hp), Same H3 H' → Sw H' v' (.tuple ys) → (∀ y ∈ ys, Atm y) → ys.length ≤ 400 → Dn.rt v' H' := fun v' ys H' s h h2 h3 => q v' _ c3 H' (good_tup h h2 h3) (C3.same s) (by omega) (gH.trans (Gw.of s))
  have atT : ∀ x ∈ xs.take k, Atm x := fun x h => at_ x (List.mem_of_mem_take h)
  have atD : ∀ n, ∀ x ∈ xs.drop n, Atm x := fun n x h => at_ x (List.mem_of_mem_drop h)
  have l1 : ∀ n, (xs.take n).length ≤ 9 := fun n => by rw [List.length_take]; omega
  have l2' : ∀ n, (xs.drop n).length ≤ 9 := fun n => by rw [List.length_drop]; omega
  have app : ∀ {ys zs : List PyData}, (∀ x ∈ ys, Atm x) → (∀ x ∈ zs, Atm x) → ∀ x ∈ ys ++ zs, Atm x := fun h1 h2 x hxm => (List.mem_append.mp hxm).elim (h1 x) (h2 x)
  -- turned
  refine ⟨_, rfl, rfl, _, rfl, ?_⟩
  by_cases w_0 : wy = 0
  · rw [decide_eq_true (by rw [w_0])]
    refine iteT ⟨_, rfl, _, rfl, _, rfl, ?_⟩
    show tNoPart _ _ _
    unfold tNoPart
    refine slice_from_sw hs3 (by omega) fun v1 G1 z1 m1 => ?_
    refine ⟨_, rfl, _, rfl, _, rfl, slice_to_sw (Sw.same z1 hs3) (by omega) fun v2 G2 z2 m2 => ?_⟩
    refine cat_sw (Sw.same z2 m1) m2 (by have := l1 k; have := l2' k; omega) fun v3 G3 z3 m3 => fin v3 _ G3 (z1.trans (z2.trans z3)) m3 (app (atD k) atT) (by rw [List.length_append]; have := l1 k; have := l2' k; omega)
  rw [decide_eq_false (fun e => w_0 (V.int.inj e))]
  refine iteF ?_
  -- twice
  refine ⟨_, rfl, rfl, _, rfl, ?_⟩
  by_cases w_1 : wy = 1
  · rw [decide_eq_true (by rw [w_1])]
    refine iteT ⟨_, rfl, _, rfl, ?_⟩
    exact cat_sw hs3 hs3 (by omega) fun v3 G3 z3 m3 => fin v3 _ G3 z3 m3 (app at_ at_) (by rw [List.length_append]; omega)
  rw [decide_eq_false (fun e => w_1 (V.int.inj e))]
  refine iteF ?_
  -- one less
  refine ⟨_, rfl, rfl, _, rfl, ?_⟩
  by_cases w_2 : wy = 2
  · rw [decide_eq_true (by rw [w_2])]
    refine iteT ⟨_, rfl, _, rfl, _, rfl, slice_to_sw hs3 (by omega) fun v1 G1 z1 m1 => ?_⟩
    refine ⟨_, rfl, _, rfl, (k : Nat), 1, rfl, rfl, ((k + 1 : Nat) : Int), rfl, ?_⟩
    show tNoPart _ _ _
    unfold tNoPart
    refine slice_from_sw (Sw.same z1 hs3) (by omega) fun v2 G2 z2 m2 => ?_
    exact cat_sw (Sw.same z2 m1) m2 (by have := l1 k; have := l2' (k + 1); omega) fun v3 G3 z3 m3 => fin v3 _ G3 (z1.trans (z2.trans z3)) m3 (app atT (atD _)) (by rw [List.length_append]; have := l1 k; have := l2' (k + 1); omega)
  rw [decide_eq_false (fun e => w_2 (V.int.inj e))]
  refine iteF ?_
  -- another one in its place
  refine ⟨_, rfl, rfl, _, rfl, ?_⟩
  by_cases w_3 : wy = 3
  · rw [decide_eq_true (by rw [w_3])]
    refine iteT ⟨_, rfl, _, rfl, _, rfl, slice_to_sw hs3 (by omega) fun v1 G1 z1 m1 => ?_⟩
    have C4 := C3.same z1
    refine ⟨_, rfl, _, rfl, 1, rfl, le_line (by simp), fun L nL => ?_⟩
    have t6 := same_upd (p := L) (o := .lst [V.int (many : Nat), V.int (-1), V.bl true, V.non, V.str "0", V.int 0, V.int 1]) nL
    have eL : (upd G1 L (.lst [V.int (many : Nat), V.int (-1), V.bl true, V.non, V.str "0", V.int 0, V.int 1])) L = some (.lst [V.int (many : Nat), V.int (-1), V.bl true, V.non, V.str "0", V.int 0, V.int 1]) := upd_same
    have neL := C4.ne nL
    refine use_pick (C4.same t6) (by omega) eL neL (by simp) (by simp) fun r5 v5 c5 G5 hv C5 l5 g5 => ?_
    have s15 := z1.trans t6
    obtain ⟨d5, sw5, at5⟩ : ∃ d, Sw G5 v5 d ∧ Atm d := by
      have hv := List.mem_of_getElem? hv
      simp only [List.mem_cons, List.not_mem_nil, or_false] at hv
      rcases hv with rfl | rfl | rfl | rfl | rfl | rfl | rfl
      · exact ⟨_, .int _, (show IntD (.int (many : Nat)) from ⟨many, rfl, hm⟩).atm⟩
      · exact ⟨_, .int _, atm_int (by decide)⟩
      · exact ⟨_, .bl _, atm_bool _⟩
      · exact ⟨_, .non, atm_non⟩
      · exact ⟨_, .str _, atm_zero⟩
      · exact ⟨_, .int _, atm_int (by decide)⟩
      · exact ⟨_, .int _, atm_int (by decide)⟩
    refine ⟨le_line (by simp), fun p np => ?_⟩
    have z5 := same_upd (p := p) (o := .tup [v5]) np
    have e5 : (upd G5 p (.tup [v5])) p = some (.tup [v5]) := upd_same
    have C6 := C5.same z5
    generalize upd G5 p (.tup [v5]) = G6 at z5 e5 C6 ⊢
    have gw6 : Gw a H3 G6 := (Gw.of s15).trans (g5.trans (Gw.of z5))
    have m1' : Sw G6 v1 (.tuple (xs.take k)) := sw_tup (((Same.tp t6).trans g5.tu).trans (Same.tp z5)) (noLsts_of fun x hxm => (atT x hxm).2) m1
    have m5 : Sw G6 (.ref p) (.tuple [d5]) := .tup e5 (.cons (Sw.same z5 sw5) .nil)
    have hs6 : Sw G6 (.ref T) (.tuple xs) := sw_tup gw6.tu (noLsts_of fun x hxm => (at_ x hxm).2) hs3
    have at5' : ∀ x ∈ [d5], Atm x := fun x hxm => by rw [List.mem_singleton.mp hxm]; exact at5
    refine cat_sw m1' m5 (by have := l1 k; simp; omega) fun v7 G7 z7 m7 => ?_
    refine ⟨_, rfl, _, rfl, (k : Nat), 1, rfl, rfl, ((k + 1 : Nat) : Int), rfl, ?_⟩
    show tNoPart _ _ _
    unfold tNoPart
    refine slice_from_sw (Sw.same z7 hs6) (by omega) fun v8 G8 z8 m8 => ?_
    refine cat_sw (Sw.same z8 m7) m8 (by rw [List.length_append]; have := l1 k; have := l2' (k + 1); simp; omega) fun v9 G9 z9 m9 => ?_
    have s69 := z7.trans (z8.trans z9)
    exact q v9 _ c5 G9 (good_tup m9 (app (app atT at5') (atD _)) (by rw [List.length_append, List.length_append]; have := l1 k; have := l2' (k + 1); simp; omega)) (C6.same s69) (by omega) (gH.trans (gw6.trans (Gw.of s69)))
  rw [decide_eq_false (fun e => w_3 (V.int.inj e))]
  refine iteF ?_
  -- backwards
  refine ⟨_, rfl, rfl, _, rfl, ?_⟩
  by_cases w_4 : wy = 4
  · rw [decide_eq_true (by rw [w_4])]
    refine iteT ⟨_, rfl, T, vs, rfl, SqT.of eT3, fun p np => ?_⟩
    have z := same_upd (p := p) (o := .tup vs.reverse) np
    exact fin _ xs.reverse _ z (.tup upd_same (SwAll.rev (SwAll.same z sx3))) (fun x hxm => at_ x (List.mem_reverse.mp hxm)) (by rw [List.length_reverse]; omega)
  rw [decide_eq_false (fun e => w_4 (V.int.inj e))]
  refine iteF ?_
  -- one of some
  refine ⟨_, rfl, _, rfl, T, vs, rfl, .inr (SqT.of eT3), fun p1 n1 => ?_⟩
  have ne1 := C3.ne n1
  have t1 := same_upd (p := p1) (o := .lst vs) n1
  have e1 : (upd H3 p1 (.lst vs)) p1 = some (.lst vs) := upd_same
  generalize upd H3 p1 (.lst vs) = H4 at t1 e1 ⊢
  have m1 : Sw H4 (.ref p1) (.list xs) := .lst e1 (SwAll.same t1 sx3)
  have u4 := t1
  refine ⟨_, rfl, _, rfl, _, rfl, 1, rfl, slice_to_sw (i := 1) (Sw.same u4 hs3) (by omega) fun v2 H5 t2 m2 => ?_⟩
  have u5 := u4.trans t2
  refine cat_sw (Sw.same u5 hs3) m2 (by have := l1 1; omega) fun v3 H6 t3 m3 => ?_
  have u6 := u5.trans t3
  refine ⟨le_line (by simp), fun p4 n4 => ?_⟩
  have t4 := same_upd (p := p4) (o := .tup []) n4
  have e4 : (upd H6 p4 (.tup [])) p4 = some (.tup []) := upd_same
  generalize upd H6 p4 (.tup []) = H7 at t4 e4 ⊢
  have u7 := u6.trans t4
  refine fun p5 n5 => ?_
  have ne5 := (C3.same u7).ne n5
  have t5 := same_upd (p := p5) (o := mDict w p5 []) n5
  have M5 : MD w (upd H7 p5 (mDict w p5 [])) p5 [] := ⟨upd_same, fun _ h => (nomatch h)⟩
  have u8 := u7.trans t5
  refine ⟨_, rfl, 1, rfl, slice_to_sw (i := 1) (Sw.same u8 hs3) (by omega) fun v6 H9 t6 m6 => ?_⟩
  have u9 := u8.trans t6
  refine ⟨_, rfl, le_line (by simp), fun p7 n7 => ?_⟩
  have t7 := same_upd (p := p7) (o := .tup [V.ref T]) n7
  have e7 : (upd H9 p7 (.tup [V.ref T])) p7 = some (.tup [V.ref T]) := upd_same
  generalize upd H9 p7 (.tup [V.ref T]) = H10 at t7 e7 ⊢
  have u10 := u9.trans t7
  obtain ⟨v0, hv0⟩ : ∃ v0, vs[0]? = some v0 := ⟨vs[0], List.getElem?_eq_getElem (by omega)⟩
  obtain ⟨d0', hd0, sw0⟩ := SwAll.get sx3 hv0
  refine ⟨_, rfl, T, vs, 0, v0, rfl, rfl, SqT.of (u10 _ _ eT3), atI_nat (j := 0) hv0, ?_⟩
  refine ⟨le_line (by simp), fun L nL => ?_⟩
  have neL := (C3.same u10).ne nL
  have t11 := same_upd (p := L) (o := .lst [V.ref p1, .ref T, v3, .non, .ref p4, .ref p5, v6, .ref p7, v0]) nL
  have eL : (upd H10 L (.lst [V.ref p1, .ref T, v3, .non, .ref p4, .ref p5, v6, .ref p7, v0])) L = some (.lst [V.ref p1, .ref T, v3, .non, .ref p4, .ref p5, v6, .ref p7, v0]) := upd_same
  generalize upd H10 L (.lst [V.ref p1, .ref T, v3, .non, .ref p4, .ref p5, v6, .ref p7, v0]) = H11 at t11 eL ⊢
  have u11 := u10.trans t11
  refine pick_good (w := w) (C3.same u11) (by omega) eL neL (by simp) (by simp) (fun v hv => ?_) fun u n c' H' g C' l' gw => q u n c' H' g C' (by omega) (gH.trans ((Gw.of u11).trans gw))
  simp only [List.mem_cons, List.not_mem_nil, or_false] at hv
  have b4 := t2.trans (t3.trans (t4.trans (t5.trans (t6.trans (t7.trans t11)))))
  have b6 := t4.trans (t5.trans (t6.trans (t7.trans t11)))
  have b9 := t7.trans t11
  rcases hv with rfl | rfl | rfl | rfl | rfl | rfl | rfl | rfl | rfl
  · exact ⟨_, (good_lst m1 ne1 at_ (by omega)).same b4⟩
  · exact ⟨_, (good_tup hs3 at_ (by omega)).same u11⟩
  · exact ⟨_, (good_tup m3 (app at_ fun x h => at_ x (List.mem_of_mem_take h)) (by rw [List.length_append]; have := l1 1; omega)).same b6⟩
  · exact ⟨.data .none, good_atm .non atm_non (fun _ e => nomatch e)⟩
  · exact ⟨_, (good_tup (xs := []) (.tup e4 .nil) (fun x hxm => nomatch hxm) (by decide)).same (t5.trans (t6.trans b9))⟩
  · exact ⟨_, (good_new M5 ne5).same (t6.trans b9)⟩
  · exact ⟨_, (good_tup m6 (fun x h => at_ x (List.mem_of_mem_take h)) (by have := l1 1; omega)).same b9⟩
  · exact ⟨_, (good_tup2 (xs := xs) (.tup e7 (.cons (Sw.same u10 hs3) .nil)) at_ (by omega)).same t11⟩
  · have hm0 := hx d0' (List.mem_of_getElem? hd0)
    exact ⟨_, (good_atm sw0 hm0.atm (fun ys e => by
      obtain ⟨i, ei, _⟩ := hm0
      rw [ei] at e
      cases e)).same u11⟩
end
section
variable {P : Program} {w : World} {K : PySem.W.Frag} {mg : Str → Option Value} {base : Heap}
theorem ok_nr {f : Addr} {fd : FuncData} (F : Fun K "_law_near_ring" "_law_near_ring" sNr f fd) (B : Free mg) (Rg : Fnc P w K mg base CX0 7 "ring" ["differences"] spRing) (Ta : Fnc P w K mg base CX0 1 "_law_tap" ["_law_keg", "_law_total"] spFish) (Pi : Fnc P w K mg base CX0 2 "_law_pick" ["_law_keg", "_law_items"] spOne) :
    FnOk P w K mg base CX0 8 f fd ["_law_keg", "_law_differences_here"] (spNear w) := by
  refine F.ok scNr (fun vs H Q E h => ?_) (fun cdv A outer s H vs Q E hr h => ?_)
  · obtain ⟨a, y, c, v, ds, rfl, _⟩ := h
    rfl
  obtain ⟨a, y, c, v, ds, rfl, C, hc, hd, dr, q⟩ := h
  have ok := dr.ok
  refine ⟨_, (pss_cons (ps_asg (pe_tup (pa_cons (pe_fnc Rg hr (by omega) (by rfl) pass0 (pa_cons (pv 1) pa_nil)) (pa_cons (pe_callB call_len_seq (by rfl) (Free.len B) PySem.boot_len (pa_cons (pv 1) pa_nil)) pa_nil))) (pg_tup rfl (pgs_cons (pg_name (i := 2) scNr.nd rfl (Or.inl rfl)) (pgs_cons (pg_name (i := 3) scNr.nd rfl (Or.inr rfl)) pgs_nil)))) <|
    pss_cons (ps_if (pt_cmpR op_isN1 (pv 2) pe_non (nomark _)) (pss_one (ps_set (i := 2) scNr.nd rfl (.inl rfl) (pe_callTy call_tuple_of (by rfl) (Free.tuple B) (by decide +kernel) (pa_cons (pe_lc (own := [("_law_turn", 6)]) (g := gName 6) (tt := tYes) (te := tCall spFish [] E0 (tCons (tVar 0) (tCons (tOp (rI0 fun i j => .int (i + j)) (tVar 3) (tC (.int 1))) tNil))) rfl scNr.nd (pi_range1 (by rfl) B.range (pa_cons (pe_fnc Ta hr (by omega) (by rfl) pass0 (pa_cons (pv 0) (pa_cons pe_int pa_nil))) pa_nil)) (blkOk_by (N := nNr) (sc := defScope sNr) (by decide +kernel))
      (fun _ _ _ _ _ => pg_name (i := 6) scNr.nd rfl (Or.inl rfl) (Or.inr rfl)) (fun _ _ _ _ _ => pts_nil) (fun _ _ _ _ _ => (pe_fnc Ta hr (by omega) (by rfl) pass0 (pa_cons (pv 0) (pa_cons (pe_op op_add (pv 3) pe_int) pa_nil))))) pa_nil)))) pss_nil) <|
    nr_rest hr B Ta Pi : PSs (NrX P w K mg base f cdv A outer s H E).nox (defBody sNr) _), ?_⟩
  obtain ⟨b, us, rfl, eb, ku⟩ := mtup hd
  have lu := ku.len
  rw [List.length_map] at lu
  have few := dr.few
  refine ⟨_, rfl, .ref b, ds, rfl, hd, ok, fun H1 nr s1 => ?_, fun is t H1 rg ri s1 nt et => ?_⟩
  · -- none
    refine ⟨_, rfl, b, us, rfl, .inr (SqT.of (s1 _ _ eb)), le_line (by simp), fun T nT => ?_⟩
    have s2 := same_upd (p := T) (o := .tup [.non, .int (us.length : Nat)]) nT
    refine ⟨T, _, rfl, SqT.of upd_same, rfl, _, _, rfl, _, _, rfl, rfl, ?_⟩
    have s12 := s1.trans s2
    have C1 := C.same s12
    refine ⟨_, rfl, rfl, _, rfl, ?_⟩
    rw [decide_eq_true rfl]
    refine iteT ⟨_, rfl, ?_⟩
    (first | refine (use_tap (t := 4) C1 (by omega) (by decide) (by decide) fun r c2 H2 r0 r1 C2 l2 g2 => ?_) | (show tNil _ _ _; unfold tNil; refine (use_tap (t := 4) C1 (by omega) (by decide) (by decide) fun r c2 H2 r0 r1 C2 l2 g2 => ?_)) | ((try unfold tCons); (try unfold tNil); (try unfold tC); refine (use_tap (t := 4) C1 (by omega) (by decide) (by decide) fun r c2 H2 r0 r1 C2 l2 g2 => ?_)))
    refine ⟨r, rfl, by omega, by omega, fun D nD => ?_⟩
    obtain ⟨n, hn⟩ : ∃ n : Nat, r.toNat = n := ⟨_, rfl⟩
    have n3 : n ≤ 3 := by omega
    rw [hn]
    have Da := C2.ne nD
    have sD := same_upd (p := D) (o := .lst []) nD
    refine lc_range (lo := 0) (n := n) (fun i H' => ∃ (c' : Int) (js : List Nat), CrAt H' a y c' ∧ c' ≤ c2 + i ∧ Gw a H2 H' ∧ H' D = some (.lst (js.map fun j => V.int (j : Nat))) ∧ js.length = i ∧ ∀ j ∈ js, j < 1000) ⟨c2, [], C2.same sD, by omega, Gw.of sD, upd_same, rfl, fun _ h => (nomatch h)⟩ (fun i H3 hi hP => ?_) (fun H3 hP => ?_)
    · obtain ⟨c3, js, C3, l3, g3, d3, lj, hj⟩ := hP
      refine ⟨rfl, _, rfl, _, rfl, (us.length : Nat), 1, rfl, rfl, ?_⟩
      (first | refine (use_tap (t := (us.length : Nat) + 1) C3 (by omega) (by omega) (by omega) fun r' c4 H4 r0' r1' C4 l4 g4 => ?_) | (show tNil _ _ _; unfold tNil; refine (use_tap (t := (us.length : Nat) + 1) C3 (by omega) (by omega) (by omega) fun r' c4 H4 r0' r1' C4 l4 g4 => ?_)) | ((try unfold tCons); (try unfold tNil); (try unfold tC); refine (use_tap (t := (us.length : Nat) + 1) C3 (by omega) (by omega) (by omega) fun r' c4 H4 r0' r1' C4 l4 g4 => ?_)))
      obtain ⟨m, rfl⟩ : ∃ m : Nat, r' = (m : Nat) := ⟨r'.toNat, (Int.toNat_of_nonneg r0').symm⟩
      have d4 := g4.at_ Da d3
      have t5 : Tup H4 (upd H4 D (.lst ((js.map fun j => V.int (j : Nat)) ++ [V.int (m : Nat)]))) := tup_upd fun zs e => by rw [d4] at e; cases e
      refine ⟨js.map fun j => V.int (j : Nat), d4, by rw [List.length_map, sizeLine_eq]; omega, c4, js ++ [m], ?_, by omega, ?_, ?_, by rw [List.length_append]; simp; omega, fun j hj' => ?_⟩
      · obtain ⟨x, e, CC⟩ := C4
        exact ⟨x, by rw [upd_ne Da.symm]; exact e, CC⟩
      · have g14 := g3.trans g4
        refine ⟨fun b' o nb e => ?_, g14.tu.trans t5⟩
        rw [upd_ne (ne_of_none e nD)]
        exact g14.gr b' o nb e
      · rw [upd_same, List.map_append]
        rfl
      · rcases List.mem_append.mp hj' with h | h
        · exact hj j h
        · rw [List.mem_singleton.mp h]
          omega
    obtain ⟨c3, js, C3, l3, g3, d3, lj, hj⟩ := hP
    refine ⟨D, _, rfl, .inl ⟨SqL.of d3, fun t nt => ?_⟩⟩
    have st := same_upd (p := t) (o := .tup (js.map fun j => V.int (j : Nat))) nt
    have et : (upd H3 t (.tup (js.map fun j => V.int (j : Nat)))) t = some (.tup (js.map fun j => V.int (j : Nat))) := upd_same
    refine ⟨a, y, c3, .ref b, .ref t, js.map fun i => PyData.int (i : Nat), us.length, rfl, C3.same st, by omega, .tup et (ints_sw js), fun x hx => ?_, by rw [List.length_map]; omega, by omega, fun u n c' H' g C' l' gw => q u n c' H' g C' (by omega) ((Gw.of s12).trans (g2.trans (g3.trans ((Gw.of st).trans gw))))⟩
    obtain ⟨j, hj', rfl⟩ := List.mem_map.mp hx
    exact ⟨j, rfl, hj j hj'⟩
  · -- a ring
    refine ⟨_, rfl, b, us, rfl, .inr (SqT.of (s1 _ _ eb)), le_line (by simp), fun T nT => ?_⟩
    have s2 := same_upd (p := T) (o := .tup [.ref t, .int (us.length : Nat)]) nT
    refine ⟨T, _, rfl, SqT.of upd_same, rfl, _, _, rfl, _, _, rfl, rfl, ?_⟩
    have s12 := s1.trans s2
    refine ⟨_, rfl, rfl, _, rfl, ?_⟩
    rw [decide_eq_false (show ¬ V.ref t = V.non from fun e => nomatch e)]
    obtain ⟨ne, l9, gg, ms, row, _⟩ := id ri
    refine iteF ⟨a, y, c, .ref b, .ref t, is.map fun i => PyData.int (i : Nat), us.length, rfl, C.same s12, by omega, .tup (s2 _ _ et) (ints_sw is), fun x hx => ?_, by rw [List.length_map]; exact l9, by omega, fun u n c' H' g C' l' gw => q u n c' H' g C' (by omega) ((Gw.of s12).trans gw)⟩
    obtain ⟨i, hi, rfl⟩ := List.mem_map.mp hx
    obtain ⟨j, hj⟩ := List.mem_iff_getElem?.mp hi
    have hjl := (List.getElem?_eq_some_iff.mp hj).1
    obtain ⟨i', hi', hd'⟩ := row j hjl
    rw [hj] at hi'
    cases hi'
    have := (List.getElem?_eq_some_iff.mp hd').1
    exact ⟨i, rfl, by omega⟩
end
end K11
end
section
set_option autoImplicit false
set_option maxRecDepth 100000
set_option maxHeartbeats 4000000
/-! what dict(pairs) makes, as a value -/
namespace K11
open PySem PySem.Spec PyProof.Rows L2 KX RZ StX
def mergeI (acc : Rws) (R : Rws) : Rws := R.foldl (fun m r => putI m r.1 r.2) acc
theorem paired_put {H : Hp} {xs : List MRow} {m : Rws} {k : NestedKey} {y v : V} {d : PyData} (h : Paired (RowR H) xs m) (sw : Sw H v d) : Paired (RowR H) (mPut xs k y v) (putI m k d) := by
  have e := row_some h k
  unfold mPut putI
  rw [e]
  by_cases hs : (lookI m k).isSome = true
  · rw [if_pos hs, if_pos hs]
    clear e hs
    induction h with
    | nil => exact .nil
    | @cons x r xs m a _ ih =>
      refine .cons ?_ ih
      show RowR H (if x.1 = k then (x.1, x.2.1, v) else x) (if r.1 = k then (r.1, d) else r)
      rw [a.1]
      by_cases q : r.1 = k
      · rw [if_pos q, if_pos q]
        exact ⟨rfl, sw⟩
      · rw [if_neg q, if_neg q]
        exact a
  · rw [if_neg hs, if_neg hs]
    exact Paired.app h (.cons ⟨rfl, sw⟩ .nil)
theorem paired_merge {H : Hp} : ∀ {rows xs : List MRow} {R m : Rws}, Paired (RowR H) xs m → Paired (RowR H) rows R → Paired (RowR H) (mMerge xs rows) (mergeI m R)
  | _, _, _, _, h, .nil => h
  | _, _, _, _, h, .cons (a := x) (b := r) a t => by
    have := paired_merge (paired_put (k := x.1) (y := x.2.1) h a.2) t
    rw [show putI _ x.1 r.2 = putI _ r.1 r.2 by rw [a.1]] at this
    exact this
theorem put_mem {m : Rws} {k : NestedKey} {d : PyData} {r : NestedKey × PyData} (h : r ∈ putI m k d) : r ∈ m ∨ (r.1 = k ∧ r.2 = d) := by
  unfold putI at h
  split at h
  · obtain ⟨z, hz, rfl⟩ := List.mem_map.mp h
    by_cases e : z.1 = k
    · rw [if_pos e]
      exact .inr ⟨e, rfl⟩
    · rw [if_neg e]
      exact .inl hz
  · rcases List.mem_append.mp h with h | h
    · exact .inl h
    · rw [List.mem_singleton] at h
      subst h
      exact .inr ⟨rfl, rfl⟩
theorem merge_mem : ∀ {R m : Rws} {r : NestedKey × PyData}, r ∈ mergeI m R → r ∈ m ∨ r ∈ R
  | [], _, _, h => .inl h
  | q :: R, m, r, h => by
    rcases merge_mem (R := R) (m := putI m q.1 q.2) h with h | h
    · rcases put_mem h with h | ⟨h1, h2⟩
      · exact .inl h
      · refine .inr ?_
        rw [show r = q from Prod.ext h1 h2]
        exact List.mem_cons_self
    · exact .inr (List.mem_cons_of_mem _ h)
theorem put_keys_nd {m : Rws} {k : NestedKey} {d : PyData} (nd : (m.map (·.1)).Nodup) : ((putI m k d).map (·.1)).Nodup := by
  unfold putI
  split
  · rw [List.map_map]
    rw [show (List.map ((·.1) ∘ fun p : NestedKey × PyData => if p.1 = k then (p.1, d) else p) m) = m.map (·.1) from List.map_congr_left fun p _ => by
      show (if p.1 = k then (p.1, d) else p).1 = p.1
      split <;> rfl]
    exact nd
  · rename_i hs
    rw [List.map_append, List.nodup_append]
    refine ⟨nd, by simp, fun a ha b hb e => ?_⟩
    simp only [List.map_cons, List.map_nil, List.mem_singleton] at hb
    rw [e, hb] at ha
    obtain ⟨r, hr, e2⟩ := List.mem_map.mp ha
    have : lookI m k ≠ none := fun q => by
      have := lookI_none.mp q
      exact this (List.mem_map.mpr ⟨r, hr, e2⟩)
    exact hs (Option.isSome_iff_ne_none.mpr this)
theorem merge_keys_nd : ∀ {R m : Rws}, (m.map (·.1)).Nodup → ((mergeI m R).map (·.1)).Nodup
  | [], _, h => h
  | q :: R, m, h => merge_keys_nd (R := R) (m := putI m q.1 q.2) (put_keys_nd h)
theorem put_len {m : Rws} {k : NestedKey} {d : PyData} : (putI m k d).length ≤ m.length + 1 := by
  unfold putI
  split
  · rw [List.length_map]
    omega
  · rw [List.length_append]
    exact Nat.le_refl _
theorem merge_len : ∀ {R m : Rws}, (mergeI m R).length ≤ m.length + R.length
  | [], _ => Nat.le_refl _
  | q :: R, m => by
    have := merge_len (R := R) (m := putI m q.1 q.2)
    have := put_len (m := m) (k := q.1) (d := q.2)
    rw [List.length_cons]
    show (mergeI (putI m q.1 q.2) R).length ≤ _
    omega
/-- a value in such a dict -/
def Vl (d : PyData) : Prop := noLst d = true ∧ Gd 300 1 d
theorem Atm.vl {d : PyData} (h : Atm d) : Vl d := ⟨h.2, h.1.mono (by decide) (by decide)⟩
theorem key_gd {k : NestedKey} (h : k ∈ PT3) : Gd 300 1 k.data := by
  have t : ∀ {z : Str}, z.cps.toList.all (fun c => decide (c < 16 ^ 8)) = true → z.cps.size ≤ 20 → Gd 300 1 (.str z) := fun h1 h2 => (gd_str h1 h2).mono (by decide) (by decide)
  have e : PT3 = [.text "", .text "i", .text "j", .text "n", .text "*1", .text "*2", cB, cA, .text "far", c7, .num 3] := rfl
  have b : (PT3.all fun k => decide (k.data.showable = true ∧ k.data.leavesShort 100 = true ∧ k.data.weight ≤ 300 ∧ k.data.depth ≤ 1)) = true := by decide +kernel
  obtain ⟨a1, a2, a3, a4⟩ := of_decide_eq_true (List.all_eq_true.mp b k h)
  exact ⟨a1, a2, a3, a4⟩
theorem good_dict {w : World} {a D : Addr} {H : Hp} {xs : List MRow} {m : Rws} (M : MD w H D xs) (ne : D ≠ a) (pr : Paired (RowR H) xs m) (nd : (m.map (·.1)).Nodup) (kp : ∀ r ∈ m, r.1 ∈ PT3) (vl : ∀ r ∈ m, Vl r.2) (l : m.length ≤ 100) : GoodV w a H (.ref D) (.dict m) := by
  refine ⟨⟨D, xs, rfl, M, pr⟩, ⟨fun e => ne (by injection e), fun r hr => (vl r hr).1⟩, ⟨nd, kp, by omega⟩, True.intro, ?_⟩
  refine (gd_dict (n := 300) (m := 1) (kvs := m.map fun r => (r.1.data, r.2)) fun x hx => ?_).mono (n' := 100000) (m' := 50) ?_ (by decide)
  · obtain ⟨r, hr, rfl⟩ := List.mem_map.mp hx
    exact ⟨key_gd (kp r hr), (vl r hr).2⟩
  · rw [List.length_map]
    exact Nat.le_trans (Nat.mul_le_mul_right _ l) (by decide)
/-- dict(list of pairs) -/
theorem dict_good {w : World} {K : PySem.W.Frag} {a p : Addr} {H : Hp} {ps : List Addr} {rows : List MRow} {R : Rws} {y c : Int} {Q : VK} (ep : H p = some (.lst (ps.map V.ref))) (h : Paired (PrM K H) ps rows) (pr : Paired (RowR H) rows R) (C : CrAt H a y c) (kp : ∀ r ∈ R, r.1 ∈ PT3) (vl : ∀ r ∈ R, Vl r.2) (l : R.length ≤ 100)
    (q : ∀ (D : Addr) (m : Rws) (H' : Hp), Same H H' → GoodV w a H' (.ref D) (.dict m) → Q (.ref D) H') : rDictM K w [.ref p] H Q := by
  have lr := row_len pr
  refine ⟨p, ps, rows, rfl, SqL.of ep, h, by rw [sizeLine_eq]; omega, fun D nD => ?_⟩
  have s := same_upd (p := D) (o := mDict w D (mMerge [] rows)) nD
  have M : MD w (upd H D (mDict w D (mMerge [] rows))) D (mMerge [] rows) := ⟨upd_same, fun x hx => by
    rcases mMerge_from hx with ⟨z, hz, _⟩ | ⟨z, hz, e1, e2⟩
    · cases hz
    · obtain ⟨j, hj⟩ := List.mem_iff_getElem?.mp hz
      obtain ⟨b, _, e⟩ := Paired.atR h hj
      have := e.2.1
      rw [e1, e2] at this
      exact MKeyAt.same s this⟩
  have pm : Paired (RowR (upd H D (mDict w D (mMerge [] rows)))) (mMerge [] rows) (mergeI [] R) := rows_same s (paired_merge .nil pr)
  refine q D (mergeI [] R) _ s (good_dict M (C.ne nD) pm (merge_keys_nd List.nodup_nil) (fun r hr => ?_) (fun r hr => ?_) ?_)
  · rcases merge_mem hr with h | h
    · cases h
    · exact kp r h
  · rcases merge_mem hr with h | h
    · cases h
    · exact vl r h
  · have := merge_len (R := R) (m := [])
    rw [List.length_nil] at this
    omega
end K11
end
section
set_option autoImplicit false
set_option maxRecDepth 100000
set_option maxHeartbeats 4000000
/-! _law_near_numbers -/
namespace K11
open PySem PySem.Spec PyProof.Rows L2 KX RZ StX
abbrev nNn : List Str := ["_law_keg", "_law_differences_here", "_law_numbers", "_law_point", "_law_way", "_law_items", "_law_item", "_law_name", "_law_number"]
theorem scNn : FnScope nNn ["_law_keg", "_law_differences_here"] (defScope sNn) := ⟨rfl, rfl, rfl, by decide +kernel, rfl, by decide +kernel, by decide +kernel⟩
abbrev NnX (P : Program) (w : World) (K : PySem.W.Frag) (mg : Str → Option Value) (base : Heap) (f : Addr) (cdv : Value) (A : Around) (outer : List Env) (s0 : Shared) (H0 : Hp) (E : XK) : Cx := cxOf CX0 P w K mg base nNn "_law_near_numbers" (defScope sNn) f cdv A outer s0 H0 E
structure NumM (m : List (NestedKey × Int)) : Prop where
  nd : (m.map (·.1)).Nodup
  ok : ∀ p ∈ m, p.1 ∈ PTS ∧ p.2.natAbs < 10 ^ 65
  pos : 0 < m.length
  few : m.length ≤ 9
def rowsM (m : List (NestedKey × Int)) : Rws := m.map fun p => (p.1, PyData.int p.2)
theorem ti_rows {H : Hp} : ∀ {m : List (NestedKey × Int)} {xs : List MRow}, xs.map (fun r => (r.1, r.2.2)) = m.map (fun p => (p.1, V.int p.2)) → Paired (RowR H) xs (rowsM m)
  | [], [], _ => .nil
  | [], _ :: _, e => by cases e
  | _ :: _, [], e => by cases e
  | p :: m, x :: xs, e => by
    rw [List.map_cons, List.map_cons] at e
    obtain ⟨e1, e2⟩ := List.cons.inj e
    obtain ⟨a1, a2⟩ := Prod.mk.inj e1
    refine .cons ⟨a1, ?_⟩ (ti_rows e2)
    show Sw H x.2.2 (.int p.2)
    rw [a2]
    exact .int _
theorem pt_pt3 {p : NestedKey} (h : p ∈ PTS) : p ∈ PT3 := List.mem_append_left _ h
theorem rows_at {H : Hp} {xs : List MRow} (h : ∀ x ∈ xs, MKeyAt H x.1 x.2.1) : MKeysAt H (xs.map (·.1)) (xs.map (·.2.1)) := by
  induction xs with
  | nil => exact .nil
  | cons x xs ih => exact .cons (h x List.mem_cons_self) (ih fun y hy => h y (List.mem_cons_of_mem _ hy))
theorem paired_rev {α β : Type} {R : α → β → Prop} : ∀ {xs : List α} {ys : List β}, Paired R xs ys → Paired R xs.reverse ys.reverse
  | _, _, .nil => .nil
  | _, _, .cons a r => by
    rw [List.reverse_cons, List.reverse_cons]
    exact KX.Paired.app (paired_rev r) (.cons a .nil)
theorem prm_of {K : PySem.W.Frag} {H : Hp} {ts : List Addr} {xs : List MRow} (h : Paired (fun (t : Addr) (q : MRow) => H t = some (.tup [q.2.1, q.2.2])) ts xs) (k : ∀ x ∈ xs, MKeyAt H x.1 x.2.1 ∧ x.1.depth ≤ 8) : Paired (PrM K H) ts xs := by
  induction h with
  | nil => exact .nil
  | @cons t x ts xs a _ ih => exact .cons ⟨SqT.of a, (k x List.mem_cons_self).1, (k x List.mem_cons_self).2⟩ (ih fun y hy => k y (List.mem_cons_of_mem _ hy))
theorem prm_zip {K : PySem.W.Frag} {H : Hp} {T : Addr × MRow → Bool} : ∀ {ts : List Addr} {xs : List MRow}, Paired (PrM K H) ts xs → Paired (PrM K H) (((ts.zip xs).filter T).map (·.1)) (((ts.zip xs).filter T).map (·.2))
  | _, _, .nil => .nil
  | t :: ts, x :: xs, .cons a r => by
    rw [List.zip_cons_cons, List.filter_cons]
    by_cases h : T (t, x) = true
    · rw [if_pos h]
      exact .cons a (prm_zip r)
    · rw [if_neg h]
      exact prm_zip r
/-- pairs in a list: what stays while the creel turns -/
theorem prm_tup {H H' : Hp} {ts : List Addr} {xs : List MRow} (t : Tup H H') (h : Paired (fun (t : Addr) (q : MRow) => H t = some (.tup [q.2.1, q.2.2])) ts xs) : Paired (fun (t : Addr) (q : MRow) => H' t = some (.tup [q.2.1, q.2.2])) ts xs := by
  induction h with
  | nil => exact .nil
  | cons a _ ih => exact .cons (t _ _ a) ih
theorem zip_rows {H : Hp} {T : Addr × MRow → Bool} : ∀ {ts : List Addr} {xs : List MRow} {R : Rws}, Paired (RowR H) xs R → ∃ R', Paired (RowR H) (((ts.zip xs).filter T).map (·.2)) R' ∧ (∀ r ∈ R', r ∈ R) ∧ R'.length ≤ R.length
  | [], _, _, _ => ⟨[], by rw [List.zip_nil_left]; exact .nil, fun _ h => (nomatch h), Nat.zero_le _⟩
  | _ :: _, _, _, .nil => ⟨[], by rw [List.zip_nil_right]; exact .nil, fun _ h => (nomatch h), Nat.zero_le _⟩
  | t :: ts, x :: xs, r :: R, .cons a k => by
    obtain ⟨R', h1, h2, h3⟩ := zip_rows (ts := ts) (T := T) k
    rw [List.zip_cons_cons, List.filter_cons]
    by_cases h : T (t, x) = true
    · rw [if_pos h]
      exact ⟨r :: R', .cons a h1, fun q hq => (List.mem_cons.mp hq).elim (fun e => e ▸ List.mem_cons_self) fun q' => List.mem_cons_of_mem _ (h2 q q'), Nat.succ_le_succ h3⟩
    · rw [if_neg h]
      exact ⟨R', h1, fun q hq => List.mem_cons_of_mem _ (h2 q hq), Nat.le_succ_of_le h3⟩
def bumpR (x : MRow) : MRow := (x.1, x.2.1, match x.2.2 with | .int i => .int (i + 1) | v => v)
def bumpM (m : List (NestedKey × Int)) : List (NestedKey × Int) := m.map fun p => (p.1, p.2 + 1)
theorem bump_rows {m : List (NestedKey × Int)} {xs : List MRow} (h : xs.map (fun r => (r.1, r.2.2)) = m.map (fun p => (p.1, V.int p.2))) : (xs.map bumpR).map (fun r => (r.1, r.2.2)) = (bumpM m).map fun p => (p.1, V.int p.2) := by
  induction xs generalizing m with
  | nil =>
    cases m with
    | nil => rfl
    | cons _ _ => cases h
  | cons x xs ih =>
    cases m with
    | nil => cases h
    | cons p m =>
      rw [List.map_cons, List.map_cons] at h
      obtain ⟨e1, e2⟩ := List.cons.inj h
      obtain ⟨a1, a2⟩ := Prod.mk.inj e1
      show (x.1, (bumpR x).2.2) :: _ = (p.1, V.int (p.2 + 1)) :: _
      rw [show (xs.map bumpR).map (fun r => (r.1, r.2.2)) = (bumpM m).map fun p => (p.1, V.int p.2) from ih e2, a1]
      unfold bumpR
      rw [a2]
      rfl
mutual
theorem key_sw {H : Hp} : ∀ {k : NestedKey} {v : V}, MKeyAt H k v → Sw H v k.data
  | _, _, .non => .non
  | _, _, .num i => .int i
  | _, _, .text z => .str z
  | _, _, .tup e r => .tup e (keys_sw r)
theorem keys_sw {H : Hp} : ∀ {ks : List NestedKey} {vs : List V}, MKeysAt H ks vs → SwAll H vs (NestedKey.datas ks)
  | _, _, .nil => .nil
  | _, _, .cons h r => .cons (key_sw h) (keys_sw r)
end
def pairD (p : NestedKey × Int) : PyData := .tuple [p.1.data, .int p.2]
theorem items_sw {H : Hp} : ∀ {ts : List Addr} {xs : List MRow} {m : List (NestedKey × Int)}, Paired (fun (t : Addr) (q : MRow) => H t = some (.tup [q.2.1, q.2.2])) ts xs → xs.map (fun r => (r.1, r.2.2)) = m.map (fun p => (p.1, V.int p.2)) → (∀ x ∈ xs, MKeyAt H x.1 x.2.1) → SwAll H (ts.map V.ref) (m.map pairD)
  | [], [], [], _, _, _ => .nil
  | [], [], _ :: _, _, e, _ => by cases e
  | _ :: _, _ :: _, [], _, e, _ => by cases e
  | t :: ts, x :: xs, p :: m, .cons a r, e, hk => by
    rw [List.map_cons, List.map_cons] at e
    obtain ⟨e1, e2⟩ := List.cons.inj e
    obtain ⟨a1, a2⟩ := Prod.mk.inj e1
    have mk := hk x List.mem_cons_self
    have a1 : x.1 = p.1 := a1
    have a2 : x.2.2 = .int p.2 := a2
    rw [a1] at mk
    rw [a2] at a
    exact .cons (.tup a (.cons (key_sw mk) (.cons (.int _) .nil))) (items_sw r e2 fun y hy => hk y (List.mem_cons_of_mem _ hy))
theorem vl_int {i : Int} (h : i.natAbs < 10 ^ 70) : Vl (.int i) := (atm_int h).vl
theorem p65 {i : Int} (h : i.natAbs < 10 ^ 65) : i.natAbs < 10 ^ 70 := Nat.lt_trans h (by decide)
theorem rows_mem {m : List (NestedKey × Int)} (n : NumM m) {r : NestedKey × PyData} (h : r ∈ rowsM m) : r.1 ∈ PT3 ∧ Vl r.2 := by
  obtain ⟨p, hp, rfl⟩ := List.mem_map.mp h
  exact ⟨pt_pt3 (n.ok p hp).1, vl_int (p65 (n.ok p hp).2)⟩
theorem key_nl {k : NestedKey} (h : k ∈ PT3) : noLst k.data = true := by
  have b : (PT3.all fun k => noLst k.data) = true := by decide +kernel
  exact List.all_eq_true.mp b k h
theorem pair_gd {p : NestedKey × Int} (h : p.1 ∈ PTS ∧ p.2.natAbs < 10 ^ 65) : Gd 602 2 (pairD p) ∧ noLst (pairD p) = true := by
  refine ⟨(gd_tup (n := 300) (m := 1) fun x hx => ?_).mono (by show 2 * 301 ≤ 602; decide) (by decide), ?_⟩
  · simp only [List.mem_cons, List.not_mem_nil, or_false] at hx
    rcases hx with rfl | rfl
    · exact key_gd (pt_pt3 h.1)
    · exact (gd_int (p65 h.2)).mono (by decide) (by decide)
  · show (noLst p.1.data && (true && true)) = true
    rw [key_nl (pt_pt3 h.1)]
    rfl
theorem pairs_gd {m : List (NestedKey × Int)} (n : NumM m) : (∀ x ∈ m.map pairD, Gd 602 2 x) ∧ noLsts (m.map pairD) = true :=
  ⟨fun x hx => by
    obtain ⟨p, hp, rfl⟩ := List.mem_map.mp hx
    exact (pair_gd (n.ok p hp)).1, noLsts_of fun x hx => by
    obtain ⟨p, hp, rfl⟩ := List.mem_map.mp hx
    exact (pair_gd (n.ok p hp)).2⟩
/-- what follows, wherever the numbers are from -/
def uNn (w : World) : TS := fun Dn σ H => ∃ (a : Addr) (y c : Int) (v : V) (D : Addr) (m : List (NestedKey × Int)), σ = [some (.ref a), some v, some (.ref D), none, none, none, none, none, none] ∧ CrAt H a y c ∧ c ≤ 950000 ∧ TI' w H D m ∧ NumM m ∧
  ∀ (u : V) (n : NV) (c' : Int) (H' : Hp), GoodV w a H' u n → CrAt H' a y c' → c' ≤ c + 5 → Gw a H H' → Dn.rt u H'
section
variable {P : Program} {w : World} {K : PySem.W.Frag} {mg : Str → Option Value} {base : Heap} {f : Addr} {cdv : Value} {A : Around} {outer : List Env} {s0 : Shared} {H0 : Hp} {E : XK}
theorem nn_rest (hr : Room 7 (NnX P w K mg base f cdv A outer s0 H0 E).nox.A) (B : Free mg) (mD : mg "dict" = none) (Ta : Fnc P w K mg base CX0 1 "_law_tap" ["_law_keg", "_law_total"] spFish) (Pi : Fnc P w K mg base CX0 2 "_law_pick" ["_law_keg", "_law_items"] spOne) :
    PSs (NnX P w K mg base f cdv A outer s0 H0 E).nox ((defBody sNn).drop 2) (uNn w) := by
  have hu := hr.units
  refine pss_imp (pss_cons (ps_asg (pe_tup (pa_cons (pe_fnc Pi hr (by omega) (by rfl) pass0 (pa_cons (pv 0) (pa_cons (pe_callTy (call_listM rfl) (by rfl) B.list (by decide +kernel) (pa_cons (pv 2) pa_nil)) pa_nil))) (pa_cons (pe_fnc Ta hr (by omega) (by rfl) pass0 (pa_cons (pv 0) (pa_cons pe_int pa_nil))) pa_nil))) (pg_tup rfl (pgs_cons (pg_name (i := 3) scNn.nd rfl (Or.inr rfl)) (pgs_cons (pg_name (i := 4) scNn.nd rfl (Or.inl rfl)) pgs_nil)))) <|
    pss_cons (ps_set (i := 5) scNn.nd rfl (.inl rfl) (pe_listItemsM rfl (pv 2) (by rfl) B.list (by decide +kernel))) <|
    pss_cons (ps_if (pt_cmpR op_eq (pv 4) pe_int (nomark _)) (pss_one (ps_ret (pe_callTy (call_dictM rfl hu) (by rfl) mD (by decide +kernel) (pa_cons (pe_revL (pv 5)) pa_nil)))) pss_nil) <|
    pss_cons (ps_if (pt_cmpR op_eq (pv 4) pe_int (nomark _)) (pss_one (ps_ret (pe_callTy (call_dictM rfl hu) (by rfl) mD (by decide +kernel) (pa_cons (pe_lc (own := [("_law_item", 6)]) (g := gName 6) (tt := tTest (tOp rNeM (tOp (rIxT K) (tVar 6) (tC (.int 0))) (tVar 3))) (te := tVar 6) rfl scNn.nd (pi_list (pv 5)) (blkOk_by (N := nNn) (sc := defScope sNn) (by decide +kernel))
      (fun _ _ _ _ _ => pg_name (i := 6) scNn.nd rfl (Or.inl rfl) (Or.inr rfl)) (fun _ _ _ _ _ => pts_one (pt_cmpR (op_neM hu) (pe_ix ix_tup (pv 6) pe_int (fun _ _ => rfl)) (pv 3) (nomark _))) (fun _ _ _ _ _ => pv 6)) pa_nil)))) pss_nil) <|
    pss_cons (ps_if (pt_cmpR op_eq (pv 4) pe_int (nomark _)) (pss_one (ps_ret (pe_callTy (call_dictM rfl hu) (by rfl) mD (by decide +kernel) (pa_cons (pe_op op_cat (pv 5) (pe_lst (pa_cons (pe_tup (pa_cons (pe_fnc Pi hr (by omega) (by rfl) pass0 (pa_cons (pv 0) (pa_cons (pe_lstK (pda_cons pd_str (pda_cons pd_str (pda_cons pd_int (pda_cons (pd_tup (pda_cons pd_str (pda_cons pd_str (pda_cons pd_int pda_nil)))) pda_nil))))) pa_nil))) (pa_cons (pe_fnc Ta hr (by omega) (by rfl) pass0 (pa_cons (pv 0) (pa_cons pe_int pa_nil))) pa_nil))) pa_nil))) pa_nil)))) pss_nil) <|
    pss_cons (ps_if (pt_cmpR op_eq (pv 4) pe_int (nomark _)) (pss_one (ps_ret (pe_callTy (call_dictM rfl hu) (by rfl) mD (by decide +kernel) (pa_cons (pe_op op_cat (pv 5) (pe_lst (pa_cons (pe_tup (pa_cons (pv 3) (pa_cons (pe_fnc Pi hr (by omega) (by rfl) pass0 (pa_cons (pv 0) (pa_cons (pe_lst (pa_cons pe_non (pa_cons pe_bl (pa_cons pe_str (pa_cons (pe_tup (pa_cons pe_int pa_nil)) (pa_cons pe_int (pa_cons pe_int (pa_cons (pe_un un_neg (pe_op op_pow pe_int pe_int)) pa_nil)))))))) pa_nil))) pa_nil))) pa_nil))) pa_nil)))) pss_nil) <|
    pss_cons (ps_if (pt_cmpR op_lt (pv 4) pe_int (nomark _)) (pss_one (ps_ret (pe_callTy (call_dictM rfl hu) (by rfl) mD (by decide +kernel) (pa_cons (pe_op op_cat (pv 5) (pe_lst (pa_cons (pe_tup (pa_cons (pv 3) (pa_cons (pe_op op_sub (pe_op op_add (pe_mget hu (pv 2) (pv 3) (fun _ _ => rfl)) (pe_fnc Ta hr (by omega) (by rfl) pass0 (pa_cons (pv 0) (pa_cons pe_int pa_nil)))) pe_int) pa_nil))) pa_nil))) pa_nil)))) pss_nil) <|
    pss_cons (ps_if (pt_cmpR op_eq (pv 4) pe_int (nomark _)) (pss_one (ps_ret (pe_callTy (call_dictM rfl hu) (by rfl) mD (by decide +kernel) (pa_cons (pe_lc (own := [("_law_name", 7), ("_law_number", 8)]) (g := gTup K 2 (gCons (gName 7) (gCons (gName 8) gNil))) (tt := tYes) (te := tTup (tCons (tVar 7) (tCons (tOp (rI0 fun i j => .int (i + j)) (tVar 8) (tC (.int 1))) tNil))) rfl scNn.nd (pi_list (pv 5)) (blkOk_by (N := nNn) (sc := defScope sNn) (by decide +kernel))
      (fun _ _ _ _ _ => pg_tup rfl (pgs_cons (pg_name (i := 7) scNn.nd rfl (Or.inl rfl) (Or.inr rfl)) (pgs_cons (pg_name (i := 8) scNn.nd rfl (Or.inl rfl) (Or.inr rfl)) pgs_nil))) (fun _ _ _ _ _ => pts_nil) (fun _ _ _ _ _ => pe_tup (pa_cons (pv 7) (pa_cons (pe_op op_add (pv 8) pe_int) pa_nil)))) pa_nil)))) pss_nil) <|
    pss_one (ps_ret (pe_fnc Pi hr (by omega) (by rfl) pass0 (pa_cons (pv 0) (pa_cons (pe_lst (pa_cons (pv 5) (pa_cons pe_non (pa_cons (pe_tup pa_nil) (pa_cons pe_mnew (pa_cons pe_int (pa_cons pe_str (pa_cons (pe_callTy call_tuple_of (by rfl) (Free.tuple B) (by decide +kernel) (pa_cons (pv 5) pa_nil)) (pa_cons (pv 2) pa_nil))))))))) pa_nil))))) ?_
  rintro Dn σ H ⟨a, y, c, v, D, m, rfl, C, hc, T0, nm, q⟩
  obtain ⟨xs, M, r⟩ := id T0
  have rr : ∀ {H' : Hp}, Paired (RowR H') xs (rowsM m) := fun {H'} => ti_rows r
  have lx : xs.length = m.length := by
    have := congrArg List.length r
    rwa [List.length_map, List.length_map] at this
  have few := nm.few
  have pos := nm.pos
  have xk : ∀ x ∈ xs, x.1 ∈ PTS := fun x hx => by
    have : (x.1, x.2.2) ∈ m.map (fun p => (p.1, V.int p.2)) := by
      rw [← r]
      exact List.mem_map.mpr ⟨x, hx, rfl⟩
    obtain ⟨p, hp, e⟩ := List.mem_map.mp this
    rw [← (Prod.mk.inj e).1]
    exact (nm.ok p hp).1
  have Da : D ≠ a := fun e => by
    obtain ⟨z, e2, _⟩ := C
    have := M.at_
    rw [e, e2] at this
    cases this
  have Mg : ∀ {H' : Hp}, Gw a H H' → MD w H' D xs := fun g => ⟨g.at_ Da M.at_, fun x hx => MKeyAt.tupd g.tu (M.ks x hx)⟩
  -- a point and a way
  refine ⟨_, rfl, _, rfl, D, xs, rfl, M, fun p1 n1 => ?_⟩
  have t1 := same_upd (p := p1) (o := .lst (xs.map (·.2.1))) n1
  have e1 : (upd H p1 (.lst (xs.map (·.2.1)))) p1 = some (.lst (xs.map (·.2.1))) := upd_same
  have k1 := rows_at fun x hx => MKeyAt.same t1 (M.ks x hx)
  (first | refine (use_pickK (C.same t1) (by omega) e1 (C.ne n1) k1 (by rw [List.length_map]; omega) (by rw [List.length_map]; omega) fun k vk c2 H2 hk mk C2 l2 g2 => ?_) | (show tNil _ _ _; unfold tNil; refine (use_pickK (C.same t1) (by omega) e1 (C.ne n1) k1 (by rw [List.length_map]; omega) (by rw [List.length_map]; omega) fun k vk c2 H2 hk mk C2 l2 g2 => ?_)) | ((try unfold tCons); (try unfold tNil); (try unfold tC); refine (use_pickK (C.same t1) (by omega) e1 (C.ne n1) k1 (by rw [List.length_map]; omega) (by rw [List.length_map]; omega) fun k vk c2 H2 hk mk C2 l2 g2 => ?_)))
  have G2 := (Gw.of (a := a) t1).trans g2
  refine ⟨_, rfl, ?_⟩
  (first | refine (use_tap (t := 9) C2 (by omega) (by decide) (by decide) fun wy c3 H3 w0 w1 C3 l3 g3 => ?_) | (show tNil _ _ _; unfold tNil; refine (use_tap (t := 9) C2 (by omega) (by decide) (by decide) fun wy c3 H3 w0 w1 C3 l3 g3 => ?_)) | ((try unfold tCons); (try unfold tNil); (try unfold tC); refine (use_tap (t := 9) C2 (by omega) (by decide) (by decide) fun wy c3 H3 w0 w1 C3 l3 g3 => ?_)))
  have mk3 := MKeyAt.tupd g3.tu mk
  refine ⟨le_line (by simp), fun T nT => ?_⟩
  have sT := same_upd (p := T) (o := .tup [vk, .int wy]) nT
  refine ⟨T, _, rfl, SqT.of upd_same, rfl, _, _, rfl, _, _, rfl, rfl, ?_⟩
  have mk4 := MKeyAt.same sT mk3
  have C4 := C3.same sT
  have G4 := G2.trans (g3.trans (Gw.of sT))
  generalize upd H3 T (.tup [vk, .int wy]) = H4 at sT mk4 C4 G4 ⊢
  refine ⟨_, rfl, D, xs, rfl, Mg G4, fun H5 p ts s5 np nts pts ep pr => ?_⟩
  have pa : p ≠ a := C4.ne np
  have C5 := C4.same s5
  have G5 := G4.trans (Gw.of s5)
  have mk5 := MKeyAt.same s5 mk4
  have kpt : k ∈ PTS := by
    obtain ⟨x, hx, rfl⟩ := List.mem_map.mp hk
    exact xk x hx
  have key5 : ∀ {H' : Hp}, Gw a H H' → ∀ x ∈ xs, MKeyAt H' x.1 x.2.1 ∧ x.1.depth ≤ 8 := fun g x hx => ⟨MKeyAt.tupd g.tu (M.ks x hx), pt_dep (xk x hx)⟩
  have prm : ∀ {H' : Hp}, Gw a H5 H' → Paired (PrM K H') ts xs := fun g => prm_of (prm_tup g.tu pr) (key5 (G5.trans g))
  have lt : ts.length = xs.length := Paired.length pr
  have fin : ∀ (c' : Int) (H6 : Hp) (D' : Addr) (mm : Rws) (H7 : Hp), Gw a H5 H6 → CrAt H6 a y c' → c' ≤ c + 5 → Same H6 H7 → GoodV w a H7 (.ref D') (.dict mm) → Dn.rt (.ref D') H7 := fun c' H6 D' mm H7 g C' l s gv => q _ _ c' H7 gv (C'.same s) l (G5.trans (g.trans (Gw.of s)))
  have rl : (rowsM m).length ≤ 9 := by
    unfold rowsM
    rw [List.length_map]
    exact few
  have addOne : ∀ (c' : Int) (H6 : Hp) (T L : Addr) (vk vv : V) (k' : NestedKey) (d : PyData), Gw a H5 H6 → CrAt H6 a y c' → c' ≤ c + 5 → H6 T = some (.tup [vk, vv]) → H6 L = some (.lst [V.ref T]) → MKeyAt H6 k' vk → k' ∈ PT3 → Sw H6 vv d → Vl d →
      rCat (.ref p) (.ref L) H6 fun x H7 => rDictM K w [x] H7 Dn.rt := fun c' H6 T L vk vv k' d g C' l eT eL mk hk' sw vl => by
    refine ⟨p, L, ts.map V.ref, [V.ref T], rfl, rfl, g.at_ pa ep, eL, by rw [List.length_map, lt, sizeLine_eq]; simp; omega, fun p2 n2 => ?_⟩
    have t2 := same_upd (p := p2) (o := .lst (ts.map V.ref ++ [V.ref T])) n2
    have e2 : (upd H6 p2 (.lst (ts.map V.ref ++ [V.ref T]))) p2 = some (.lst ((ts ++ [T]).map V.ref)) := by
      rw [upd_same, List.map_append]
      rfl
    refine dict_good (rows := xs ++ [(k', vk, vv)]) (R := rowsM m ++ [(k', d)]) e2 (Paired.app (prm (g.trans (Gw.of t2))) (.cons ⟨SqT.of (t2 _ _ eT), MKeyAt.same t2 mk, pt3_dep hk'⟩ .nil)) (Paired.app rr (.cons ⟨rfl, Sw.same t2 sw⟩ .nil)) (C'.same t2) (fun r hr => ?_) (fun r hr => ?_) (by rw [List.length_append]; simp; omega) fun D' mm H7 s7 gv => fin c' H6 D' mm H7 g C' l (t2.trans s7) gv
    · rcases List.mem_append.mp hr with h | h
      · exact (rows_mem nm h).1
      · rw [List.mem_singleton.mp h]
        exact hk'
    · rcases List.mem_append.mp hr with h | h
      · exact (rows_mem nm h).2
      · rw [List.mem_singleton.mp h]
        exact vl
  -- turned
  refine ⟨_, rfl, rfl, _, rfl, ?_⟩
  by_cases w_0 : wy = 0
  · rw [decide_eq_true (by rw [w_0])]
    refine iteT ⟨_, rfl, p, ts.map V.ref, rfl, SqL.of ep, fun p2 n2 => ?_⟩
    have t2 := same_upd (p := p2) (o := .lst (ts.map V.ref).reverse) n2
    have e2 : (upd H5 p2 (.lst (ts.map V.ref).reverse)) p2 = some (.lst (ts.reverse.map V.ref)) := by
      rw [upd_same, List.map_reverse]
    exact dict_good (rows := xs.reverse) (R := (rowsM m).reverse) e2 (paired_rev (prm (Gw.of t2))) (paired_rev rr) (C5.same t2) (fun r hr => (rows_mem nm (List.mem_reverse.mp hr)).1) (fun r hr => (rows_mem nm (List.mem_reverse.mp hr)).2) (by rw [List.length_reverse]; omega) fun D' mm H7 s7 gv => fin c3 H5 D' mm H7 Gw.refl C5 (by omega) (t2.trans s7) gv
  rw [decide_eq_false (fun e => w_0 (V.int.inj e))]
  refine iteF ?_
  -- one left out
  refine ⟨_, rfl, rfl, _, rfl, ?_⟩
  by_cases w_1 : wy = 1
  · rw [decide_eq_true (by rw [w_1])]
    refine iteT ⟨_, rfl, p, rfl, ⟨_, SqL.of ep⟩, fun R nR => ?_⟩
    have lz : (ts.map V.ref).length = (ts.zip xs).length := by rw [List.length_map, List.length_zip, lt, Nat.min_self]
    refine lcF (ts.zip xs) (fun z => !decide (z.2.1 = k)) (fun z => V.ref z.1) (steady_l K p (ts.map V.ref)) (fun H' s => SqL.of (s _ _ ep)) nR lz (by rw [← lz, List.length_map]; omega) (fun i x z H' QY QN hx hz s ky kn => ?_) (fun H6 s6 e6 => ?_)
    · obtain ⟨t, row⟩ := z
      obtain ⟨h1, h2⟩ := List.getElem?_zip_eq_some.mp hz
      rw [List.getElem?_map, h1] at hx
      cases hx
      obtain ⟨row', h3, e3⟩ := Paired.atL pr h1
      rw [h2] at h3
      cases h3
      have hxm := List.mem_of_getElem? h2
      refine ⟨rfl, _, rfl, t, _, 0, _, rfl, rfl, SqT.of (s _ _ e3), rfl, _, rfl, row.1, k, (key5 (G5.trans (Gw.of s)) row hxm).1, MKeyAt.same s mk5, pt_ok (xk row hxm), pt_ok kpt, _, rfl, ?_⟩
      cases e : decide (row.1 = k) with
      | true => exact iteF (kn (by show (!decide (row.1 = k)) = false; rw [e]; rfl) H' (Same.refl _))
      | false => exact iteT ⟨_, rfl, ky (by show (!decide (row.1 = k)) = true; rw [e]; rfl) H' (Same.refl _)⟩
    · have e6' : H6 R = some (.lst ((((ts.zip xs).filter fun z => !decide (z.2.1 = k)).map (·.1)).map V.ref)) := by
        rw [e6, List.map_map]
        rfl
      have s6 : Same H5 H6 := s6
      obtain ⟨R', r1, r2, r3⟩ := zip_rows (H := H6) (ts := ts) (T := fun z => !decide (z.2.1 = k)) (rr (H' := H6))
      exact dict_good e6' (prm_zip (prm (Gw.of s6))) r1 (C5.same s6) (fun r hr => (rows_mem nm (r2 r hr)).1) (fun r hr => (rows_mem nm (r2 r hr)).2) (by omega) fun D' mm H7 s7 gv => fin c3 H5 D' mm H7 Gw.refl C5 (by omega) (s6.trans s7) gv
  rw [decide_eq_false (fun e => w_1 (V.int.inj e))]
  refine iteF ?_
  -- one more
  refine ⟨_, rfl, rfl, _, rfl, ?_⟩
  by_cases w_2 : wy = 2
  · rw [decide_eq_true (by rw [w_2])]
    refine iteT ⟨_, rfl, _, rfl, by repeat' (first | exact True.intro | refine And.intro ?_ ?_), fun q1 us H6 s6 nq eq km => ?_⟩
    (first | refine (use_pickK (C5.same s6) (by omega) eq (C5.ne nq) km (by decide) (by decide) fun k' v' c6 H7 hk' mk' C7 l7 g7 => ?_) | (show tNil _ _ _; unfold tNil; refine (use_pickK (C5.same s6) (by omega) eq (C5.ne nq) km (by decide) (by decide) fun k' v' c6 H7 hk' mk' C7 l7 g7 => ?_)) | ((try unfold tCons); (try unfold tNil); (try unfold tC); refine (use_pickK (C5.same s6) (by omega) eq (C5.ne nq) km (by decide) (by decide) fun k' v' c6 H7 hk' mk' C7 l7 g7 => ?_)))
    refine ⟨_, rfl, ?_⟩
    (first | refine (use_tap (t := 3) C7 (by omega) (by decide) (by decide) fun r' c7 H8 r0' r1' C8 l8 g8 => ?_) | (show tNil _ _ _; unfold tNil; refine (use_tap (t := 3) C7 (by omega) (by decide) (by decide) fun r' c7 H8 r0' r1' C8 l8 g8 => ?_)) | ((try unfold tCons); (try unfold tNil); (try unfold tC); refine (use_tap (t := 3) C7 (by omega) (by decide) (by decide) fun r' c7 H8 r0' r1' C8 l8 g8 => ?_)))
    refine ⟨le_line (by simp), fun T2 nT2 => ?_⟩
    have z1 := same_upd (p := T2) (o := .tup [v', .int r']) nT2
    have eT2 : (upd H8 T2 (.tup [v', .int r'])) T2 = some (.tup [v', .int r']) := upd_same
    generalize upd H8 T2 (.tup [v', .int r']) = H9 at z1 eT2 ⊢
    refine ⟨le_line (by simp), fun L2 nL2 => ?_⟩
    have z2 := same_upd (p := L2) (o := .lst [V.ref T2]) nL2
    have z12 := z1.trans z2
    refine addOne c7 _ T2 L2 v' (.int r') k' (.int r') ((Gw.of s6).trans (g7.trans (g8.trans (Gw.of z12)))) (C8.same z12) (by omega) (z2 _ _ eT2) upd_same (MKeyAt.same z12 (MKeyAt.tupd g8.tu mk')) ?_ (.int _) (vl_int (by omega))
    unfold PT3
    simp only [List.mem_cons, List.not_mem_nil, or_false] at hk'
    rcases hk' with rfl | rfl | rfl | rfl
    · exact List.mem_append_left _ (by decide +kernel)
    · exact List.mem_append_left _ (by decide +kernel)
    · exact List.mem_append_right _ (by simp)
    · exact List.mem_append_right _ List.mem_cons_self
  rw [decide_eq_false (fun e => w_2 (V.int.inj e))]
  refine iteF ?_
  -- another value
  refine ⟨_, rfl, rfl, _, rfl, ?_⟩
  by_cases w_3 : wy = 3
  · rw [decide_eq_true (by rw [w_3])]
    refine iteT ⟨_, rfl, _, rfl, _, rfl, le_line (by simp), fun p6 n6 => ?_⟩
    have z6 := same_upd (p := p6) (o := .tup [V.int 0]) n6
    have e6 : (upd H5 p6 (.tup [V.int 0])) p6 = some (.tup [V.int 0]) := upd_same
    generalize upd H5 p6 (.tup [V.int 0]) = H6 at z6 e6 ⊢
    refine ⟨10, 40, rfl, rfl, ⟨by decide, by decide, by decide⟩, _, rfl, le_line (by simp), fun L1 nL1 => ?_⟩
    have z7 := same_upd (p := L1) (o := .lst [V.non, .bl true, .str "0", .ref p6, .int 0, .int 1, .int (-(10 ^ Int.toNat 40))]) nL1
    have e7 : (upd H6 L1 (.lst [V.non, .bl true, .str "0", .ref p6, .int 0, .int 1, .int (-(10 ^ Int.toNat 40))])) L1 = some (.lst [V.non, .bl true, .str "0", .ref p6, .int 0, .int 1, .int (-(10 ^ Int.toNat 40))]) := upd_same
    have z67 := z6.trans z7
    refine use_pick (C5.same z67) (by omega) e7 ((C5.same z6).ne nL1) (by simp) (by simp) fun r5 v5 c5 G5' hv C5' l5 g5 => ?_
    have eP : G5' p6 = some (.tup [V.int 0]) := g5.tu _ _ (z7 _ _ e6)
    obtain ⟨d5, sw5, vl5⟩ : ∃ d, Sw G5' v5 d ∧ Vl d := by
      have hv := List.mem_of_getElem? hv
      simp only [List.mem_cons, List.not_mem_nil, or_false] at hv
      rcases hv with rfl | rfl | rfl | rfl | rfl | rfl | rfl
      · exact ⟨_, .non, atm_non.vl⟩
      · exact ⟨_, .bl _, (atm_bool _).vl⟩
      · exact ⟨_, .str _, atm_zero.vl⟩
      · refine ⟨.tuple [.int 0], .tup eP (.cons (.int 0) .nil), rfl, ?_⟩
        exact (gd_tup (n := 240) (m := 0) fun x hxm => by rw [List.mem_singleton.mp hxm]; exact gd_int (by decide)).mono (by show 1 * 241 ≤ 300; decide) (by decide)
      · exact ⟨_, .int _, vl_int (by decide)⟩
      · exact ⟨_, .int _, vl_int (by decide)⟩
      · exact ⟨_, .int _, vl_int (by decide)⟩
    refine ⟨le_line (by simp), fun T2 nT2 => ?_⟩
    have z1 := same_upd (p := T2) (o := .tup [vk, v5]) nT2
    have eT2 : (upd G5' T2 (.tup [vk, v5])) T2 = some (.tup [vk, v5]) := upd_same
    generalize upd G5' T2 (.tup [vk, v5]) = H9 at z1 eT2 ⊢
    refine ⟨le_line (by simp), fun L2 nL2 => ?_⟩
    have z2 := same_upd (p := L2) (o := .lst [V.ref T2]) nL2
    have z12 := z1.trans z2
    exact addOne c5 _ T2 L2 vk v5 k d5 ((Gw.of z67).trans (g5.trans (Gw.of z12))) (C5'.same z12) (by omega) (z2 _ _ eT2) upd_same (MKeyAt.same z12 (MKeyAt.tupd g5.tu (MKeyAt.same z67 mk5))) (pt_pt3 kpt) (Sw.same z12 sw5) vl5
  rw [decide_eq_false (fun e => w_3 (V.int.inj e))]
  refine iteF ?_
  -- another number
  refine ⟨_, rfl, _, _, rfl, rfl, _, rfl, ?_⟩
  by_cases w_5 : wy < 6
  · rw [decide_eq_true w_5]
    obtain ⟨i, hi⟩ : ∃ i, lookI m k = some i := by
      refine lookI_some ?_
      have := congrArg (List.map fun p : NestedKey × V => p.1) r
      rw [List.map_map, List.map_map] at this
      rw [show m.map (·.1) = xs.map (·.1) from this.symm]
      exact hk
    have him : ∃ q ∈ m, q.2 = i := by
      clear r rr lx few pos rl
      have : ∀ m : List (NestedKey × Int), lookI m k = some i → ∃ q ∈ m, q.2 = i := fun m => by
        induction m with
        | nil => exact fun e => by cases e
        | cons q m ih =>
          intro e
          rw [lookI_cons] at e
          by_cases h : q.1 = k
          · rw [if_pos h] at e
            cases e
            exact ⟨q, List.mem_cons_self, rfl⟩
          · rw [if_neg h] at e
            obtain ⟨z, hz, ez⟩ := ih e
            exact ⟨z, List.mem_cons_of_mem _ hz, ez⟩
      exact this m hi
    obtain ⟨qq, hqq, eqq⟩ := him
    have ib := (nm.ok qq hqq).2
    rw [eqq] at ib
    have gv : mGet xs k = some (.int i) := by rw [get_look r, look_map, hi]; rfl
    refine iteT ⟨_, rfl, _, rfl, _, rfl, _, rfl, D, xs, k, _, rfl, Mg G5, mk5, pt_dep kpt, gv, _, rfl, ?_⟩
    (first | refine (use_tap (t := 5) C5 (by omega) (by decide) (by decide) fun r' c7' H8 r0' r1' C8 l8 g8 => ?_) | (show tNil _ _ _; unfold tNil; refine (use_tap (t := 5) C5 (by omega) (by decide) (by decide) fun r' c7' H8 r0' r1' C8 l8 g8 => ?_)) | ((try unfold tCons); (try unfold tNil); (try unfold tC); refine (use_tap (t := 5) C5 (by omega) (by decide) (by decide) fun r' c7' H8 r0' r1' C8 l8 g8 => ?_)))
    refine ⟨_, _, rfl, rfl, _, _, rfl, rfl, le_line (by simp), fun T2 nT2 => ?_⟩
    have z1 := same_upd (p := T2) (o := .tup [vk, .int (i + r' - 2)]) nT2
    have eT2 : (upd H8 T2 (.tup [vk, .int (i + r' - 2)])) T2 = some (.tup [vk, .int (i + r' - 2)]) := upd_same
    refine ⟨le_line (by simp), fun L2 nL2 => ?_⟩
    have z2 := same_upd (p := L2) (o := .lst [V.ref T2]) nL2
    have z12 := z1.trans z2
    refine addOne c7' _ T2 L2 vk (.int (i + r' - 2)) k (.int (i + r' - 2)) (g8.trans (Gw.of z12)) (C8.same z12) (by omega) (z2 _ _ eT2) upd_same (MKeyAt.same z12 (MKeyAt.tupd g8.tu mk5)) (pt_pt3 kpt) (.int _) (vl_int ?_)
    have : (10 : Nat) ^ 65 + 10 < 10 ^ 70 := by decide
    omega
  rw [decide_eq_false w_5]
  refine iteF ?_
  -- all one more
  refine ⟨_, rfl, rfl, _, rfl, ?_⟩
  by_cases w_6 : wy = 6
  · rw [decide_eq_true (by rw [w_6])]
    refine iteT ⟨_, rfl, p, rfl, ⟨_, SqL.of ep⟩, fun R nR => ?_⟩
    refine lc2_in (steady_l K p (ts.map V.ref)) (fun i H' => Same H5 H' ∧ ∃ us : List Addr, H' R = some (.lst (us.map V.ref)) ∧ us.length = i ∧ Paired (fun (t : Addr) (q : MRow) => H' t = some (.tup [q.2.1, q.2.2])) us ((xs.take i).map bumpR)) (fun j H' _ hP => SqL.of (hP.1 _ _ ep)) ⟨same_upd nR, [], upd_same, rfl, .nil⟩ (fun i x H6 hx hP => ?_) (fun H6 hP => ?_)
    · obtain ⟨s6, us, e6, lu, pu⟩ := hP
      rw [List.getElem?_map] at hx
      obtain ⟨t, ht, rfl⟩ := Option.map_eq_some_iff.mp hx
      obtain ⟨row, hrow, et⟩ := Paired.atL pr ht
      have et6 := s6 _ _ et
      obtain ⟨n, hn⟩ : ∃ n, row.2.2 = V.int n := by
        have : (row.1, row.2.2) ∈ m.map (fun p => (p.1, V.int p.2)) := by
          rw [← r]
          exact List.mem_map.mpr ⟨row, List.mem_of_getElem? hrow, rfl⟩
        obtain ⟨z, _, ez⟩ := List.mem_map.mp this
        exact ⟨_, (Prod.mk.inj ez).2.symm⟩
      rw [hn] at et6
      refine ⟨t, _, rfl, SqT.of et6, rfl, _, _, rfl, _, _, rfl, rfl, rfl, _, rfl, _, rfl, _, _, rfl, rfl, le_line (by simp), fun T2 nT2 => ?_⟩
      have z := same_upd (p := T2) (o := .tup [row.2.1, .int (n + 1)]) nT2
      have eT2 : (upd H6 T2 (.tup [row.2.1, .int (n + 1)])) T2 = some (.tup [row.2.1, .int (n + 1)]) := upd_same
      have hil : i < xs.length := (List.getElem?_eq_some_iff.mp hrow).1
      have nTR : T2 ≠ R := (ne_of_none e6 nT2).symm
      have e7 := z _ _ e6
      have pu' := prm_tup (H := H6) (H' := upd H6 T2 (.tup [row.2.1, .int (n + 1)])) (Same.tp z) pu
      have s7 := s6.trans z
      generalize upd H6 T2 (.tup [row.2.1, .int (n + 1)]) = H7 at z eT2 e7 pu' s7 ⊢
      have tR : Tup H7 (upd H7 R (.lst (us.map V.ref ++ [V.ref T2]))) := tup_upd fun zs e => by rw [e7] at e; cases e
      refine ⟨us.map V.ref, e7, by rw [List.length_map, sizeLine_eq]; omega, fun b o e => ?_, us ++ [T2], ?_, by rw [List.length_append]; simp; omega, ?_⟩
      · rw [upd_ne (ne_of_none e nR)]
        exact s7 _ _ e
      · rw [upd_same, List.map_append]
        rfl
      · rw [List.take_add_one, hrow, List.map_append]
        refine Paired.app (prm_tup tR pu') (.cons ?_ .nil)
        show (upd H7 R (.lst (us.map V.ref ++ [V.ref T2]))) T2 = some (.tup [(bumpR row).2.1, (bumpR row).2.2])
        rw [upd_ne nTR, eT2]
        unfold bumpR
        rw [hn]
    · obtain ⟨s6, us, e6, lu, pu⟩ := hP
      rw [List.length_map, lt, List.take_length] at pu
      have pk := prm_of (K := K) pu (fun x hx => by
        obtain ⟨z, hz, rfl⟩ := List.mem_map.mp hx
        exact key5 (G5.trans (Gw.of s6)) z hz)
      refine dict_good (R := rowsM (bumpM m)) e6 pk (ti_rows (bump_rows r)) (C5.same s6) (fun q hq => ?_) (fun q hq => ?_) (by unfold rowsM bumpM; rw [List.length_map, List.length_map]; omega) fun D' mm H7 s7 gv => fin c3 H5 D' mm H7 Gw.refl C5 (by omega) (s6.trans s7) gv
      · obtain ⟨z, hz, rfl⟩ := List.mem_map.mp hq
        obtain ⟨z', hz', rfl⟩ := List.mem_map.mp hz
        exact pt_pt3 (nm.ok z' hz').1
      · obtain ⟨z, hz, rfl⟩ := List.mem_map.mp hq
        obtain ⟨z', hz', rfl⟩ := List.mem_map.mp hz
        have := (nm.ok z' hz').2
        refine vl_int ?_
        show (z'.2 + 1).natAbs < 10 ^ 70
        have : (10 : Nat) ^ 65 + 10 < 10 ^ 70 := by decide
        omega
  rw [decide_eq_false (fun e => w_6 (V.int.inj e))]
  refine iteF ?_
  -- one of some
  refine ⟨_, rfl, _, rfl, le_line (by simp), fun p4 n4 => ?_⟩
  have t4 := same_upd (p := p4) (o := .tup []) n4
  have e4 : (upd H5 p4 (.tup [])) p4 = some (.tup []) := upd_same
  have u4 := t4
  generalize upd H5 p4 (.tup []) = H6 at t4 e4 u4 ⊢
  refine fun p5 n5 => ?_
  have ne5 := (C5.same u4).ne n5
  have t5 := same_upd (p := p5) (o := mDict w p5 []) n5
  have M5 : MD w (upd H6 p5 (mDict w p5 [])) p5 [] := ⟨upd_same, fun _ h => (nomatch h)⟩
  have u5 := u4.trans t5
  refine ⟨_, rfl, p, _, rfl, .inl ⟨SqL.of (u5 _ _ ep), fun p6 n6 => ?_⟩⟩
  have t6 := same_upd (p := p6) (o := .tup (ts.map V.ref)) n6
  have u6 := u5.trans t6
  refine ⟨_, rfl, le_line (by simp), fun L nL => ?_⟩
  have neL := (C5.same u6).ne nL
  have t7 := same_upd (p := L) (o := .lst [V.ref p, .non, .ref p4, .ref p5, .int 0, .str "numbers", .ref p6, .ref D]) nL
  have u7 := u6.trans t7
  have sw5 : SwAll H5 (ts.map V.ref) (m.map pairD) := items_sw pr r fun x hx => (key5 G5 x hx).1
  obtain ⟨pg, pn⟩ := pairs_gd nm
  have pl : (m.map pairD).length ≤ 9 := by rw [List.length_map]; exact few
  have b4 := t5.trans (t6.trans t7)
  have b5 := t6.trans t7
  refine pick_good (w := w) (C5.same u7) (by omega) upd_same neL (by simp) (by simp) (fun v hv => ?_) fun u n c' H' g C' l' gw => q u n c' H' g C' (by omega) (G5.trans ((Gw.of u7).trans gw))
  simp only [List.mem_cons, List.not_mem_nil, or_false] at hv
  rcases hv with rfl | rfl | rfl | rfl | rfl | rfl | rfl | rfl
  · exact ⟨.data (.list (m.map pairD)), .lst (u7 _ _ ep) (SwAll.same u7 sw5), ⟨fun e => pa (by injection e), pn⟩, True.intro, True.intro, (gd_lst pg).mono (Nat.le_trans (Nat.mul_le_mul_right _ pl) (by decide)) (by decide)⟩
  · exact ⟨.data .none, good_atm .non atm_non (fun _ e => nomatch e)⟩
  · exact ⟨_, (good_tup (xs := []) (.tup e4 .nil) (fun x hxm => nomatch hxm) (by decide)).same b4⟩
  · exact ⟨_, (good_new M5 ne5).same b5⟩
  · exact ⟨.data (.int 0), good_atm (.int 0) (atm_int (by decide)) (fun _ e => nomatch e)⟩
  · exact ⟨.data (.str "numbers"), .str _, rfl, True.intro, True.intro, (gd_str (by decide +kernel) (by decide +kernel)).mono (by decide) (by decide)⟩
  · exact ⟨.data (.tuple (m.map pairD)), .tup (t7 _ _ upd_same) (SwAll.same u7 sw5), pn, True.intro, by show (m.map pairD).length ≤ 1000; omega, (gd_tup pg).mono (Nat.le_trans (Nat.mul_le_mul_right _ pl) (by decide)) (by decide)⟩
  · refine ⟨.dict (rowsM m), good_dict (Mg (G5.trans (Gw.of u7))) Da rr ?_ (fun r hr => (rows_mem nm hr).1) (fun r hr => (rows_mem nm hr).2) (by omega)⟩
    unfold rowsM
    rw [List.map_map]
    exact nm.nd
end
end K11
end
section
set_option autoImplicit false
set_option maxRecDepth 100000
set_option maxHeartbeats 4000000
/-! _law_near_numbers: where the numbers are from -/
namespace K11
open PySem PySem.Spec PyProof.Rows L2 KX RZ StX
theorem merge_new : ∀ {rows acc : List MRow}, ((acc ++ rows).map (·.1)).Nodup → mMerge acc rows = acc ++ rows
  | [], acc, _ => by rw [List.append_nil]; rfl
  | r :: rows, acc, nd => by
    have e : mPut acc r.1 r.2.1 r.2.2 = acc ++ [r] := by
      unfold mPut
      rw [mGet_none (fun j hj => by
        have m1 : r.1 ∈ acc.map (·.1) := List.mem_of_getElem? hj
        rw [List.map_append, List.nodup_append] at nd
        exact nd.2.2 _ m1 _ (by rw [List.map_cons]; exact List.mem_cons_self) rfl)]
      rfl
    show mMerge (mPut acc r.1 r.2.1 r.2.2) rows = _
    rw [e, merge_new (by rw [List.append_assoc]; exact nd), List.append_assoc]
    rfl
def intV : V → Int
  | .int i => i
  | _ => 0
theorem num_fit {ds : List Dif} (ok : OkDs ds) {g : NestedKey → Int} (fb : ∀ p, -(180 * lim) ≤ g p ∧ g p ≤ 180 * lim) : NumM (rowsF ds g) := by
  have e : (rowsF ds g).map (·.1) = pointsOf ds := by
    unfold rowsF
    rw [List.map_map]
    exact (List.map_congr_left fun _ _ => rfl).trans (List.map_id _)
  refine ⟨by rw [e]; exact pts_nd ds, fun p hp => ?_, ?_, ?_⟩
  · unfold rowsF at hp
    obtain ⟨k, hk, rfl⟩ := List.mem_map.mp hp
    refine ⟨pts_pt ok hk, ?_⟩
    have := fb k
    show (g k).natAbs < 10 ^ 65
    have l : (180 * lim).natAbs < 10 ^ 65 := by decide +kernel
    omega
  · unfold rowsF
    rw [List.length_map]
    exact List.length_pos_of_mem (pts_zero ok)
  · unfold rowsF
    rw [List.length_map]
    exact pts_few ok
section
variable {P : Program} {w : World} {K : PySem.W.Frag} {mg : Str → Option Value} {base : Heap}
theorem ok_nn {f : Addr} {fd : FuncData} (F : Fun K "_law_near_numbers" "_law_near_numbers" sNn f fd) (B : Free mg) (mD : mg "dict" = none) (Fi : Fnc P w K mg base CX0 7 "fitting" ["differences"] (spFit w)) (Tp : Fnc P w K mg base CX0 1 "_law_told_points" ["_law_differences_here"] spTp)
    (Ta : Fnc P w K mg base CX0 1 "_law_tap" ["_law_keg", "_law_total"] spFish) (Pi : Fnc P w K mg base CX0 2 "_law_pick" ["_law_keg", "_law_items"] spOne) : FnOk P w K mg base CX0 8 f fd ["_law_keg", "_law_differences_here"] (spNear w) := by
  refine F.ok scNn (fun vs H Q E h => ?_) (fun cdv A outer s H vs Q E hr h => ?_)
  · obtain ⟨a, y, c, v, ds, rfl, _⟩ := h
    rfl
  obtain ⟨a, y, c, v, ds, rfl, C, hc, hd, dr, q⟩ := h
  have hu := hr.units
  have ok := dr.ok
  refine ⟨_, (pss_cons (ps_set (i := 2) scNn.nd rfl (.inl rfl) (pe_fnc Fi hr (by omega) (by rfl) pass0 (pa_cons (pv 1) pa_nil))) <|
    pss_cons (ps_if (pt_cmpR op_isN1 (pv 2) pe_non (nomark _)) (pss_one (ps_set (i := 2) scNn.nd rfl (.inl rfl) (pe_callTy (call_dictM rfl hu) (by rfl) mD (by decide +kernel) (pa_cons (pe_lc (own := [("_law_point", 3)]) (g := gName 3) (tt := tYes) (te := tTup (tCons (tVar 3) (tCons (tOp (rI0 fun i j => .int (i - j)) (tCall spFish [] E0 (tCons (tVar 0) (tCons (tC (.int 5)) tNil))) (tC (.int 2))) tNil))) rfl scNn.nd (pi_list (pe_fnc Tp hr (by omega) (by rfl) pass0 (pa_cons (pv 1) pa_nil))) (blkOk_by (N := nNn) (sc := defScope sNn) (by decide +kernel))
      (fun _ _ _ _ _ => pg_name (i := 3) scNn.nd rfl (Or.inl rfl) (Or.inr rfl)) (fun _ _ _ _ _ => pts_nil) (fun _ _ _ _ _ => pe_tup (pa_cons (pv 3) (pa_cons (pe_op op_sub (pe_fnc Ta hr (by omega) (by rfl) pass0 (pa_cons (pv 0) (pa_cons pe_int pa_nil))) pe_int) pa_nil)))) pa_nil)))) pss_nil) <|
    nn_rest hr B mD Ta Pi : PSs (NnX P w K mg base f cdv A outer s H E).nox (defBody sNn) _), ?_⟩
  refine ⟨_, rfl, v, ds, rfl, hd, ok, fun H1 rg s1 => ?_, fun g D H1 hg g0 fb s1 nD T => ?_⟩
  · refine ⟨_, rfl, rfl, _, rfl, ?_⟩
    rw [decide_eq_true rfl]
    have C1 := C.same s1
    refine iteT ⟨_, rfl, v, ds, rfl, hd.same s1, ok, fun p us H2 s2 np ep kp => ⟨p, rfl, ⟨_, SqL.of ep⟩, fun R nR => ?_⟩⟩
    have lu := kp.len
    have few := told_few ok
    have C2 := C1.same s2
    have Ra := C2.ne nR
    have pa : p ≠ a := C1.ne np
    have sR := same_upd (p := R) (o := .lst []) nR
    have epR : ∀ {H' : Hp}, Gw a H2 H' → SqL K H' p us := fun g => SqL.of (g.at_ pa ep)
    refine lc2_in (steady_l K p us) (fun i H' => ∃ (c' : Int) (ts : List Addr) (rows : List MRow), CrAt H' a y c' ∧ c' ≤ c + i ∧ Gw a H2 H' ∧ H' R = some (.lst (ts.map V.ref)) ∧ Paired (fun (t : Addr) (q : MRow) => H' t = some (.tup [q.2.1, q.2.2])) ts rows ∧ rows.map (·.1) = (toldPts ds).take i ∧ ∀ x ∈ rows, MKeyAt H' x.1 x.2.1 ∧ ∃ n : Int, x.2.2 = .int n ∧ n.natAbs < 1000)
      (fun j H' _ hP => by obtain ⟨_, _, _, _, _, g, _⟩ := hP; exact epR g) ⟨c, [], [], C2.same sR, by omega, Gw.of sR, upd_same, .nil, rfl, fun _ h => (nomatch h)⟩ (fun i x H3 hx hP => ?_) (fun H3 hP => ?_)
    · obtain ⟨c3, ts, rows, C3, l3, g3, e3, pr, rk, ri⟩ := hP
      obtain ⟨k, hk, m0⟩ := MKeysAt.to kp hx
      have il : i < (toldPts ds).length := (List.getElem?_eq_some_iff.mp hk).1
      refine ⟨rfl, _, rfl, _, rfl, ?_⟩
      (first | refine (use_tap (t := 5) C3 (by omega) (by decide) (by decide) fun r c4 H4 r0 r1 C4 l4 g4 => ?_) | (show tNil _ _ _; unfold tNil; refine (use_tap (t := 5) C3 (by omega) (by decide) (by decide) fun r c4 H4 r0 r1 C4 l4 g4 => ?_)) | ((try unfold tCons); (try unfold tNil); (try unfold tC); refine (use_tap (t := 5) C3 (by omega) (by decide) (by decide) fun r c4 H4 r0 r1 C4 l4 g4 => ?_)))
      refine ⟨_, _, rfl, rfl, le_line (by simp), fun T nT => ?_⟩
      have z := same_upd (p := T) (o := .tup [x, .int (r - 2)]) nT
      have eT : (upd H4 T (.tup [x, .int (r - 2)])) T = some (.tup [x, .int (r - 2)]) := upd_same
      have e4 := g4.at_ Ra e3
      have nTR : T ≠ R := (ne_of_none e4 nT).symm
      have e5 := z _ _ e4
      have C5 := C4.same z
      have G5 : Gw a H2 (upd H4 T (.tup [x, .int (r - 2)])) := g3.trans (g4.trans (Gw.of z))
      have t35 : Tup H3 (upd H4 T (.tup [x, .int (r - 2)])) := g4.tu.trans (Same.tp z)
      generalize upd H4 T (.tup [x, .int (r - 2)]) = H5 at z eT e5 C5 G5 t35 ⊢
      have tR : Tup H5 (upd H5 R (.lst (ts.map V.ref ++ [V.ref T]))) := tup_upd fun zs e => by rw [e5] at e; cases e
      have lt : ts.length = i := by
        have a1 := Paired.length pr
        have a2 := congrArg List.length rk
        rw [List.length_map, List.length_take] at a2
        omega
      refine ⟨ts.map V.ref, e5, by rw [List.length_map, sizeLine_eq]; omega, c4, ts ++ [T], rows ++ [(k, x, .int (r - 2))], ?_, by omega, ?_, ?_, ?_, ?_, fun q hq => ?_⟩
      · obtain ⟨zz, e, CC⟩ := C5
        exact ⟨zz, by rw [upd_ne Ra.symm]; exact e, CC⟩
      · refine ⟨fun b o nb e => ?_, G5.tu.trans tR⟩
        rw [upd_ne (ne_of_none e nR)]
        exact G5.gr b o nb e
      · rw [upd_same, List.map_append]
        rfl
      · refine Paired.app (prm_tup (t35.trans tR) pr) (.cons ?_ .nil)
        rw [upd_ne nTR]
        exact eT
      · rw [List.map_append, rk, List.take_add_one, hk]
        rfl
      · rcases List.mem_append.mp hq with h | h
        · exact ⟨MKeyAt.tupd (t35.trans tR) (ri q h).1, (ri q h).2⟩
        · rw [List.mem_singleton.mp h]
          exact ⟨MKeyAt.tupd (G5.tu.trans tR) m0, _, rfl, by omega⟩
    · obtain ⟨c3, ts, rows, C3, l3, g3, e3, pr, rk, ri⟩ := hP
      rw [lu, List.take_length] at rk
      have lr : rows.length = (toldPts ds).length := by rw [← rk, List.length_map]
      have tp : ∀ x ∈ rows, x.1 ∈ PTS := fun x hx => told_pt ok (by rw [← rk]; exact List.mem_map.mpr ⟨x, hx, rfl⟩)
      refine ⟨R, ts, rows, rfl, SqL.of e3, prm_of pr (fun x hx => ⟨(ri x hx).1, pt_dep (tp x hx)⟩), by rw [sizeLine_eq]; omega, fun D nD => ?_⟩
      rw [merge_new (by rw [List.nil_append, rk]; exact told_nd ds), List.nil_append]
      have s4 := same_upd (p := D) (o := mDict w D rows) nD
      refine ⟨a, y, c3, v, D, rows.map fun x => (x.1, intV x.2.2), rfl, C3.same s4, by omega, ⟨rows, ⟨upd_same, fun x hx => MKeyAt.same s4 (ri x hx).1⟩, ?_⟩, ⟨?_, fun z hz => ?_, ?_, ?_⟩, fun u n c' H' g C' l' gw => q u n c' H' g C' (by omega) ((Gw.of (s1.trans s2)).trans (g3.trans ((Gw.of s4).trans gw)))⟩
      · rw [List.map_map]
        refine List.map_congr_left fun x hx => ?_
        obtain ⟨n, hn, _⟩ := (ri x hx).2
        show (x.1, x.2.2) = (x.1, V.int (intV x.2.2))
        rw [hn]
        rfl
      · rw [List.map_map]
        rw [show (rows.map ((·.1) ∘ fun x : MRow => (x.1, intV x.2.2))) = rows.map (·.1) from rfl, rk]
        exact told_nd ds
      · obtain ⟨x, hx, rfl⟩ := List.mem_map.mp hz
        obtain ⟨n, hn, l⟩ := (ri x hx).2
        refine ⟨tp x hx, ?_⟩
        show (intV x.2.2).natAbs < 10 ^ 65
        rw [hn]
        have : (1000 : Nat) < 10 ^ 65 := by decide
        show n.natAbs < _
        omega
      · rw [List.length_map, lr]
        have := told_len ok
        have := List.length_pos_of_mem (pts_zero ok)
        omega
      · rw [List.length_map, lr]
        exact few
  · refine ⟨_, rfl, rfl, _, rfl, ?_⟩
    rw [decide_eq_false (show ¬ V.ref D = V.non from fun e => nomatch e)]
    exact iteF ⟨a, y, c, v, D, rowsF ds g, rfl, C.same s1, by omega, T, num_fit ok fb, fun u n c' H' gv C' l' gw => q u n c' H' gv C' (by omega) ((Gw.of s1).trans gw)⟩
end
end K11
end
section
set_option autoImplicit false
set_option maxRecDepth 100000
set_option maxHeartbeats 4000000
/-! what runs with no repr underway -/
namespace K11
open PySem PySem.Spec PyProof.Rows L2 KX RZ StX
/-- a promise of a def that runs with no repr underway -/
def RunG (P : Program) (w : World) (K : PySem.W.Frag) (mg : Str → Option Value) (base : Heap) (k : Nat) (f : Addr) (fd : FuncData) (ps : List Str) (sp : Sp) : Prop :=
  ∀ (A : Around) (outer : List Env) (s : Shared) (H : Hp) (args : Args) (us : List Value) (vs : List V) (Q : VK) (E : XK), A.guards = some [] → Room k A → Env0 P w K mg base A outer s H → BindsTo s fd args (ps.zip us) → Vals vs us → vs.length = ps.length → sp vs H Q E →
    codeAny (model P w) A (.call (.ref f) args) (CR CX0 outer P w H s Q E) s
theorem Fun.okG {P : Program} {w : World} {K : PySem.W.Frag} {mg : Str → Option Value} {base : Heap} {x qual : Str} {st : Stmt} {f : Addr} {fd : FuncData} {N ps : List Str} {k : Nat} {sp : Sp} (F : Fun K x qual st f fd) (S : FnScope N ps (defScope st))
    (hbody : ∀ (cdv : Value) (A : Around) (outer : List Env) (s : Shared) (H : Hp) (vs : List V) (Q : VK) (E : XK), (A.deeper (envOfC qual (defScope st) s.heap.objs.size f cdv)).guards = some [] → Room k (A.deeper (envOfC qual (defScope st) s.heap.objs.size f cdv)) → sp vs H Q E →
      ∃ t, PSs (cxOf CX0 P w K mg base N qual (defScope st) f cdv A outer s H E).nox (defBody st) t ∧ t { nx := fun _ H' => Q .non H', rt := Q } (L2.start N vs) H) : RunG P w K mg base (k + 1) f fd ps sp := by
  obtain ⟨oc, od, kV, doc, pm, an, cdv, ct, osl, rfl, lk, hcd⟩ := F.ex
  intro A outer s H args us vs Q E hG hr e0 hb r hl hsp
  refine LamX.run_ofS (N := N) lk hcd S hr e0 hb r hl fun hr' => ?_
  obtain ⟨t, h, q⟩ := hbody cdv A outer s H vs Q E hG hr' hsp
  exact ⟨t, h.nox, q⟩
/-- a def of the module with such a promise -/
structure FncG (P : Program) (w : World) (K : PySem.W.Frag) (mg : Str → Option Value) (base : Heap) (k : Nat) (x : Str) (ps : List Str) (sp : Sp) : Prop where
  ex : ∃ (f : Addr) (fd : FuncData), RunG P w K mg base k f fd ps sp ∧ Binds K fd ps [] ∧ mg x = some (.ref f) ∧ PySem.W.keepIn K (.ref f) = true
section
variable {X : Cx} {k j : Nat} {ps : List Str} {sp : Sp} {x : Str} {p pos : Pos} {e : Expr} {es : List Expr} {t : TA}
def tCallG (n : Nat) (sp : Sp) (t : TA) : TE := fun σ H Q => t σ H fun vs H1 => vs.length = n ∧ sp vs H1 Q E0
theorem pe_fncG (F : FncG X.prog X.w X.K X.mg X.base k x ps sp) (hG : X.A.guards = some []) (hr : Room j X.A) (hk : k ≤ j) (hg : Gl X x) (ha : PA X (e :: es) t)
    (hdb : (x == ("__debug__" : Str)) = false := by decide) (he : starEach (e :: es) X.env = (false, eval e X.env) :: starEach es X.env := by rfl) (hpl : (backTo pos (starEach es X.env)).any (·.1) = false := by rfl) :
    PE X (.Call (.Name x p) (e :: es) [] pos) (tCallG ps.length sp t) := by
  obtain ⟨f, fd, F, hb, hm, hk2⟩ := F.ex
  refine ⟨fun pins s σ H Q I h => ?_⟩
  refine wpAny_Call_Name_kw (ld_glob I hg hm ?_ hdb)
  refine PySem.W.callWith_K (h₀ := X.base) I.ok.mod.kin hk2 (thn (ha.run pos pins s σ H _ I h) fun us s1 ⟨vs, H1, I1, r, hl, q⟩ => ⟨I1.kIn, ?_⟩) he hpl
  have bt : BindsTo s1 fd ⟨us, []⟩ (ps.zip us) := by
    have z := hb s1 us I1.kIn (by rw [List.append_nil, ← r.length]; exact hl)
    rw [List.append_nil] at z
    exact z
  refine wpAny_call (codeAny_mono (F X.A X.stack s1 H1 ⟨us, []⟩ us vs Q E0 hG (hr.mono hk) I1.env0 bt r hl q) fun o s' hq => ?_)
  match o, hq with
  | .ok (.ret u), hq => exact I1.after hq
  | .ok .next, hq => exact False.elim hq
  | .ok .brk, hq => exact False.elim hq
  | .ok .cont, hq => exact False.elim hq
  | .error u, hq => exact False.elim hq
end
end K11
end
section
set_option autoImplicit false
set_option maxRecDepth 100000
set_option maxHeartbeats 4000000
/-! != of two lists of the same texts and numbers -/
namespace KX
open PySem PySem.Spec PyProof.Rows L2 PySem.SeqAt
def rNeF (K : PySem.W.Frag) : R2 := fun x y H Q => ∃ a b xs, x = .ref a ∧ y = .ref b ∧ SqL K H a xs ∧ SqL K H b xs ∧ (∀ z ∈ xs, flatB z = true) ∧ Q (.bl false) H
theorem op_neF {X : Cx} (hu : X.A.units + 64 < cLine) : OpR X (compareOp .NotEq) (rNeF X.K) := by
  intro pins s σ H x y v u Q I rx ry h
  obtain ⟨a, b, xs, rfl, rfl, h1, h2, hf, q⟩ := h
  cases rx
  cases ry
  obtain ⟨us, r1, p1, _⟩ := I.list h1
  obtain ⟨ws, r2, p2, _⟩ := I.list h2
  have hsz : us.toArray.size = ws.toArray.size := by
    rw [List.size_toArray, List.size_toArray, ← r1.length, ← r2.length]
  refine RcNeAt.lists (e := fun _ => true) p1.isList p2.isList hsz (by omega) (fun j h1 h2 => ?_) X.prog X.w _ _ ?_
  · have hj : j < xs.length := by rw [r1.length]; simpa using h1
    obtain ⟨u1, e1, f1⟩ := r1.get (List.getElem?_eq_getElem hj)
    obtain ⟨u2, e2, f2⟩ := r2.get (List.getElem?_eq_getElem hj)
    have g1 : us.toArray[j] = u1 := by
      rw [List.getElem?_eq_getElem (by simpa using h1)] at e1
      simpa using e1
    have g2 : ws.toArray[j] = u2 := by
      rw [List.getElem?_eq_getElem (by simpa using h2)] at e2
      simpa using e2
    rw [g1, g2]
    exact eqAt_same f1 f2 (hf _ (List.getElem_mem hj))
  · rw [show ((List.range us.toArray.size).all fun _ => true) = true from List.all_eq_true.mpr fun _ _ => rfl]
    exact ⟨.bl false, H, I, rfl, q⟩
end KX
end
section
set_option autoImplicit false
set_option maxRecDepth 100000
set_option maxHeartbeats 4000000
/-! _law_right -/
namespace K11
open PySem PySem.Spec PyProof.Rows L2 KX RZ StX
abbrev nRi : List Str := ["_law_keg", "_law_differences_here", "_law_turn", "_law_numbers", "_law_rows", "_law_told", "_law_due"]
theorem scRi : FnScope nRi ["_law_keg"] (defScope sRi) := ⟨rfl, rfl, rfl, by decide +kernel, rfl, by decide +kernel, by decide +kernel⟩
def spRi : Sp := fun vs H Q _ => ∃ (a : Addr) (y c : Int), vs = [.ref a] ∧ CrAt H a y c ∧ c ≤ 800000 ∧ ∀ (c' : Int) (H' : Hp), CrAt H' a y c' → c' ≤ c + 200 → Gw a H H' → Q (.bl true) H'
theorem GoodV.pl {w : World} {a : Addr} {H : Hp} {u : V} {n : NV} (g : GoodV w a H u n) : plN n := by
  have ap := g.ap
  cases n with
  | data d => exact True.intro
  | dict rows => exact ap.2
theorem gd_b (b : Bool) : Gd 100000 50 (dataN (.data (.bool b))) := (gd_bool b).mono (by decide) (by decide)
section
variable {P : Program} {w : World} {K : PySem.W.Frag} {mg : Str → Option Value} {base : Heap}
theorem ok_ri {f : Addr} {fd : FuncData} (F : Fun K "_law_right" "_law_right" sRi f fd) (B : Free mg) (mR : mg "repr" = none) (Dfs : Fnc P w K mg base CX0 3 "_law_differences" ["_law_keg"] spDfs) (Nn : Fnc P w K mg base CX0 8 "_law_near_numbers" ["_law_keg", "_law_differences_here"] (spNear w)) (Nr : Fnc P w K mg base CX0 8 "_law_near_ring" ["_law_keg", "_law_differences_here"] (spNear w))
    (Lif : Fnc P w K mg base CX0 2 "_law_is_fitting" ["_law_differences_here", "_law_value"] (spFtg w)) (Lir : Fnc P w K mg base CX0 1 "_law_is_ring" ["_law_differences_here", "_law_value"] (spIrg w)) (Ftg : Fnc P w K mg base CX0 7 "is_fitting" ["differences", "value"] (spFtg w)) (Irg : Fnc P w K mg base CX0 7 "is_ring" ["differences", "value"] (spIrg w)) :
    RunG P w K mg base 9 f fd ["_law_keg"] spRi := by
  refine Fun.okG F scRi fun cdv A outer s H vs Q E hG hr h => ?_
  obtain ⟨a, y, c, rfl, C, hc, q⟩ := h
  have hu := hr.units
  refine ⟨_, pss_cons (ps_set (i := 1) scRi.nd rfl (.inl rfl) (pe_fnc Dfs hr (by omega) (by rfl) pass0 (pa_cons (pv 0) pa_nil))) <|
    pss_cons (ps_for PassesOwn.never rfl (pi_range1 (by rfl) B.range (pa_cons pe_int pa_nil)) (pg_name (i := 2) scRi.nd rfl (Or.inl rfl))
      (pss_cons (ps_par (i := 3) (j := 4) rfl scRi.nd rfl rfl (by decide) rfl rfl (pa_cons (pe_fnc Nn hr (by omega) (by rfl) pass0 (pa_cons (pv 0) (pa_cons (pv 1) pa_nil))) (pa_cons (pe_fnc Nr hr (by omega) (by rfl) pass0 (pa_cons (pv 0) (pa_cons (pv 1) pa_nil))) pa_nil)) (by rfl)) <|
        pss_cons (ps_set (i := 5) scRi.nd rfl (.inl rfl) (pe_lst (pa_cons (pe_callB (call_reprV hG hu) (by rfl) mR (by decide +kernel) (pa_cons (pv 3) pa_nil)) (pa_cons (pe_callB (call_reprV hG hu) (by rfl) mR (by decide +kernel) (pa_cons (pv 4) pa_nil)) pa_nil)))) <|
        pss_cons (ps_set (i := 6) scRi.nd rfl (.inl rfl) (pe_lst (pa_cons (pe_callB (call_reprV hG hu) (by rfl) mR (by decide +kernel) (pa_cons (pe_fnc Lif hr (by omega) (by rfl) pass0 (pa_cons (pv 1) (pa_cons (pv 3) pa_nil))) pa_nil)) (pa_cons (pe_callB (call_reprV hG hu) (by rfl) mR (by decide +kernel) (pa_cons (pe_fnc Lir hr (by omega) (by rfl) pass0 (pa_cons (pv 1) (pa_cons (pv 4) pa_nil))) pa_nil)) pa_nil)))) <|
        pss_cons (ps_if (pt_cmpR (op_neF hu) (pe_lst (pa_cons (pe_callB (call_reprV hG hu) (by rfl) mR (by decide +kernel) (pa_cons (pe_fnc Ftg hr (by omega) (by rfl) pass0 (pa_cons (pv 1) (pa_cons (pv 3) pa_nil))) pa_nil)) (pa_cons (pe_callB (call_reprV hG hu) (by rfl) mR (by decide +kernel) (pa_cons (pe_fnc Irg hr (by omega) (by rfl) pass0 (pa_cons (pv 1) (pa_cons (pv 4) pa_nil))) pa_nil)) pa_nil))) (pv 6) (nomark _)) (pss_one (ps_ret pe_bl)) pss_nil) <|
        pss_one (ps_if (pt_cmpR (op_neF hu) (pe_lst (pa_cons (pe_callB (call_reprV hG hu) (by rfl) mR (by decide +kernel) (pa_cons (pv 3) pa_nil)) (pa_cons (pe_callB (call_reprV hG hu) (by rfl) mR (by decide +kernel) (pa_cons (pv 4) pa_nil)) pa_nil))) (pv 5) (nomark _)) (pss_one (ps_ret pe_bl)) pss_nil))) <|
    pss_one (ps_ret pe_bl), ?_⟩
  refine ⟨_, rfl, a, y, c, rfl, C, by omega, fun v ds c1 H1 dr d1 C1 l1 g1 => ?_⟩
  have ok := dr.ok
  refine ⟨4, rfl, by omega, by omega, ?_⟩
  refine for_range (n := 4) (fun i σ' H' => (∃ (t2 t3 t4 t5 t6 : Option V), σ' = [some (.ref a), some v, t2, t3, t4, t5, t6]) ∧ Gw a H1 H' ∧ ∃ c', CrAt H' a y c' ∧ c' ≤ c1 + 40 * (i : Int)) ⟨⟨none, none, none, none, none, rfl⟩, Gw.refl, c1, C1, by omega⟩ (fun i σ' H2 hi hP => ?_) (fun σ' H2 hP => ?_)
  · obtain ⟨⟨t2, t3, t4, t5, t6, rfl⟩, g2, c2, C2, l2⟩ := hP
    have d2 : Ds H2 v ds := d1.tup g2.tu
    refine ⟨_, rfl, _, rfl, a, y, c2, v, ds, rfl, C2, by omega, d2, dr, fun u n c3 H3 G3 C3 l3 g3 => ?_⟩
    have d3 : Ds H3 v ds := d2.tup g3.tu
    refine ⟨_, rfl, _, rfl, a, y, c3, v, ds, rfl, C3, by omega, d3, dr, fun u' n' c4 H4 G4' C4 l4 g4 => ?_⟩
    have G3' := G3.gw g4
    have d4 : Ds H4 v ds := d3.tup g4.tu
    refine ⟨_, _, rfl, ?_⟩
    -- what they show
    refine ⟨_, rfl, u, n, rfl, G3'.at_, G3'.pl, G3'.gd, _, rfl, u', n', rfl, G4'.at_, G4'.pl, G4'.gd, le_line (by simp), fun L1 nL1 => ?_⟩
    have s5 := same_upd (p := L1) (o := .lst [.str (dataN n).shown, .str (dataN n').shown]) nL1
    have e5 : (upd H4 L1 (.lst [.str (dataN n).shown, .str (dataN n').shown])) L1 = some (.lst [.str (dataN n).shown, .str (dataN n').shown]) := upd_same
    generalize upd H4 L1 (.lst [.str (dataN n).shown, .str (dataN n').shown]) = H5 at s5 e5 ⊢
    have hG := G3'
    -- what the law finds
    refine ⟨_, rfl, _, rfl, v, u, ds, n, rfl, d4.same s5, ok, G3'.at_.same s5, G3'.okn, fun H6 s6 => ?_⟩
    refine ⟨.bl (fitN ds n), .data (.bool (fitN ds n)), rfl, .bl _, True.intro, gd_b _, ?_⟩
    have s56 := s5.trans s6
    refine ⟨_, rfl, _, rfl, v, u', ds, n', rfl, d4.same s56, ok, G4'.at_.same s56, G4'.sm, fun H7 s7 => ?_⟩
    refine ⟨.bl (ringN ds n'), .data (.bool (ringN ds n')), rfl, .bl _, True.intro, gd_b _, le_line (by simp), fun L2 nL2 => ?_⟩
    have s57 := s56.trans s7
    have s8 := same_upd (p := L2) (o := .lst [.str (dataN (.data (.bool (fitN ds n)))).shown, .str (dataN (.data (.bool (ringN ds n')))).shown]) nL2
    have e8 : (upd H7 L2 (.lst [.str (dataN (.data (.bool (fitN ds n)))).shown, .str (dataN (.data (.bool (ringN ds n')))).shown])) L2 = some (.lst [.str (dataN (.data (.bool (fitN ds n)))).shown, .str (dataN (.data (.bool (ringN ds n')))).shown]) := upd_same
    generalize upd H7 L2 (.lst [.str (dataN (.data (.bool (fitN ds n)))).shown, .str (dataN (.data (.bool (ringN ds n')))).shown]) = H8 at s8 e8 ⊢
    have s58 := s57.trans s8
    -- what the program finds
    refine ⟨_, rfl, _, rfl, v, u, ds, n, rfl, d4.same s58, ok, G3'.at_.same s58, G3'.okn, fun H9 s9 => ?_⟩
    refine ⟨.bl (fitN ds n), .data (.bool (fitN ds n)), rfl, .bl _, True.intro, gd_b _, ?_⟩
    have s59 := s58.trans s9
    refine ⟨_, rfl, _, rfl, v, u', ds, n', rfl, d4.same s59, ok, G4'.at_.same s59, G4'.sm, fun H10 s10 => ?_⟩
    refine ⟨.bl (ringN ds n'), .data (.bool (ringN ds n')), rfl, .bl _, True.intro, gd_b _, le_line (by simp), fun L3 nL3 => ?_⟩
    have s510 := s59.trans s10
    have s11 := same_upd (p := L3) (o := .lst [.str (dataN (.data (.bool (fitN ds n)))).shown, .str (dataN (.data (.bool (ringN ds n')))).shown]) nL3
    have s511 := s510.trans s11
    have e8' := (s9.trans (s10.trans s11)) _ _ e8
    have e11 : (upd H10 L3 (.lst [.str (dataN (.data (.bool (fitN ds n)))).shown, .str (dataN (.data (.bool (ringN ds n')))).shown])) L3 = some (.lst [.str (dataN (.data (.bool (fitN ds n)))).shown, .str (dataN (.data (.bool (ringN ds n')))).shown]) := upd_same
    generalize upd H10 L3 (.lst [.str (dataN (.data (.bool (fitN ds n)))).shown, .str (dataN (.data (.bool (ringN ds n')))).shown]) = H11 at s11 e11 s511 e8' ⊢
    refine ⟨_, rfl, L3, L2, _, rfl, rfl, SqL.of e11, SqL.of e8', (fun z hz => by
      simp only [List.mem_cons, List.not_mem_nil, or_false] at hz
      rcases hz with rfl | rfl <;> rfl), false, rfl, iteF ?_⟩
    -- nothing is changed
    refine ⟨_, rfl, u, n, rfl, G3'.at_.same s511, G3'.pl, G3'.gd, _, rfl, u', n', rfl, G4'.at_.same s511, G4'.pl, G4'.gd, le_line (by simp), fun L4 nL4 => ?_⟩
    have s12 := same_upd (p := L4) (o := .lst [.str (dataN n).shown, .str (dataN n').shown]) nL4
    have s512 := s511.trans s12
    have e5' := (s6.trans (s7.trans (s8.trans (s9.trans (s10.trans (s11.trans s12)))))) _ _ e5
    refine ⟨_, rfl, L4, L1, _, rfl, rfl, SqL.of upd_same, SqL.of e5', (fun z hz => by
      simp only [List.mem_cons, List.not_mem_nil, or_false] at hz
      rcases hz with rfl | rfl <;> rfl), false, rfl, iteF ?_⟩
    exact ⟨⟨_, _, _, _, _, rfl⟩, g2.trans (g3.trans (g4.trans (Gw.of s512))), c4, C4.same s512, by omega⟩
  · obtain ⟨⟨t2, t3, t4, t5, t6, rfl⟩, g2, c2, C2, l2⟩ := hP
    exact q c2 H2 C2 (by omega) (g1.trans g2)
end
end K11
end
section
set_option autoImplicit false
set_option maxRecDepth 100000
set_option maxHeartbeats 4000000
/-! == of two lists of the same values; {k: v, ..} with three written texts as keys -/
namespace KX
open PySem PySem.Spec PyProof.Rows L2 PySem.SeqAt
def rEqF (K : PySem.W.Frag) : R2 := fun x y H Q => ∃ a b xs, x = .ref a ∧ y = .ref b ∧ SqL K H a xs ∧ SqL K H b xs ∧ (∀ z ∈ xs, flatB z = true) ∧ Q (.bl true) H
theorem op_eqF {X : Cx} (hu : X.A.units + 64 < cLine) : OpR X (compareOp .Eq) (rEqF X.K) := by
  intro pins s σ H x y v u Q I rx ry h
  obtain ⟨a, b, xs, rfl, rfl, h1, h2, hf, q⟩ := h
  cases rx
  cases ry
  obtain ⟨us, r1, p1, _⟩ := I.list h1
  obtain ⟨ws, r2, p2, _⟩ := I.list h2
  have hsz : us.toArray.size = ws.toArray.size := by
    rw [List.size_toArray, List.size_toArray, ← r1.length, ← r2.length]
  refine RcAt.lists (e := fun _ => true) p1.isList p2.isList hsz (by omega) (fun j h1 h2 => ?_) X.prog X.w _ _ ?_
  · have hj : j < xs.length := by rw [r1.length]; simpa using h1
    obtain ⟨u1, e1, f1⟩ := r1.get (List.getElem?_eq_getElem hj)
    obtain ⟨u2, e2, f2⟩ := r2.get (List.getElem?_eq_getElem hj)
    have g1 : us.toArray[j] = u1 := by
      rw [List.getElem?_eq_getElem (by simpa using h1)] at e1
      simpa using e1
    have g2 : ws.toArray[j] = u2 := by
      rw [List.getElem?_eq_getElem (by simpa using h2)] at e2
      simpa using e2
    rw [g1, g2]
    exact eqAt_same f1 f2 (hf _ (List.getElem_mem hj))
  · rw [show ((List.range us.toArray.size).all fun _ => true) = true from List.all_eq_true.mpr fun _ _ => rfl]
    exact ⟨.bl true, H, I, rfl, q⟩
def rT (z : Str) (i : Int) : MRow := (.text z, .str z, .int i)
def tM3 (w : World) (z1 z2 z3 : Str) (i1 i2 i3 : Int) : TE := fun _ H Q => ∀ p, H p = none → Q (.ref p) (upd H p (mDict w p (mMerge [] [rT z1 i1, rT z2 i2, rT z3 i3])))
theorem pe_m3 {X : Cx} {pos q1 q2 q3 p1 p2 p3 : Pos} {z1 z2 z3 : Str} {i1 i2 i3 : Int} {a1 a2 a3 b1 b2 b3 : Nat} (hu : X.A.units + 64 < cLine) :
    PE X (.Dict [some (.Constant (.str z1) a1 q1), some (.Constant (.str z2) a2 q2), some (.Constant (.str z3) a3 q3)] [.Constant (.int i1) b1 p1, .Constant (.int i2) b2 p2, .Constant (.int i3) b3 p3] pos) (tM3 X.w z1 z2 z3 i1 i2 i3) := by
  refine ⟨fun pins s σ H Q I q => ?_⟩
  have hn := I.hok.fresh (Nat.le_refl s.heap.objs.size)
  have I1 : Inv X pins σ (upd H s.heap.objs.size (mDict X.w s.heap.objs.size [])) { s with heap := s.heap.push { cls := .type "dict", data := .dict #[] } } :=
    I.laid (a := s.heap.objs.size) (o := mDict X.w s.heap.objs.size []) (t' := s.toks) (fun _ _ q => Heap.get?_push_of_some _ q) (Nat.le_refl _) (mObj ⟨⟨_, #[], 0, Heap.get?_push_size _ rfl, ⟨rfl, rfl, rfl⟩, rfl, .nil⟩, List.nodup_nil, fun _ h => (nomatch h), beq_eq_false_iff_ne.mpr (Ne.symm (Nat.ne_of_lt I.big)), Nat.zero_le _⟩)
  have pp : PPs X pos [some (.Constant (.str z1) a1 q1), some (.Constant (.str z2) a2 q2), some (.Constant (.str z3) a3 q3)] [.Constant (.int i1) b1 p1, .Constant (.int i2) b2 p2, .Constant (.int i3) b3 p3] _ := pps_cons pe_str pe_int (pps_cons pe_str pe_int (pps_cons pe_str pe_int pps_nil))
  let Q' : List (V × V) → Hp → Prop := fun ps H2 => ps = [(.str z1, .int i1), (.str z2, .int i2), (.str z3, .int i3)] ∧ H2 = upd H s.heap.objs.size (mDict X.w s.heap.objs.size [])
  refine wpAny_Dict_any (keys := [some (.Constant (.str z1) a1 q1), some (.Constant (.str z2) a2 q2), some (.Constant (.str z3) a3 q3)]) (values := [.Constant (.int i1) b1 p1, .Constant (.int i2) b2 p2, .Constant (.int i3) b3 p3]) rfl rfl (by simp) (by show 3 ≤ 15; omega) (thn (pp.run pins _ σ _ Q' I1 ⟨rfl, rfl⟩) fun ws s2 ⟨ps, H2, I2, rel, q2⟩ => ?_)
  obtain ⟨rfl, rfl⟩ := q2
  cases rel with
  | cons h1 t1 =>
    cases t1 with
    | cons h2 t2 =>
      cases t2 with
      | cons h3 t3 =>
        cases t3
        have D0 : MD X.w (upd H s.heap.objs.size (mDict X.w s.heap.objs.size [])) s.heap.objs.size [] := ⟨upd_same, fun _ h => (nomatch h)⟩
        unfold storeAll
        rw [List.forIn_cons]
        refine wpAny_bind (wpAny_bind (m_dictSet (by omega) I2 D0 (.text z1) (Nat.zero_le _) h1.1 h1.2 (by rw [sizeLine_eq]; decide) fun s' I' => wpAny_pure ?_))
        rw [upd_upd] at I'
        have D1 : MD X.w (upd H s.heap.objs.size (mDict X.w s.heap.objs.size (mPut [] (.text z1) (.str z1) (.int i1)))) s.heap.objs.size (mPut [] (.text z1) (.str z1) (.int i1)) := by
          have := MD.put D0 (y := .str z1) (v := .int i1) (k := .text z1) (.text z1) rfl
          rw [upd_upd] at this
          exact this
        dsimp only
        rw [List.forIn_cons]
        refine wpAny_bind (wpAny_bind (m_dictSet (by omega) I' D1 (.text z2) (Nat.zero_le _) h2.1 h2.2 (by have := mPut_len [] (.text z1) (.str z1) (.int i1); rw [sizeLine_eq]; simp at this; omega) fun s'' I'' => wpAny_pure ?_))
        rw [upd_upd] at I''
        have D2 := MD.put D1 (y := .str z2) (v := .int i2) (k := .text z2) (.text z2) rfl
        rw [upd_upd] at D2
        dsimp only
        rw [List.forIn_cons]
        refine wpAny_bind (wpAny_bind (m_dictSet (by omega) I'' D2 (.text z3) (Nat.zero_le _) h3.1 h3.2 (by have := mPut_len [] (.text z1) (.str z1) (.int i1); have := mPut_len (mPut [] (.text z1) (.str z1) (.int i1)) (.text z2) (.str z2) (.int i2); rw [sizeLine_eq]; simp at *; omega) fun s3 I3 => wpAny_pure ?_))
        rw [upd_upd] at I3
        dsimp only
        rw [List.forIn_nil]
        exact wpAny_pure ⟨.ref s.heap.objs.size, _, I3, rfl, q _ hn⟩
end KX
end
section
set_option autoImplicit false
set_option maxRecDepth 100000
set_option maxHeartbeats 4000000
/-! law -/
namespace K11
open PySem PySem.Spec PyProof.Rows L2 KX RZ StX
theorem slice_keys {K : PySem.W.Frag} {H : Hp} {v : V} {ks : List NestedKey} {lo hi : Option Int} {Q : VK} (h : MKeyAt H (.tup ks) v)
    (q : ∀ (v' : V) (H' : Hp), Same H H' → MKeyAt H' (.tup ((ks.drop (HT.sIx ks.length 0 lo)).take (HT.sIx ks.length ks.length hi - HT.sIx ks.length 0 lo))) v' → Q v' H') : rSlA K v lo hi H Q := by
  obtain ⟨a, us, rfl, ea, ku⟩ := mtup h
  have lu := MKeysAt.len ku
  refine ⟨a, us, rfl, SqT.of ea, fun w => ?_, fun _ p np => ?_⟩
  · rw [lu] at w
    refine q _ H (Same.refl _) ?_
    rw [w.1, w.2, List.drop_zero, Nat.sub_zero, List.take_length]
    exact h
  · have s := same_upd (p := p) (o := .tup (cutV us lo hi)) np
    have et : (upd H p (.tup (cutV us lo hi))) p = some (.tup (cutV us lo hi)) := upd_same
    have e : cutV us lo hi = (us.drop (HT.sIx ks.length 0 lo)).take (HT.sIx ks.length ks.length hi - HT.sIx ks.length 0 lo) := by
      unfold cutV
      rw [lu]
    refine q _ _ s (.tup et ?_)
    generalize upd H p (.tup (cutV us lo hi)) = H' at s
    rw [e]
    exact MKeysAt.take _ (MKeysAt.drop _ (MKeysAt.same s ku))
theorem slice_to {K : PySem.W.Frag} {H : Hp} {v : V} {ds : List Dif} {i : Nat} {Q : VK} (h : Ds H v ds) (hi : i ≤ ds.length) (q : ∀ (v' : V) (H' : Hp), Same H H' → Ds H' v' (ds.take i) → Q v' H') : rSlA K v none (some (i : Nat)) H Q :=
  slice_keys h fun v' H' s m => q v' H' s (by
    have e1 : HT.sIx (ds.map dfK).length 0 none = 0 := rfl
    rw [e1, HT.sIx_nat, List.drop_zero, Nat.sub_zero, List.length_map, Nat.min_eq_left hi, ← List.map_take] at m
    exact m)
/-- the law's script, beside a creel -/
def ScP (K : PySem.W.Frag) (a : Addr) (xs : List V) (p : Addr) (H : Hp) : Prop := SqL K (fun _ => none) a xs ∨ (a ≠ p ∧ Rd H a (.lst xs))
theorem sc_new {K : PySem.W.Frag} {a p : Addr} {xs : List V} {H : Hp} {o : HO} (s : SqL K H a xs) (n : H p = none) : ScP K a xs p (upd H p o) := by
  rcases s with h | h
  · by_cases e : a = p
    · subst e
      rcases h with h | ⟨x, h⟩ <;> (rw [n] at h; cases h)
    · refine .inr ⟨e, ?_⟩
      rcases h with h | ⟨x, h⟩
      · exact .inl (by rw [upd_ne e]; exact h)
      · exact .inr ⟨x, by rw [upd_ne e]; exact h⟩
  · exact .inl (.inr h)
theorem sc_sql {K : PySem.W.Frag} {a p : Addr} {xs : List V} {H : Hp} (s : ScP K a xs p H) : SqL K H a xs := by
  rcases s with h | ⟨_, h⟩
  · rcases h with h | h
    · rcases h with h | ⟨x, h⟩ <;> cases h
    · exact .inr h
  · exact .inl h
theorem sc_keep {K : PySem.W.Frag} {a p : Addr} {xs : List V} {H H' : Hp} (s : ScP K a xs p H) (g : Gw p H H') : ScP K a xs p H' := by
  rcases s with h | ⟨n, h⟩
  · exact .inl h
  · refine .inr ⟨n, ?_⟩
    rcases h with h | ⟨x, h⟩
    · exact .inl (g.at_ n h)
    · exact .inr ⟨x, g.at_ n h⟩
abbrev nLaw : List Str := ["_law_script", "_law_at", "_law_keg", "_law_turn", "_law_chain", "_law_told"]
theorem scLaw : FnScope nLaw ["_law_script"] (defScope sLaw) := ⟨rfl, rfl, rfl, by decide +kernel, rfl, by decide +kernel, by decide +kernel⟩
def chainD : List Dif := [(.text "i", .text "", 4), (.text "j", .text "i", -2), (.text "", .text "j", 1), (.text "i", .text "j", 1)]
theorem chain_ok : OkDs chainD := ⟨by decide, by decide +kernel, by decide +kernel⟩
theorem chain3_ok : OkDs (chainD.take 3) := ⟨by decide, by decide +kernel, by decide +kernel⟩
def fitsM : Rws := mergeI [] [(.text "j", .int 0), (.text "", .int 0), (.text "i", .int 3)]
theorem r1 : ringN chainD (.data (.tuple [.int 3, .int 1])) = true := by decide +kernel
theorem r2 : ringN chainD (.data (.tuple [.int 1, .int 3])) = true := by decide +kernel
theorem r3 : ringN chainD (.data (.tuple [.int 3, .int 1, .int 3, .int 1])) = true := by decide +kernel
theorem r4 : ringN chainD (.data (.tuple [.int 3])) = false := by decide +kernel
theorem told5 : toldPts (chainD.take 3) = [.text "", .text "i", .text "j"] := by decide +kernel
theorem r5 : fitN (chainD.take 3) (.dict fitsM) = true := by
  show fitR (chainD.take 3) fitsM = true
  rw [fit_last (by rw [← told_len chain3_ok, told5]; decide +kernel) (List.all_eq_true.mpr fun p hp => by
    have := (told_pts chain3_ok).mpr hp
    rw [told5] at this
    simp only [List.mem_cons, List.not_mem_nil, or_false] at this
    rcases this with rfl | rfl | rfl <;> decide +kernel) (by decide +kernel) (by decide +kernel)]
  decide +kernel
theorem ok5 : okN (.dict fitsM) := ⟨by decide +kernel, by decide +kernel, by decide +kernel⟩
def spLaw (K : PySem.W.Frag) : Sp := fun vs H Q _ => ∃ (a : Addr) (ns : List Int), vs = [.ref a] ∧ SqL K H a (ns.map V.int) ∧ ns.length ≤ 63 ∧ ∀ H', Q (.bl true) H'
section
variable {P : Program} {w : World} {K : PySem.W.Frag} {mg : Str → Option Value} {base : Heap}
theorem ok_law {f : Addr} {fd : FuncData} (F : Fun K "law" "law" sLaw f fd) (B : Free mg) (mMax : mg "max" = none) (mMin : mg "min" = none) (Cr_ : Fnc P w K mg base CX0 1 "_law_tapped" ["_law_script", "_law_at"] (spCreel K)) (Ri : FncG P w K mg base 9 "_law_right" ["_law_keg"] spRi)
    (Ftg : Fnc P w K mg base CX0 7 "is_fitting" ["differences", "value"] (spFtg w)) (Irg : Fnc P w K mg base CX0 7 "is_ring" ["differences", "value"] (spIrg w)) : RunG P w K mg base 10 f fd ["_law_script"] (spLaw K) := by
  refine Fun.okG F scLaw fun cdv A outer s0 H vs Q E hG hr h => ?_
  obtain ⟨a, ns, rfl, hS, h63, q⟩ := h
  have hu := hr.units
  refine ⟨_, pss_cons (ps_for PassesOwn.never rfl (pi_range1 (by rfl) B.range (pa_cons (pe_callB (call_max2 rfl) (by rfl) mMax (by decide +kernel) (pa_cons pe_int (pa_cons (pe_callB (call_min2 rfl) (by rfl) mMin (by decide +kernel) (pa_cons pe_int (pa_cons (pe_callB call_len_seq (by rfl) B.len PySem.boot_len (pa_cons (pv 0) pa_nil)) pa_nil))) pa_nil))) pa_nil))
        (pg_name (i := 1) scLaw.nd rfl (Or.inl rfl))
        (pss_cons (ps_set (i := 2) scLaw.nd rfl (.inl rfl) (pe_fnc Cr_ hr (by omega) (by rfl) pass0 (pa_cons (pv 0) (pa_cons (pv 1) pa_nil)))) <|
          pss_one (ps_for PassesOwn.never rfl (pi_range1 (by rfl) B.range (pa_cons pe_int pa_nil)) (pg_name (i := 3) scLaw.nd rfl (Or.inl rfl))
            (pss_one (ps_if (pt_not (pt_val (pe_fncG Ri hG hr (by omega) (by rfl) (pa_cons (pv 2) pa_nil)))) (pss_one ps_never) pss_nil))))) <|
    pss_cons (ps_set (i := 4) scLaw.nd rfl (.inl rfl) (pd_tup (pda_cons (pd_tup (pda_cons pd_str (pda_cons pd_str (pda_cons pd_int pda_nil)))) (pda_cons (pd_tup (pda_cons pd_str (pda_cons pd_str (pda_cons pd_neg pda_nil)))) (pda_cons (pd_tup (pda_cons pd_str (pda_cons pd_str (pda_cons pd_int pda_nil)))) (pda_cons (pd_tup (pda_cons pd_str (pda_cons pd_str (pda_cons pd_int pda_nil)))) pda_nil))))).pe) <|
    pss_cons (ps_set (i := 5) scLaw.nd rfl (.inl rfl) (pe_lst (pa_cons (pe_fnc Irg hr (by omega) (by rfl) pass0 (pa_cons (pv 4) (pa_cons (pe_tup (pa_cons pe_int (pa_cons pe_int pa_nil))) pa_nil))) (pa_cons (pe_fnc Irg hr (by omega) (by rfl) pass0 (pa_cons (pv 4) (pa_cons (pe_tup (pa_cons pe_int (pa_cons pe_int pa_nil))) pa_nil))) (pa_cons (pe_fnc Irg hr (by omega) (by rfl) pass0 (pa_cons (pv 4) (pa_cons (pe_tup (pa_cons pe_int (pa_cons pe_int (pa_cons pe_int (pa_cons pe_int pa_nil))))) pa_nil))) (pa_cons (pe_fnc Irg hr (by omega) (by rfl) pass0 (pa_cons (pv 4) (pa_cons (pe_tup (pa_cons pe_int pa_nil)) pa_nil))) pa_nil)))))) <|
    pss_one (ps_ret (pe_and (pe_cmpR (op_eqF hu) (pv 5) (pe_lst (pa_cons pe_bl (pa_cons pe_bl (pa_cons pe_bl (pa_cons pe_bl pa_nil))))) (nomark _)) (pe_one (pe_fnc Ftg hr (by omega) (by rfl) pass0 (pa_cons (pe_slice sl_tupA (pv 4) po_none (po_some pe_int)) (pa_cons (pe_m3 hu) pa_nil)))))), ?_⟩
  have n1 : ∀ m : Nat, (if (if (m : Int) < 4 then (m : Int) else 4) > 1 then (if (m : Int) < 4 then (m : Int) else 4) else 1) ≤ 4 ∧ 0 ≤ (if (if (m : Int) < 4 then (m : Int) else 4) > 1 then (if (m : Int) < 4 then (m : Int) else 4) else 1) := fun m => by
    split <;> split <;> omega
  obtain ⟨j1, j0⟩ := n1 (ns.map V.int).length
  refine ⟨.ref a, rfl, a, ns.map V.int, rfl, .inl hS, 4, _, rfl, 1, _, rfl, _, rfl, by omega, by omega, ?_⟩
  generalize (if (if (((ns.map V.int).length : Nat) : Int) < 4 then (((ns.map V.int).length : Nat) : Int) else 4) > 1 then (if (((ns.map V.int).length : Nat) : Int) < 4 then (((ns.map V.int).length : Nat) : Int) else 4) else 1) = j at j0 j1 ⊢
  refine for_range (fun _ σ' H' => (∃ r1 r2 r3, σ' = [some (.ref a), r1, r2, r3, none, none]) ∧ SqL K H' a (ns.map V.int)) ⟨⟨none, none, none, rfl⟩, hS⟩ (fun i σ' H1 hi hP => ?_) (fun σ' H1 hP => ?_)
  · obtain ⟨⟨r1, r2, r3, rfl⟩, S1⟩ := hP
    refine ⟨.ref a, rfl, _, rfl, a, ns, 0 + (i : Int), rfl, S1, h63, by omega, by omega, fun p x y C0 np => ?_⟩
    have S2 := sc_new (o := .lst [.int x, .int y, .int 0]) S1 np
    have C1 : CrAt (upd H1 p (.lst [.int x, .int y, .int 0])) p y 0 := ⟨x, upd_same, C0⟩
    refine ⟨3, rfl, by omega, by omega, ?_⟩
    refine for_range (n := 3) (fun i σ' H' => (∃ r1 r3, σ' = [some (.ref a), r1, some (.ref p), r3, none, none]) ∧ ScP K a (ns.map V.int) p H' ∧ ∃ c, c ≤ 200 * (i : Int) ∧ CrAt H' p y c) ⟨⟨_, r3, rfl⟩, S2, 0, by omega, C1⟩ (fun i σ' H2 hi hP => ?_) (fun σ' H2 hP => ?_)
    · obtain ⟨⟨r1, r3, rfl⟩, S3, c, hc, C2⟩ := hP
      refine ⟨_, rfl, rfl, p, y, c, rfl, C2, by omega, fun c' H3 C3 l3 g3 => ?_⟩
      exact ⟨true, rfl, ⟨r1, _, rfl⟩, sc_keep S3 g3, c', by omega, C3⟩
    · obtain ⟨⟨r1, r3, rfl⟩, S3, _⟩ := hP
      exact ⟨⟨r1, _, r3, rfl⟩, sc_sql S3⟩
  obtain ⟨⟨t1, t2, t3, rfl⟩, _⟩ := hP
  refine ⟨by repeat' (first | exact True.intro | refine And.intro ?_ ?_), fun v H2 s2 m2 => ?_⟩
  have hd : Ds H2 v chainD := m2
  have step : ∀ {H' : Hp} {p : Addr} {vs : List V} {xs : List PyData}, H' p = some (.tup vs) → SwAll H' vs xs → NvAt w H' (.ref p) (.data (.tuple xs)) := fun e r => .tup e r
  refine ⟨v, rfl, le_line (by simp), fun p1 n1 => ?_⟩
  have z1 := same_upd (p := p1) (o := .tup [V.int 3, .int 1]) n1
  refine ⟨v, _, chainD, .data (.tuple [.int 3, .int 1]), rfl, hd.same z1, chain_ok, step upd_same (.cons (.int 3) (.cons (.int 1) .nil)), by show 2 ≤ 1000; decide, fun H3 s3 => ?_⟩
  rw [r1]
  have u3 := z1.trans s3
  refine ⟨v, rfl, le_line (by simp), fun p2 n2 => ?_⟩
  have z2 := same_upd (p := p2) (o := .tup [V.int 1, .int 3]) n2
  refine ⟨v, _, chainD, .data (.tuple [.int 1, .int 3]), rfl, hd.same (u3.trans z2), chain_ok, step upd_same (.cons (.int 1) (.cons (.int 3) .nil)), by show 2 ≤ 1000; decide, fun H4 s4 => ?_⟩
  rw [r2]
  have u4 := u3.trans (z2.trans s4)
  refine ⟨v, rfl, le_line (by simp), fun p3 n3 => ?_⟩
  have z3 := same_upd (p := p3) (o := .tup [V.int 3, .int 1, .int 3, .int 1]) n3
  refine ⟨v, _, chainD, .data (.tuple [.int 3, .int 1, .int 3, .int 1]), rfl, hd.same (u4.trans z3), chain_ok, step upd_same (.cons (.int 3) (.cons (.int 1) (.cons (.int 3) (.cons (.int 1) .nil)))), by show 4 ≤ 1000; decide, fun H5 s5 => ?_⟩
  rw [r3]
  have u5 := u4.trans (z3.trans s5)
  refine ⟨v, rfl, le_line (by simp), fun p4 n4 => ?_⟩
  have z4 := same_upd (p := p4) (o := .tup [V.int 3]) n4
  refine ⟨v, _, chainD, .data (.tuple [.int 3]), rfl, hd.same (u5.trans z4), chain_ok, step upd_same (.cons (.int 3) .nil), by show 1 ≤ 1000; decide, fun H6 s6 => ?_⟩
  rw [r4]
  have u6 := u5.trans (z4.trans s6)
  refine ⟨le_line (by simp), fun L nL => ?_⟩
  have sL := same_upd (p := L) (o := .lst [.bl true, .bl true, .bl true, .bl false]) nL
  refine ⟨_, rfl, le_line (by simp), fun N nN => ?_⟩
  have sN := same_upd (p := N) (o := .lst [.bl true, .bl true, .bl true, .bl false]) nN
  refine ⟨L, N, [.bl true, .bl true, .bl true, .bl false], rfl, rfl, SqL.of (sN _ _ upd_same), SqL.of upd_same, (fun z hz => by
    simp only [List.mem_cons, List.not_mem_nil, or_false] at hz
    rcases hz with rfl | rfl | rfl | rfl <;> rfl), true, rfl, ?_⟩
  have u8 := u6.trans (sL.trans sN)
  refine ⟨v, rfl, 3, rfl, slice_to (i := 3) (hd.same u8) (by decide) fun v' H9 s9 d9 => ?_⟩
  refine fun D nD => ?_
  have sD := same_upd (p := D) (o := mDict w D (mMerge [] [rT "j" 0, rT "" 0, rT "i" 3])) nD
  have M : MD w (upd H9 D (mDict w D (mMerge [] [rT "j" 0, rT "" 0, rT "i" 3]))) D (mMerge [] [rT "j" 0, rT "" 0, rT "i" 3]) := ⟨upd_same, fun x hx => by
    rcases mMerge_from hx with ⟨z, hz, _⟩ | ⟨z, hz, e1, e2⟩
    · cases hz
    · simp only [List.mem_cons, List.not_mem_nil, or_false] at hz
      rw [← e1, ← e2]
      rcases hz with rfl | rfl | rfl <;> exact .text _⟩
  refine ⟨v', .ref D, chainD.take 3, .dict fitsM, rfl, d9.same sD, chain3_ok, ⟨D, _, rfl, M, paired_merge .nil (.cons ⟨rfl, .int 0⟩ (.cons ⟨rfl, .int 0⟩ (.cons ⟨rfl, .int 3⟩ .nil)))⟩, ok5, fun H10 s10 => ?_⟩
  rw [r5]
  exact q H10
end
end K11
end
section
set_option autoImplicit false
set_option maxRecDepth 100000
set_option maxHeartbeats 4000000
namespace K11
open PySem PySem.Spec PyProof.Rows L2 KX
open Classical in
/-- what is tracked at the law's call: the script, unless it is written at the top -/
noncomputable def entryH (K : PySem.W.Frag) (a : Addr) (u : HO) : Hp := fun b => if b = a ∧ K.lookup a = none then some u else none
section
variable {K : PySem.W.Frag} {a b : Addr} {u : HO}
theorem entry_some {z : HO} (e : entryH K a u b = some z) : b = a ∧ K.lookup a = none ∧ z = u := by
  unfold entryH at e
  by_cases h2 : b = a ∧ K.lookup a = none
  · rw [if_pos h2] at e
    exact ⟨h2.1, h2.2, (Option.some.inj e).symm⟩
  · rw [if_neg h2] at e
    cases e
end
section
variable {P : Program} {w : World} {K : PySem.W.Frag} {mg mb : Str → Option Value} {k : Nat} {fa a : Addr} {fd : FuncData} {x : Str} {sp : Sp} {s₁ : Shared} {vs : List Value} {ns : List Int}
theorem end_of (kin : K.In s₁.heap) (glob : s₁.heap.Ns mainGlobals mg) (bltn : s₁.heap.Ns builtinsNs mb) (same : ∀ y : Str, y ≠ "__name__" → mb y = bootBuiltins y) (lim : s₁.heap.NoLimit) (nog : s₁.gens = #[])
    (obj : s₁.heap.get? a = some { cls := .type "list", data := .seq vs.toArray }) (nums : IntsAre vs ns) (few : ns.length ≤ sizeLine) (room : Room k callerA)
    (run : ∀ base : Heap, K.In base → base.Ns mainGlobals mg → RunG P w K mg base k fa fd [x] sp) (binds : ∀ (s : Shared) (u : Value), BindsTo s fd ⟨[u], []⟩ [(x, u)])
    (want : ∀ H : Hp, SqL K H a (ns.map V.int) → sp [.ref a] H (fun v _ => v = .bl true) E0) :
    codeAny (model P w) callerA (.call (.ref fa) ⟨[.ref a], []⟩) (fun r s' => r = .ok (.ret (.bool true)) ∧ OldK s₁.heap s'.heap ∧ s'.os = s₁.os ∧ AllBare s'.gens) s₁ := by
  let lo : Obj := { cls := .type "list", data := .seq vs.toArray }
  let G : Hp := entryH K a (.frz lo (.lst (ns.map V.int)))
  have rel := vals_ints nums
  have ok : HOk P w G s₁.heap := fun b z e => by
    obtain ⟨rfl, _, rfl⟩ := entry_some e
    exact ⟨obj, by rw [List.length_map]; exact few, vs, _, rel, obj⟩
  have sees : SqL K G a (ns.map V.int) := by
    cases e : K.lookup a with
    | none => exact .inl (.inr ⟨lo, by show entryH K a _ a = _; unfold entryH; rw [if_pos ⟨rfl, e⟩]⟩)
    | some o =>
      have y := kin a o e
      rw [obj] at y
      cases y
      exact .inr ⟨_, vs.toArray, _, e, rfl, rfl, rfl, by rw [List.size_toArray, nums.length]; exact few, by simpa using rel⟩
  have untracked : ∀ {b : Addr} {o : Obj}, s₁.heap.get? b = some o → (∀ q m, o.data ≠ .seq q m) → G b = none := fun {b o} e n1 => by
    cases z : G b with
    | none => rfl
    | some u =>
      exfalso
      obtain ⟨rfl, _, _⟩ := entry_some z
      rw [obj] at e
      cases e
      exact n1 _ _ rfl
  have dicts : ∀ {b : Addr} {m : Str → Option Value}, s₁.heap.Ns b m → (hidT s₁.heap G).Ns b m := fun {b m} y => by
    obtain ⟨o, es, ep, e, d, r⟩ := y
    refine ⟨o, es, ep, hidT_get e (untracked e fun q m z => ?_), d, r⟩
    rw [d] at z
    cases z
  have kinG : K.In (hidT s₁.heap G) := fun b o e => hidT_get (kin b o e) (by
    cases z : G b with
    | none => rfl
    | some u =>
      exfalso
      obtain ⟨rfl, n, _⟩ := entry_some z
      rw [n] at e
      cases e)
  have mods : Mod K mg (hidT s₁.heap G) := by
    obtain ⟨mc, l1, l2⟩ := lim
    exact ⟨kinG, dicts glob, ⟨mb, dicts bltn, same⟩, ⟨mc, dicts l1, l2⟩⟩
  have env : Env0 P w K mg (hidT s₁.heap G) callerA [] s₁ G := by
    refine ⟨rfl, mods, fun b o e => of_hidT e, Nat.le_of_eq (hidT_size _ _), trivial, fun b z => ?_, ok, .of_eq nog⟩
    cases (show b ∈ ([] : List Addr) from z)
  refine codeAny_mono (run _ kinG (dicts glob) callerA [] s₁ G ⟨[.ref a], []⟩ [.ref a] [.ref a] _ E0 rfl room env (binds s₁ (.ref a)) (.cons rfl .nil) rfl (want G sees)) fun r s' h => ?_
  match r, h with
  | .error e, h => exact False.elim h
  | .ok .next, h => exact False.elim h
  | .ok .brk, h => exact False.elim h
  | .ok .cont, h => exact False.elim h
  | .ok (.ret u), h =>
    obtain ⟨v, H', os, bare, un, ok', r', q⟩ := h
    obtain rfl : v = .bl true := q
    obtain rfl : u = Value.bool true := r'
    have kept : ∀ b o, s₁.heap.get? b = some o → s'.heap.get? b = some o := fun b o e => by
      cases z : G b with
      | none => exact un.keep b o e z (fun y => by cases (show b ∈ ([] : List Addr) from y)) (by simp)
      | some u =>
        obtain ⟨rfl, _, rfl⟩ := entry_some z
        obtain ⟨y1, _⟩ := ok' b _ (un.frzs b _ _ z)
        rw [obj] at e
        cases e
        exact y1
    exact ⟨rfl, ⟨fun b o e => .inl (kept b o e), fun b o e => ⟨o, kept b o e⟩⟩, os, bare⟩
end
end K11
end
section
set_option autoImplicit false
set_option maxRecDepth 100000
set_option maxHeartbeats 4000000
namespace K11
open PySem PySem.Spec PyProof.Rows L2 KX
theorem all_mk {P : Program} {w : World} {K : PySem.W.Frag} {h : Heap} {mg : Str → Option Value} {fa : Addr} (X : K.In h) (G : h.Ns mainGlobals mg) (hfa : mg "law" = some (.ref fa))
    {f0 : Addr} {fdf0 : FuncData}
    {f1 : Addr} {fdf1 : FuncData}
    {f2 : Addr} {fdf2 : FuncData}
    {f3 : Addr} {fdf3 : FuncData}
    {f4 : Addr} {fdf4 : FuncData}
    {f5 : Addr} {fdf5 : FuncData}
    {f6 : Addr} {fdf6 : FuncData}
    {f7 : Addr} {fdf7 : FuncData}
    {f8 : Addr} {fdf8 : FuncData}
    {f9 : Addr} {fdf9 : FuncData}
    {f10 : Addr} {fdf10 : FuncData}
    {f11 : Addr} {fdf11 : FuncData}
    {f12 : Addr} {fdf12 : FuncData}
    {f13 : Addr} {fdf13 : FuncData}
    {f14 : Addr} {fdf14 : FuncData}
    {f15 : Addr} {fdf15 : FuncData}
    {f16 : Addr} {fdf16 : FuncData}
    {f17 : Addr} {fdf17 : FuncData}
    {f18 : Addr} {fdf18 : FuncData}
    {f19 : Addr} {fdf19 : FuncData}
    {f20 : Addr} {fdf20 : FuncData}
    {f21 : Addr} {fdf21 : FuncData}
    {f22 : Addr} {fdf22 : FuncData}
    {f23 : Addr} {fdf23 : FuncData}
    {f24 : Addr} {fdf24 : FuncData}
    {f25 : Addr} {fdf25 : FuncData}
    {f26 : Addr} {fdf26 : FuncData}
    {f27 : Addr} {fdf27 : FuncData}
    {f28 : Addr} {fdf28 : FuncData}
    {f29 : Addr} {fdf29 : FuncData}
    {f30 : Addr} {fdf30 : FuncData}
    {f31 : Addr} {fdf31 : FuncData}
    {tl tm ti td tf : Tok}
    (af0 : PySem.W.nsIn K mainGlobals "is_whole" = some (some (.ref f0)))
    (F0 : Fun K "is_whole" "is_whole" sWhole f0 fdf0)
    (af1 : PySem.W.nsIn K mainGlobals "is_integer" = some (some (.ref f1)))
    (F1 : Fun K "is_integer" "is_integer" sIg f1 fdf1)
    (af2 : PySem.W.nsIn K mainGlobals "is_index" = some (some (.ref f2)))
    (F2 : Fun K "is_index" "is_index" sIx f2 fdf2)
    (af3 : PySem.W.nsIn K mainGlobals "is_name" = some (some (.ref f3)))
    (F3 : Fun K "is_name" "is_name" sIsName f3 fdf3)
    (af4 : PySem.W.nsIn K mainGlobals "is_new_position" = some (some (.ref f4)))
    (F4 : Fun K "is_new_position" "is_new_position" sNp f4 fdf4)
    (af5 : PySem.W.nsIn K mainGlobals "is_word_point" = some (some (.ref f5)))
    (F5 : Fun K "is_word_point" "is_word_point" sWp f5 fdf5)
    (af6 : PySem.W.nsIn K mainGlobals "is_point" = some (some (.ref f6)))
    (F6 : Fun K "is_point" "is_point" sPt f6 fdf6)
    (af7 : PySem.W.nsIn K mainGlobals "is_difference" = some (some (.ref f7)))
    (F7 : Fun K "is_difference" "is_difference" sDf f7 fdf7)
    (af8 : PySem.W.nsIn K mainGlobals "are_differences" = some (some (.ref f8)))
    (F8 : Fun K "are_differences" "are_differences" sAre f8 fdf8)
    (af9 : PySem.W.nsIn K mainGlobals "points_of" = some (some (.ref f9)))
    (F9 : Fun K "points_of" "points_of" sPo f9 fdf9)
    (af10 : PySem.W.nsIn K mainGlobals "is_ring_of" = some (some (.ref f10)))
    (F10 : Fun K "is_ring_of" "is_ring_of" sRo f10 fdf10)
    (af11 : PySem.W.nsIn K mainGlobals "check_differences" = some (some (.ref f11)))
    (F11 : Fun K "check_differences" "check_differences" sChk f11 fdf11)
    (af12 : PySem.W.nsIn K mainGlobals "relax" = some (some (.ref f12)))
    (F12 : Fun K "relax" "relax" sRx f12 fdf12)
    (af13 : PySem.W.nsIn K mainGlobals "settle" = some (some (.ref f13)))
    (F13 : Fun K "settle" "settle" sSt f13 fdf13)
    (af14 : PySem.W.nsIn K mainGlobals "fitting" = some (some (.ref f14)))
    (F14 : Fun K "fitting" "fitting" sFit f14 fdf14)
    (af15 : PySem.W.nsIn K mainGlobals "is_fitting" = some (some (.ref f15)))
    (F15 : Fun K "is_fitting" "is_fitting" sFtg f15 fdf15)
    (af16 : PySem.W.nsIn K mainGlobals "ring" = some (some (.ref f16)))
    (F16 : Fun K "ring" "ring" sRing f16 fdf16)
    (af17 : PySem.W.nsIn K mainGlobals "ring_through" = some (some (.ref f17)))
    (F17 : Fun K "ring_through" "ring_through" sRt f17 fdf17)
    (af18 : PySem.W.nsIn K mainGlobals "is_ring" = some (some (.ref f18)))
    (F18 : Fun K "is_ring" "is_ring" sIrg f18 fdf18)
    (af19 : PySem.W.nsIn K mainGlobals "_law_tapped" = some (some (.ref f19)))
    (F19 : Fun K "_law_tapped" "_law_tapped" sCreel f19 fdf19)
    (af20 : PySem.W.nsIn K mainGlobals "_law_tap" = some (some (.ref f20)))
    (F20 : Fun K "_law_tap" "_law_tap" sFish f20 fdf20)
    (af21 : PySem.W.nsIn K mainGlobals "_law_pick" = some (some (.ref f21)))
    (F21 : Fun K "_law_pick" "_law_pick" sOne f21 fdf21)
    (af22 : PySem.W.nsIn K mainGlobals "_law_points" = some (some (.ref f22)))
    (F22 : Fun K "_law_points" "_law_points" sPts f22 fdf22)
    (af23 : PySem.W.nsIn K mainGlobals "_law_differences" = some (some (.ref f23)))
    (F23 : Fun K "_law_differences" "_law_differences" sDfs f23 fdf23)
    (af24 : PySem.W.nsIn K mainGlobals "_law_told_points" = some (some (.ref f24)))
    (F24 : Fun K "_law_told_points" "_law_told_points" sTp f24 fdf24)
    (af25 : PySem.W.nsIn K mainGlobals "_law_fits" = some (some (.ref f25)))
    (F25 : Fun K "_law_fits" "_law_fits" sLf f25 fdf25)
    (af26 : PySem.W.nsIn K mainGlobals "_law_is_ring" = some (some (.ref f26)))
    (F26 : Fun K "_law_is_ring" "_law_is_ring" sIr f26 fdf26)
    (af27 : PySem.W.nsIn K mainGlobals "_law_is_fitting" = some (some (.ref f27)))
    (F27 : Fun K "_law_is_fitting" "_law_is_fitting" sLif f27 fdf27)
    (af28 : PySem.W.nsIn K mainGlobals "_law_near_numbers" = some (some (.ref f28)))
    (F28 : Fun K "_law_near_numbers" "_law_near_numbers" sNn f28 fdf28)
    (af29 : PySem.W.nsIn K mainGlobals "_law_near_ring" = some (some (.ref f29)))
    (F29 : Fun K "_law_near_ring" "_law_near_ring" sNr f29 fdf29)
    (af30 : PySem.W.nsIn K mainGlobals "_law_right" = some (some (.ref f30)))
    (F30 : Fun K "_law_right" "_law_right" sRi f30 fdf30)
    (af31 : PySem.W.nsIn K mainGlobals "law" = some (some (.ref f31)))
    (F31 : Fun K "law" "law" sLaw f31 fdf31)
    (aL : PySem.W.nsIn K mainGlobals "LETTERS" = some (some (.str "abcdefghijklmnopqrstuvwxyz" tl)))
    (aM : PySem.W.nsIn K mainGlobals "MAX_LETTERS" = some (some (.int 8 tm)))
    (aG : PySem.W.nsIn K mainGlobals "LIMIT" = some (some (.int lim ti)))
    (aD : PySem.W.nsIn K mainGlobals "DIGITS" = some (some (.str "0123456789" td)))
    (aF : PySem.W.nsIn K mainGlobals "MAX_DIFFERENCES" = some (some (.int 60 tf)))
    (z_isinstance : PySem.W.nsIn K mainGlobals "isinstance" = some none)
    (z_str : PySem.W.nsIn K mainGlobals "str" = some none)
    (z_tuple : PySem.W.nsIn K mainGlobals "tuple" = some none)
    (z_len : PySem.W.nsIn K mainGlobals "len" = some none)
    (z_all : PySem.W.nsIn K mainGlobals "all" = some none)
    (z_set : PySem.W.nsIn K mainGlobals "set" = some none)
    (z_int : PySem.W.nsIn K mainGlobals "int" = some none)
    (z_list : PySem.W.nsIn K mainGlobals "list" = some none)
    (z_range : PySem.W.nsIn K mainGlobals "range" = some none)
    (z_min : PySem.W.nsIn K mainGlobals "min" = some none)
    (z_max : PySem.W.nsIn K mainGlobals "max" = some none)
    (z_abs : PySem.W.nsIn K mainGlobals "abs" = some none)
    (z_bool : PySem.W.nsIn K mainGlobals "bool" = some none)
    (z_sorted : PySem.W.nsIn K mainGlobals "sorted" = some none)
    (z_dict : PySem.W.nsIn K mainGlobals "dict" = some none)
    (z_sum : PySem.W.nsIn K mainGlobals "sum" = some none)
    (z_enumerate : PySem.W.nsIn K mainGlobals "enumerate" = some none)
    (z_zip : PySem.W.nsIn K mainGlobals "zip" = some none)
    (z_repr : PySem.W.nsIn K mainGlobals "repr" = some none)
    : ∃ (fd : FuncData), (∀ (s : Shared) (u : Value), BindsTo s fd ⟨[u], []⟩ [("_law_script", u)]) ∧ ∀ base : Heap, K.In base → base.Ns mainGlobals mg → RunG P w K mg base 10 fa fd ["_law_script"] (spLaw K) := by
  have e := hfa.symm.trans (PySem.W.mg_of X G af31)
  cases e
  have m_isinstance := PySem.W.mg_none_of X G z_isinstance
  have m_str := PySem.W.mg_none_of X G z_str
  have m_tuple := PySem.W.mg_none_of X G z_tuple
  have m_len := PySem.W.mg_none_of X G z_len
  have m_all := PySem.W.mg_none_of X G z_all
  have m_set := PySem.W.mg_none_of X G z_set
  have m_int := PySem.W.mg_none_of X G z_int
  have m_list := PySem.W.mg_none_of X G z_list
  have m_range := PySem.W.mg_none_of X G z_range
  have m_min := PySem.W.mg_none_of X G z_min
  have m_max := PySem.W.mg_none_of X G z_max
  have m_abs := PySem.W.mg_none_of X G z_abs
  have m_bool := PySem.W.mg_none_of X G z_bool
  have m_sorted := PySem.W.mg_none_of X G z_sorted
  have m_dict := PySem.W.mg_none_of X G z_dict
  have m_sum := PySem.W.mg_none_of X G z_sum
  have m_enumerate := PySem.W.mg_none_of X G z_enumerate
  have m_zip := PySem.W.mg_none_of X G z_zip
  have m_repr := PySem.W.mg_none_of X G z_repr
  have mL := PySem.W.mg_of X G aL
  have mM := PySem.W.mg_of X G aM
  have mG := PySem.W.mg_of X G aG
  have mD := PySem.W.mg_of X G aD
  have mF := PySem.W.mg_of X G aF
  have g0 := PySem.W.mg_of X G af0
  have b0 := F0.binds (ps := ["value"]) fun _ _ _ _ _ _ us hl => match us, hl with | [_], _ => rfl
  have g1 := PySem.W.mg_of X G af1
  have b1 := F1.binds (ps := ["value"]) fun _ _ _ _ _ _ us hl => match us, hl with | [_], _ => rfl
  have g2 := PySem.W.mg_of X G af2
  have b2 := F2.binds (ps := ["value", "many"]) fun _ _ _ _ _ _ us hl => match us, hl with | [_, _], _ => rfl
  have g3 := PySem.W.mg_of X G af3
  have b3 := F3.binds (ps := ["value"]) fun _ _ _ _ _ _ us hl => match us, hl with | [_], _ => rfl
  have g4 := PySem.W.mg_of X G af4
  have b4 := F4.binds (ps := ["value"]) fun _ _ _ _ _ _ us hl => match us, hl with | [_], _ => rfl
  have g5 := PySem.W.mg_of X G af5
  have b5 := F5.binds (ps := ["value"]) fun _ _ _ _ _ _ us hl => match us, hl with | [_], _ => rfl
  have g6 := PySem.W.mg_of X G af6
  have b6 := F6.binds (ps := ["value"]) fun _ _ _ _ _ _ us hl => match us, hl with | [_], _ => rfl
  have g7 := PySem.W.mg_of X G af7
  have b7 := F7.binds (ps := ["value"]) fun _ _ _ _ _ _ us hl => match us, hl with | [_], _ => rfl
  have g8 := PySem.W.mg_of X G af8
  have b8 := F8.binds (ps := ["value"]) fun _ _ _ _ _ _ us hl => match us, hl with | [_], _ => rfl
  have g9 := PySem.W.mg_of X G af9
  have b9 := F9.binds (ps := ["differences"]) fun _ _ _ _ _ _ us hl => match us, hl with | [_], _ => rfl
  have g10 := PySem.W.mg_of X G af10
  have b10 := F10.binds (ps := ["differences"]) fun _ _ _ _ _ _ us hl => match us, hl with | [_], _ => rfl
  have g11 := PySem.W.mg_of X G af11
  have b11 := F11.binds (ps := ["differences"]) fun _ _ _ _ _ _ us hl => match us, hl with | [_], _ => rfl
  have g12 := PySem.W.mg_of X G af12
  have b12 := F12.binds (ps := ["differences", "levels", "back"]) fun _ _ _ _ _ _ us hl => match us, hl with | [_, _, _], _ => rfl
  have g13 := PySem.W.mg_of X G af13
  have b13 := F13.binds (ps := ["differences", "levels", "back"]) fun _ _ _ _ _ _ us hl => match us, hl with | [_, _, _], _ => rfl
  have g14 := PySem.W.mg_of X G af14
  have b14 := F14.binds (ps := ["differences"]) fun _ _ _ _ _ _ us hl => match us, hl with | [_], _ => rfl
  have g15 := PySem.W.mg_of X G af15
  have b15 := F15.binds (ps := ["differences", "value"]) fun _ _ _ _ _ _ us hl => match us, hl with | [_, _], _ => rfl
  have g16 := PySem.W.mg_of X G af16
  have b16 := F16.binds (ps := ["differences"]) fun _ _ _ _ _ _ us hl => match us, hl with | [_], _ => rfl
  have g17 := PySem.W.mg_of X G af17
  have b17 := F17.binds (ps := ["differences", "back", "start"]) fun _ _ _ _ _ _ us hl => match us, hl with | [_, _, _], _ => rfl
  have g18 := PySem.W.mg_of X G af18
  have b18 := F18.binds (ps := ["differences", "value"]) fun _ _ _ _ _ _ us hl => match us, hl with | [_, _], _ => rfl
  have g19 := PySem.W.mg_of X G af19
  have b19 := F19.binds (ps := ["_law_script", "_law_at"]) fun _ _ _ _ _ _ us hl => match us, hl with | [_, _], _ => rfl
  have g20 := PySem.W.mg_of X G af20
  have b20 := F20.binds (ps := ["_law_keg", "_law_total"]) fun _ _ _ _ _ _ us hl => match us, hl with | [_, _], _ => rfl
  have g21 := PySem.W.mg_of X G af21
  have b21 := F21.binds (ps := ["_law_keg", "_law_items"]) fun _ _ _ _ _ _ us hl => match us, hl with | [_, _], _ => rfl
  have g22 := PySem.W.mg_of X G af22
  have b22 := F22.binds (ps := []) fun _ _ _ _ _ _ us hl => match us, hl with | [], _ => rfl
  have g23 := PySem.W.mg_of X G af23
  have b23 := F23.binds (ps := ["_law_keg"]) fun _ _ _ _ _ _ us hl => match us, hl with | [_], _ => rfl
  have g24 := PySem.W.mg_of X G af24
  have b24 := F24.binds (ps := ["_law_differences_here"]) fun _ _ _ _ _ _ us hl => match us, hl with | [_], _ => rfl
  have g25 := PySem.W.mg_of X G af25
  have b25 := F25.binds (ps := ["_law_differences_here", "_law_numbers"]) fun _ _ _ _ _ _ us hl => match us, hl with | [_, _], _ => rfl
  have g26 := PySem.W.mg_of X G af26
  have b26 := F26.binds (ps := ["_law_differences_here", "_law_value"]) fun _ _ _ _ _ _ us hl => match us, hl with | [_, _], _ => rfl
  have g27 := PySem.W.mg_of X G af27
  have b27 := F27.binds (ps := ["_law_differences_here", "_law_value"]) fun _ _ _ _ _ _ us hl => match us, hl with | [_, _], _ => rfl
  have g28 := PySem.W.mg_of X G af28
  have b28 := F28.binds (ps := ["_law_keg", "_law_differences_here"]) fun _ _ _ _ _ _ us hl => match us, hl with | [_, _], _ => rfl
  have g29 := PySem.W.mg_of X G af29
  have b29 := F29.binds (ps := ["_law_keg", "_law_differences_here"]) fun _ _ _ _ _ _ us hl => match us, hl with | [_, _], _ => rfl
  have g30 := PySem.W.mg_of X G af30
  have b30 := F30.binds (ps := ["_law_keg"]) fun _ _ _ _ _ _ us hl => match us, hl with | [_], _ => rfl
  have g31 := PySem.W.mg_of X G af31
  have b31 := F31.binds (ps := ["_law_script"]) fun _ _ _ _ _ _ us hl => match us, hl with | [_], _ => rfl
  have B : Free mg := ⟨m_isinstance, m_str, m_tuple, m_len, m_all, m_set, m_int, m_list, m_range⟩
  obtain ⟨oc_, od_, kV_, dc_, pm_, an_, cd_, ct_, sl_, e1_, e2_, e3_⟩ := F31.ex
  subst e1_
  refine ⟨PySem.W.fnOf "law" "law" (defArgs sLaw) (defBody sLaw) (defScope sLaw) .none kV_ dc_ pm_ an_ cd_ ct_, fun s u => .of_eq rfl, fun base _ _ => ?_⟩
  have whole : Fnc P w K mg base CX0 1 "is_whole" ["value"] spWhole := ⟨⟨f0, _, ok_whole F0 B m_bool, b0, g0, F0.kp⟩⟩
  have wholeV : Fnc P w K mg base CX0 1 "is_whole" ["value"] spWholeV := ⟨⟨f0, _, ok_wholeV F0 B m_bool, b0, g0, F0.kp⟩⟩
  have ig : Fnc P w K mg base CX0 2 "is_integer" ["value"] spIg := ⟨⟨f1, _, ok_ig F1 whole mG, b1, g1, F1.kp⟩⟩
  have ix : Fnc P w K mg base CX0 2 "is_index" ["value", "many"] spIx := ⟨⟨f2, _, ok_ix F2 wholeV, b2, g2, F2.kp⟩⟩
  have isn : Fnc P w K mg base CX0 1 "is_name" ["value"] (spName K) := ⟨⟨f3, _, ok_isName F3 m_isinstance m_str m_len m_all mL mM, b3, g3, F3.kp⟩⟩
  have np : Fnc P w K mg base CX0 1 "is_new_position" ["value"] spNp := ⟨⟨f4, _, ok_np F4 B mD, b4, g4, F4.kp⟩⟩
  have npI : Fnc P w K mg base CX0 1 "is_new_position" ["value"] spNpI := ⟨⟨f4, _, ok_npI (tk := 0) F4 B, b4, g4, F4.kp⟩⟩
  have wp : Fnc P w K mg base CX0 2 "is_word_point" ["value"] spWp := ⟨⟨f5, _, ok_wp F5 isn np, b5, g5, F5.kp⟩⟩
  have wp2 : Fnc P w K mg base CX0 2 "is_word_point" ["value"] (fun vs H Q E => spWp vs H Q E ∨ spWpI vs H Q E) := ⟨⟨f5, _, FnOk.or (ok_wp F5 isn np) (ok_wpI F5 isn npI), b5, g5, F5.kp⟩⟩
  have pt : Fnc P w K mg base CX0 3 "is_point" ["value"] spPt := ⟨⟨f6, _, ok_pt F6 B isn wp ig, b6, g6, F6.kp⟩⟩
  have pt3 : Fnc P w K mg base CX0 3 "is_point" ["value"] spPt3 := ⟨⟨f6, _, pt3_of (ok_pt F6 B isn wp ig) (ok_ptX F6 B isn wp2 ig), b6, g6, F6.kp⟩⟩
  have df : Fnc P w K mg base CX0 4 "is_difference" ["value"] spDf := ⟨⟨f7, _, ok_df F7 B pt ig, b7, g7, F7.kp⟩⟩
  have are : Fnc P w K mg base CX0 5 "are_differences" ["value"] spAre := ⟨⟨f8, _, ok_are F8 B df mF, b8, g8, F8.kp⟩⟩
  have chk : Fnc P w K mg base CX0 6 "check_differences" ["differences"] spChk := ⟨⟨f11, _, ok_chk F11 are, b11, g11, F11.kp⟩⟩
  have po : Fnc P w K mg base CX0 1 "points_of" ["differences"] spPo := ⟨⟨f9, _, ok_po F9 B m_sorted, b9, g9, F9.kp⟩⟩
  have rx : Fnc P w K mg base CX0 1 "relax" ["differences", "levels", "back"] (spRx w) := ⟨⟨f12, _, ok_rx F12 m_enumerate, b12, g12, F12.kp⟩⟩
  have st : Fnc P w K mg base CX0 2 "settle" ["differences", "levels", "back"] (spSt w) := ⟨⟨f13, _, ok_st F13 B po rx, b13, g13, F13.kp⟩⟩
  have fit : Fnc P w K mg base CX0 7 "fitting" ["differences"] (spFit w) := ⟨⟨f14, _, ok_fit F14 chk po st, b14, g14, F14.kp⟩⟩
  have rt : Fnc P w K mg base CX0 1 "ring_through" ["differences", "back", "start"] (spRt w) := ⟨⟨f17, _, ok_rt F17 B, b17, g17, F17.kp⟩⟩
  have ring : Fnc P w K mg base CX0 7 "ring" ["differences"] spRing := ⟨⟨f16, _, ok_ring F16 chk po st rt, b16, g16, F16.kp⟩⟩
  have ro : Fnc P w K mg base CX0 1 "is_ring_of" ["differences"] spRo := ⟨⟨f10, _, ok_ro F10 m_zip m_sum, b10, g10, F10.kp⟩⟩
  have irg : Fnc P w K mg base CX0 7 "is_ring" ["differences", "value"] (spIrg w) := ⟨⟨f18, _, ok_irg F18 B chk ix ro, b18, g18, F18.kp⟩⟩
  have ftg : Fnc P w K mg base CX0 7 "is_fitting" ["differences", "value"] (spFtg w) := ⟨⟨f15, _, ok_ftg F15 B m_dict chk pt3 po wholeV, b15, g15, F15.kp⟩⟩
  have creel : Fnc P w K mg base CX0 1 "_law_tapped" ["_law_script", "_law_at"] (spCreel K) := ⟨⟨f19, _, ok_creel F19 m_len m_int m_abs m_max, b19, g19, F19.kp⟩⟩
  have fish : Fnc P w K mg base CX0 1 "_law_tap" ["_law_keg", "_law_total"] spFish := ⟨⟨f20, _, ok_fish F20 m_int, b20, g20, F20.kp⟩⟩
  have one : Fnc P w K mg base CX0 2 "_law_pick" ["_law_keg", "_law_items"] spOne := ⟨⟨f21, _, ok_one F21 F20 b20 g20 m_int m_len, b21, g21, F21.kp⟩⟩
  have pts : Fnc P w K mg base CX0 1 "_law_points" [] spPts := ⟨⟨f22, _, ok_pts F22, b22, g22, F22.kp⟩⟩
  have dfs : Fnc P w K mg base CX0 3 "_law_differences" ["_law_keg"] spDfs := ⟨⟨f23, _, ok_dfs F23 B pts fish one, b23, g23, F23.kp⟩⟩
  have tp : Fnc P w K mg base CX0 1 "_law_told_points" ["_law_differences_here"] spTp := ⟨⟨f24, _, ok_tp F24 m_enumerate, b24, g24, F24.kp⟩⟩
  have lf : Fnc P w K mg base CX0 1 "_law_fits" ["_law_differences_here", "_law_numbers"] (spLf w) := ⟨⟨f25, _, ok_lf F25, b25, g25, F25.kp⟩⟩
  have lir : Fnc P w K mg base CX0 1 "_law_is_ring" ["_law_differences_here", "_law_value"] (spIrg w) := ⟨⟨f26, _, ok_ir F26 B m_bool m_sum, b26, g26, F26.kp⟩⟩
  have lif : Fnc P w K mg base CX0 2 "_law_is_fitting" ["_law_differences_here", "_law_value"] (spFtg w) := ⟨⟨f27, _, ok_lif F27 B m_dict m_bool tp lf, b27, g27, F27.kp⟩⟩
  have nn : Fnc P w K mg base CX0 8 "_law_near_numbers" ["_law_keg", "_law_differences_here"] (spNear w) := ⟨⟨f28, _, ok_nn F28 B m_dict fit tp fish one, b28, g28, F28.kp⟩⟩
  have nr : Fnc P w K mg base CX0 8 "_law_near_ring" ["_law_keg", "_law_differences_here"] (spNear w) := ⟨⟨f29, _, ok_nr F29 B ring fish one, b29, g29, F29.kp⟩⟩
  have right : FncG P w K mg base 9 "_law_right" ["_law_keg"] spRi := ⟨⟨f30, _, ok_ri F30 B m_repr dfs nn nr lif lir ftg irg, b30, g30, F30.kp⟩⟩
  exact ok_law F31 B m_max m_min creel right ftg irg
end K11
end
section
set_option maxRecDepth 100000
set_option maxHeartbeats 0
namespace K11
open PySem PySem.Spec PyProof.Rows L2 KX
theorem ob_eq (s : PySem.W.SharedT) : ob s = hk.obs s.abs := obsAG_eq (HandSHeadRun.getT_eq s)
end K11
end
section
set_option maxRecDepth 100000
set_option maxHeartbeats 0
namespace K11
open PySem PySem.Spec PyProof.Rows L2 KX
theorem int_ns {K : PySem.W.Frag} {x : Str} {i : Int} (c : (He.Fa.int x i).ok K = true) : ∃ t, PySem.W.nsIn K mainGlobals x = some (some (.int i t)) := by
  have c2 : (match PySem.W.nsIn K mainGlobals x with
    | some (some (.int j _)) => decide (j = i)
    | _ => false) = true := c
  split at c2
  · rename_i j t e
    rw [e, of_decide_eq_true c2]
    exact ⟨t, rfl⟩
  · cases c2
theorem str_ns {K : PySem.W.Frag} {x z : Str} (c : (He.Fa.str x z).ok K = true) : ∃ t, PySem.W.nsIn K mainGlobals x = some (some (.str z t)) := by
  have c2 : (match PySem.W.nsIn K mainGlobals x with
    | some (some (.str y _)) => decide (y = z)
    | _ => false) = true := c
  split at c2
  · rename_i j t e
    rw [e, of_decide_eq_true c2]
    exact ⟨t, rfl⟩
  · cases c2
theorem hx {K : PySem.W.Frag} (c : SaysA exB fnL K) (i : Nat) {f : PySem.W.Frag → Bool} (e : exL[i]? = some f) : f K = true := List.all_eq_true.mp (show (exL.all fun f => f K) = true from c.holds) f (List.mem_of_getElem? e)
theorem x_af0 {K : PySem.W.Frag} (c : SaysA exB fnL K) : PySem.W.nsIn K mainGlobals "is_whole" = some (some (.ref (He.ga K "is_whole"))) := of_decide_eq_true (hx c 0 (f := fun K => decide (PySem.W.nsIn K mainGlobals "is_whole" = some (some (.ref (He.ga K "is_whole"))))) (by kernel_rfl))
theorem q_F0 {K : PySem.W.Frag} (c : SaysA exB fnL K) : ∃ fd, Fun K "is_whole" "is_whole" sWhole (He.ga K "is_whole") fd := c.fun_ 0 (d := dd0) (by kernel_rfl)
theorem x_af1 {K : PySem.W.Frag} (c : SaysA exB fnL K) : PySem.W.nsIn K mainGlobals "is_integer" = some (some (.ref (He.ga K "is_integer"))) := of_decide_eq_true (hx c 1 (f := fun K => decide (PySem.W.nsIn K mainGlobals "is_integer" = some (some (.ref (He.ga K "is_integer"))))) (by kernel_rfl))
theorem q_F1 {K : PySem.W.Frag} (c : SaysA exB fnL K) : ∃ fd, Fun K "is_integer" "is_integer" sIg (He.ga K "is_integer") fd := c.fun_ 1 (d := dd1) (by kernel_rfl)
theorem x_af2 {K : PySem.W.Frag} (c : SaysA exB fnL K) : PySem.W.nsIn K mainGlobals "is_index" = some (some (.ref (He.ga K "is_index"))) := of_decide_eq_true (hx c 2 (f := fun K => decide (PySem.W.nsIn K mainGlobals "is_index" = some (some (.ref (He.ga K "is_index"))))) (by kernel_rfl))
theorem q_F2 {K : PySem.W.Frag} (c : SaysA exB fnL K) : ∃ fd, Fun K "is_index" "is_index" sIx (He.ga K "is_index") fd := c.fun_ 2 (d := dd2) (by kernel_rfl)
theorem x_af3 {K : PySem.W.Frag} (c : SaysA exB fnL K) : PySem.W.nsIn K mainGlobals "is_name" = some (some (.ref (He.ga K "is_name"))) := of_decide_eq_true (hx c 3 (f := fun K => decide (PySem.W.nsIn K mainGlobals "is_name" = some (some (.ref (He.ga K "is_name"))))) (by kernel_rfl))
theorem q_F3 {K : PySem.W.Frag} (c : SaysA exB fnL K) : ∃ fd, Fun K "is_name" "is_name" sIsName (He.ga K "is_name") fd := c.fun_ 3 (d := dd3) (by kernel_rfl)
theorem x_af4 {K : PySem.W.Frag} (c : SaysA exB fnL K) : PySem.W.nsIn K mainGlobals "is_new_position" = some (some (.ref (He.ga K "is_new_position"))) := of_decide_eq_true (hx c 4 (f := fun K => decide (PySem.W.nsIn K mainGlobals "is_new_position" = some (some (.ref (He.ga K "is_new_position"))))) (by kernel_rfl))
theorem q_F4 {K : PySem.W.Frag} (c : SaysA exB fnL K) : ∃ fd, Fun K "is_new_position" "is_new_position" sNp (He.ga K "is_new_position") fd := c.fun_ 4 (d := dd4) (by kernel_rfl)
theorem x_af5 {K : PySem.W.Frag} (c : SaysA exB fnL K) : PySem.W.nsIn K mainGlobals "is_word_point" = some (some (.ref (He.ga K "is_word_point"))) := of_decide_eq_true (hx c 5 (f := fun K => decide (PySem.W.nsIn K mainGlobals "is_word_point" = some (some (.ref (He.ga K "is_word_point"))))) (by kernel_rfl))
theorem q_F5 {K : PySem.W.Frag} (c : SaysA exB fnL K) : ∃ fd, Fun K "is_word_point" "is_word_point" sWp (He.ga K "is_word_point") fd := c.fun_ 5 (d := dd5) (by kernel_rfl)
theorem x_af6 {K : PySem.W.Frag} (c : SaysA exB fnL K) : PySem.W.nsIn K mainGlobals "is_point" = some (some (.ref (He.ga K "is_point"))) := of_decide_eq_true (hx c 6 (f := fun K => decide (PySem.W.nsIn K mainGlobals "is_point" = some (some (.ref (He.ga K "is_point"))))) (by kernel_rfl))
theorem q_F6 {K : PySem.W.Frag} (c : SaysA exB fnL K) : ∃ fd, Fun K "is_point" "is_point" sPt (He.ga K "is_point") fd := c.fun_ 6 (d := dd6) (by kernel_rfl)
theorem x_af7 {K : PySem.W.Frag} (c : SaysA exB fnL K) : PySem.W.nsIn K mainGlobals "is_difference" = some (some (.ref (He.ga K "is_difference"))) := of_decide_eq_true (hx c 7 (f := fun K => decide (PySem.W.nsIn K mainGlobals "is_difference" = some (some (.ref (He.ga K "is_difference"))))) (by kernel_rfl))
theorem q_F7 {K : PySem.W.Frag} (c : SaysA exB fnL K) : ∃ fd, Fun K "is_difference" "is_difference" sDf (He.ga K "is_difference") fd := c.fun_ 7 (d := dd7) (by kernel_rfl)
theorem x_af8 {K : PySem.W.Frag} (c : SaysA exB fnL K) : PySem.W.nsIn K mainGlobals "are_differences" = some (some (.ref (He.ga K "are_differences"))) := of_decide_eq_true (hx c 8 (f := fun K => decide (PySem.W.nsIn K mainGlobals "are_differences" = some (some (.ref (He.ga K "are_differences"))))) (by kernel_rfl))
theorem q_F8 {K : PySem.W.Frag} (c : SaysA exB fnL K) : ∃ fd, Fun K "are_differences" "are_differences" sAre (He.ga K "are_differences") fd := c.fun_ 8 (d := dd8) (by kernel_rfl)
theorem x_af9 {K : PySem.W.Frag} (c : SaysA exB fnL K) : PySem.W.nsIn K mainGlobals "points_of" = some (some (.ref (He.ga K "points_of"))) := of_decide_eq_true (hx c 9 (f := fun K => decide (PySem.W.nsIn K mainGlobals "points_of" = some (some (.ref (He.ga K "points_of"))))) (by kernel_rfl))
theorem q_F9 {K : PySem.W.Frag} (c : SaysA exB fnL K) : ∃ fd, Fun K "points_of" "points_of" sPo (He.ga K "points_of") fd := c.fun_ 9 (d := dd9) (by kernel_rfl)
theorem x_af10 {K : PySem.W.Frag} (c : SaysA exB fnL K) : PySem.W.nsIn K mainGlobals "is_ring_of" = some (some (.ref (He.ga K "is_ring_of"))) := of_decide_eq_true (hx c 10 (f := fun K => decide (PySem.W.nsIn K mainGlobals "is_ring_of" = some (some (.ref (He.ga K "is_ring_of"))))) (by kernel_rfl))
theorem q_F10 {K : PySem.W.Frag} (c : SaysA exB fnL K) : ∃ fd, Fun K "is_ring_of" "is_ring_of" sRo (He.ga K "is_ring_of") fd := c.fun_ 10 (d := dd10) (by kernel_rfl)
theorem x_af11 {K : PySem.W.Frag} (c : SaysA exB fnL K) : PySem.W.nsIn K mainGlobals "check_differences" = some (some (.ref (He.ga K "check_differences"))) := of_decide_eq_true (hx c 11 (f := fun K => decide (PySem.W.nsIn K mainGlobals "check_differences" = some (some (.ref (He.ga K "check_differences"))))) (by kernel_rfl))
theorem q_F11 {K : PySem.W.Frag} (c : SaysA exB fnL K) : ∃ fd, Fun K "check_differences" "check_differences" sChk (He.ga K "check_differences") fd := c.fun_ 11 (d := dd11) (by kernel_rfl)
theorem x_af12 {K : PySem.W.Frag} (c : SaysA exB fnL K) : PySem.W.nsIn K mainGlobals "relax" = some (some (.ref (He.ga K "relax"))) := of_decide_eq_true (hx c 12 (f := fun K => decide (PySem.W.nsIn K mainGlobals "relax" = some (some (.ref (He.ga K "relax"))))) (by kernel_rfl))
theorem q_F12 {K : PySem.W.Frag} (c : SaysA exB fnL K) : ∃ fd, Fun K "relax" "relax" sRx (He.ga K "relax") fd := c.fun_ 12 (d := dd12) (by kernel_rfl)
theorem x_af13 {K : PySem.W.Frag} (c : SaysA exB fnL K) : PySem.W.nsIn K mainGlobals "settle" = some (some (.ref (He.ga K "settle"))) := of_decide_eq_true (hx c 13 (f := fun K => decide (PySem.W.nsIn K mainGlobals "settle" = some (some (.ref (He.ga K "settle"))))) (by kernel_rfl))
theorem q_F13 {K : PySem.W.Frag} (c : SaysA exB fnL K) : ∃ fd, Fun K "settle" "settle" sSt (He.ga K "settle") fd := c.fun_ 13 (d := dd13) (by kernel_rfl)
theorem x_af14 {K : PySem.W.Frag} (c : SaysA exB fnL K) : PySem.W.nsIn K mainGlobals "fitting" = some (some (.ref (He.ga K "fitting"))) := of_decide_eq_true (hx c 14 (f := fun K => decide (PySem.W.nsIn K mainGlobals "fitting" = some (some (.ref (He.ga K "fitting"))))) (by kernel_rfl))
theorem q_F14 {K : PySem.W.Frag} (c : SaysA exB fnL K) : ∃ fd, Fun K "fitting" "fitting" sFit (He.ga K "fitting") fd := c.fun_ 14 (d := dd14) (by kernel_rfl)
theorem x_af15 {K : PySem.W.Frag} (c : SaysA exB fnL K) : PySem.W.nsIn K mainGlobals "is_fitting" = some (some (.ref (He.ga K "is_fitting"))) := of_decide_eq_true (hx c 15 (f := fun K => decide (PySem.W.nsIn K mainGlobals "is_fitting" = some (some (.ref (He.ga K "is_fitting"))))) (by kernel_rfl))
theorem q_F15 {K : PySem.W.Frag} (c : SaysA exB fnL K) : ∃ fd, Fun K "is_fitting" "is_fitting" sFtg (He.ga K "is_fitting") fd := c.fun_ 15 (d := dd15) (by kernel_rfl)
theorem x_af16 {K : PySem.W.Frag} (c : SaysA exB fnL K) : PySem.W.nsIn K mainGlobals "ring" = some (some (.ref (He.ga K "ring"))) := of_decide_eq_true (hx c 16 (f := fun K => decide (PySem.W.nsIn K mainGlobals "ring" = some (some (.ref (He.ga K "ring"))))) (by kernel_rfl))
theorem q_F16 {K : PySem.W.Frag} (c : SaysA exB fnL K) : ∃ fd, Fun K "ring" "ring" sRing (He.ga K "ring") fd := c.fun_ 16 (d := dd16) (by kernel_rfl)
theorem x_af17 {K : PySem.W.Frag} (c : SaysA exB fnL K) : PySem.W.nsIn K mainGlobals "ring_through" = some (some (.ref (He.ga K "ring_through"))) := of_decide_eq_true (hx c 17 (f := fun K => decide (PySem.W.nsIn K mainGlobals "ring_through" = some (some (.ref (He.ga K "ring_through"))))) (by kernel_rfl))
theorem q_F17 {K : PySem.W.Frag} (c : SaysA exB fnL K) : ∃ fd, Fun K "ring_through" "ring_through" sRt (He.ga K "ring_through") fd := c.fun_ 17 (d := dd17) (by kernel_rfl)
theorem x_af18 {K : PySem.W.Frag} (c : SaysA exB fnL K) : PySem.W.nsIn K mainGlobals "is_ring" = some (some (.ref (He.ga K "is_ring"))) := of_decide_eq_true (hx c 18 (f := fun K => decide (PySem.W.nsIn K mainGlobals "is_ring" = some (some (.ref (He.ga K "is_ring"))))) (by kernel_rfl))
theorem q_F18 {K : PySem.W.Frag} (c : SaysA exB fnL K) : ∃ fd, Fun K "is_ring" "is_ring" sIrg (He.ga K "is_ring") fd := c.fun_ 18 (d := dd18) (by kernel_rfl)
theorem x_af19 {K : PySem.W.Frag} (c : SaysA exB fnL K) : PySem.W.nsIn K mainGlobals "_law_tapped" = some (some (.ref (He.ga K "_law_tapped"))) := of_decide_eq_true (hx c 19 (f := fun K => decide (PySem.W.nsIn K mainGlobals "_law_tapped" = some (some (.ref (He.ga K "_law_tapped"))))) (by kernel_rfl))
theorem q_F19 {K : PySem.W.Frag} (c : SaysA exB fnL K) : ∃ fd, Fun K "_law_tapped" "_law_tapped" sCreel (He.ga K "_law_tapped") fd := c.fun_ 19 (d := dd19) (by kernel_rfl)
theorem x_af20 {K : PySem.W.Frag} (c : SaysA exB fnL K) : PySem.W.nsIn K mainGlobals "_law_tap" = some (some (.ref (He.ga K "_law_tap"))) := of_decide_eq_true (hx c 20 (f := fun K => decide (PySem.W.nsIn K mainGlobals "_law_tap" = some (some (.ref (He.ga K "_law_tap"))))) (by kernel_rfl))
theorem q_F20 {K : PySem.W.Frag} (c : SaysA exB fnL K) : ∃ fd, Fun K "_law_tap" "_law_tap" sFish (He.ga K "_law_tap") fd := c.fun_ 20 (d := dd20) (by kernel_rfl)
theorem x_af21 {K : PySem.W.Frag} (c : SaysA exB fnL K) : PySem.W.nsIn K mainGlobals "_law_pick" = some (some (.ref (He.ga K "_law_pick"))) := of_decide_eq_true (hx c 21 (f := fun K => decide (PySem.W.nsIn K mainGlobals "_law_pick" = some (some (.ref (He.ga K "_law_pick"))))) (by kernel_rfl))
theorem q_F21 {K : PySem.W.Frag} (c : SaysA exB fnL K) : ∃ fd, Fun K "_law_pick" "_law_pick" sOne (He.ga K "_law_pick") fd := c.fun_ 21 (d := dd21) (by kernel_rfl)
theorem x_af22 {K : PySem.W.Frag} (c : SaysA exB fnL K) : PySem.W.nsIn K mainGlobals "_law_points" = some (some (.ref (He.ga K "_law_points"))) := of_decide_eq_true (hx c 22 (f := fun K => decide (PySem.W.nsIn K mainGlobals "_law_points" = some (some (.ref (He.ga K "_law_points"))))) (by kernel_rfl))
theorem q_F22 {K : PySem.W.Frag} (c : SaysA exB fnL K) : ∃ fd, Fun K "_law_points" "_law_points" sPts (He.ga K "_law_points") fd := c.fun_ 22 (d := dd22) (by kernel_rfl)
theorem x_af23 {K : PySem.W.Frag} (c : SaysA exB fnL K) : PySem.W.nsIn K mainGlobals "_law_differences" = some (some (.ref (He.ga K "_law_differences"))) := of_decide_eq_true (hx c 23 (f := fun K => decide (PySem.W.nsIn K mainGlobals "_law_differences" = some (some (.ref (He.ga K "_law_differences"))))) (by kernel_rfl))
theorem q_F23 {K : PySem.W.Frag} (c : SaysA exB fnL K) : ∃ fd, Fun K "_law_differences" "_law_differences" sDfs (He.ga K "_law_differences") fd := c.fun_ 23 (d := dd23) (by kernel_rfl)
theorem x_af24 {K : PySem.W.Frag} (c : SaysA exB fnL K) : PySem.W.nsIn K mainGlobals "_law_told_points" = some (some (.ref (He.ga K "_law_told_points"))) := of_decide_eq_true (hx c 24 (f := fun K => decide (PySem.W.nsIn K mainGlobals "_law_told_points" = some (some (.ref (He.ga K "_law_told_points"))))) (by kernel_rfl))
theorem q_F24 {K : PySem.W.Frag} (c : SaysA exB fnL K) : ∃ fd, Fun K "_law_told_points" "_law_told_points" sTp (He.ga K "_law_told_points") fd := c.fun_ 24 (d := dd24) (by kernel_rfl)
theorem x_af25 {K : PySem.W.Frag} (c : SaysA exB fnL K) : PySem.W.nsIn K mainGlobals "_law_fits" = some (some (.ref (He.ga K "_law_fits"))) := of_decide_eq_true (hx c 25 (f := fun K => decide (PySem.W.nsIn K mainGlobals "_law_fits" = some (some (.ref (He.ga K "_law_fits"))))) (by kernel_rfl))
theorem q_F25 {K : PySem.W.Frag} (c : SaysA exB fnL K) : ∃ fd, Fun K "_law_fits" "_law_fits" sLf (He.ga K "_law_fits") fd := c.fun_ 25 (d := dd25) (by kernel_rfl)
theorem x_af26 {K : PySem.W.Frag} (c : SaysA exB fnL K) : PySem.W.nsIn K mainGlobals "_law_is_ring" = some (some (.ref (He.ga K "_law_is_ring"))) := of_decide_eq_true (hx c 26 (f := fun K => decide (PySem.W.nsIn K mainGlobals "_law_is_ring" = some (some (.ref (He.ga K "_law_is_ring"))))) (by kernel_rfl))
theorem q_F26 {K : PySem.W.Frag} (c : SaysA exB fnL K) : ∃ fd, Fun K "_law_is_ring" "_law_is_ring" sIr (He.ga K "_law_is_ring") fd := c.fun_ 26 (d := dd26) (by kernel_rfl)
theorem x_af27 {K : PySem.W.Frag} (c : SaysA exB fnL K) : PySem.W.nsIn K mainGlobals "_law_is_fitting" = some (some (.ref (He.ga K "_law_is_fitting"))) := of_decide_eq_true (hx c 27 (f := fun K => decide (PySem.W.nsIn K mainGlobals "_law_is_fitting" = some (some (.ref (He.ga K "_law_is_fitting"))))) (by kernel_rfl))
theorem q_F27 {K : PySem.W.Frag} (c : SaysA exB fnL K) : ∃ fd, Fun K "_law_is_fitting" "_law_is_fitting" sLif (He.ga K "_law_is_fitting") fd := c.fun_ 27 (d := dd27) (by kernel_rfl)
theorem x_af28 {K : PySem.W.Frag} (c : SaysA exB fnL K) : PySem.W.nsIn K mainGlobals "_law_near_numbers" = some (some (.ref (He.ga K "_law_near_numbers"))) := of_decide_eq_true (hx c 28 (f := fun K => decide (PySem.W.nsIn K mainGlobals "_law_near_numbers" = some (some (.ref (He.ga K "_law_near_numbers"))))) (by kernel_rfl))
theorem q_F28 {K : PySem.W.Frag} (c : SaysA exB fnL K) : ∃ fd, Fun K "_law_near_numbers" "_law_near_numbers" sNn (He.ga K "_law_near_numbers") fd := c.fun_ 28 (d := dd28) (by kernel_rfl)
theorem x_af29 {K : PySem.W.Frag} (c : SaysA exB fnL K) : PySem.W.nsIn K mainGlobals "_law_near_ring" = some (some (.ref (He.ga K "_law_near_ring"))) := of_decide_eq_true (hx c 29 (f := fun K => decide (PySem.W.nsIn K mainGlobals "_law_near_ring" = some (some (.ref (He.ga K "_law_near_ring"))))) (by kernel_rfl))
theorem q_F29 {K : PySem.W.Frag} (c : SaysA exB fnL K) : ∃ fd, Fun K "_law_near_ring" "_law_near_ring" sNr (He.ga K "_law_near_ring") fd := c.fun_ 29 (d := dd29) (by kernel_rfl)
theorem x_af30 {K : PySem.W.Frag} (c : SaysA exB fnL K) : PySem.W.nsIn K mainGlobals "_law_right" = some (some (.ref (He.ga K "_law_right"))) := of_decide_eq_true (hx c 30 (f := fun K => decide (PySem.W.nsIn K mainGlobals "_law_right" = some (some (.ref (He.ga K "_law_right"))))) (by kernel_rfl))
theorem q_F30 {K : PySem.W.Frag} (c : SaysA exB fnL K) : ∃ fd, Fun K "_law_right" "_law_right" sRi (He.ga K "_law_right") fd := c.fun_ 30 (d := dd30) (by kernel_rfl)
theorem x_af31 {K : PySem.W.Frag} (c : SaysA exB fnL K) : PySem.W.nsIn K mainGlobals "law" = some (some (.ref (He.ga K "law"))) := of_decide_eq_true (hx c 31 (f := fun K => decide (PySem.W.nsIn K mainGlobals "law" = some (some (.ref (He.ga K "law"))))) (by kernel_rfl))
theorem q_F31 {K : PySem.W.Frag} (c : SaysA exB fnL K) : ∃ fd, Fun K "law" "law" sLaw (He.ga K "law") fd := c.fun_ 31 (d := dd31) (by kernel_rfl)
theorem x_aL {K : PySem.W.Frag} (c : SaysA exB fnL K) : ∃ t, PySem.W.nsIn K mainGlobals "LETTERS" = some (some (.str "abcdefghijklmnopqrstuvwxyz" t)) := str_ns (hx c 32 (f := fun K => (He.Fa.str "LETTERS" "abcdefghijklmnopqrstuvwxyz").ok K) (by kernel_rfl))
theorem x_aM {K : PySem.W.Frag} (c : SaysA exB fnL K) : ∃ t, PySem.W.nsIn K mainGlobals "MAX_LETTERS" = some (some (.int 8 t)) := int_ns (hx c 33 (f := fun K => (He.Fa.int "MAX_LETTERS" 8).ok K) (by kernel_rfl))
theorem x_aG {K : PySem.W.Frag} (c : SaysA exB fnL K) : ∃ t, PySem.W.nsIn K mainGlobals "LIMIT" = some (some (.int lim t)) := int_ns (hx c 34 (f := fun K => (He.Fa.int "LIMIT" lim).ok K) (by kernel_rfl))
theorem x_aD {K : PySem.W.Frag} (c : SaysA exB fnL K) : ∃ t, PySem.W.nsIn K mainGlobals "DIGITS" = some (some (.str "0123456789" t)) := str_ns (hx c 35 (f := fun K => (He.Fa.str "DIGITS" "0123456789").ok K) (by kernel_rfl))
theorem x_aF {K : PySem.W.Frag} (c : SaysA exB fnL K) : ∃ t, PySem.W.nsIn K mainGlobals "MAX_DIFFERENCES" = some (some (.int 60 t)) := int_ns (hx c 36 (f := fun K => (He.Fa.int "MAX_DIFFERENCES" 60).ok K) (by kernel_rfl))
theorem x_z_isinstance {K : PySem.W.Frag} (c : SaysA exB fnL K) : PySem.W.nsIn K mainGlobals "isinstance" = some none := of_decide_eq_true (hx c 37 (f := fun K => decide (PySem.W.nsIn K mainGlobals "isinstance" = some none)) (by kernel_rfl))
theorem x_z_str {K : PySem.W.Frag} (c : SaysA exB fnL K) : PySem.W.nsIn K mainGlobals "str" = some none := of_decide_eq_true (hx c 38 (f := fun K => decide (PySem.W.nsIn K mainGlobals "str" = some none)) (by kernel_rfl))
theorem x_z_tuple {K : PySem.W.Frag} (c : SaysA exB fnL K) : PySem.W.nsIn K mainGlobals "tuple" = some none := of_decide_eq_true (hx c 39 (f := fun K => decide (PySem.W.nsIn K mainGlobals "tuple" = some none)) (by kernel_rfl))
theorem x_z_len {K : PySem.W.Frag} (c : SaysA exB fnL K) : PySem.W.nsIn K mainGlobals "len" = some none := of_decide_eq_true (hx c 40 (f := fun K => decide (PySem.W.nsIn K mainGlobals "len" = some none)) (by kernel_rfl))
theorem x_z_all {K : PySem.W.Frag} (c : SaysA exB fnL K) : PySem.W.nsIn K mainGlobals "all" = some none := of_decide_eq_true (hx c 41 (f := fun K => decide (PySem.W.nsIn K mainGlobals "all" = some none)) (by kernel_rfl))
theorem x_z_set {K : PySem.W.Frag} (c : SaysA exB fnL K) : PySem.W.nsIn K mainGlobals "set" = some none := of_decide_eq_true (hx c 42 (f := fun K => decide (PySem.W.nsIn K mainGlobals "set" = some none)) (by kernel_rfl))
theorem x_z_int {K : PySem.W.Frag} (c : SaysA exB fnL K) : PySem.W.nsIn K mainGlobals "int" = some none := of_decide_eq_true (hx c 43 (f := fun K => decide (PySem.W.nsIn K mainGlobals "int" = some none)) (by kernel_rfl))
theorem x_z_list {K : PySem.W.Frag} (c : SaysA exB fnL K) : PySem.W.nsIn K mainGlobals "list" = some none := of_decide_eq_true (hx c 44 (f := fun K => decide (PySem.W.nsIn K mainGlobals "list" = some none)) (by kernel_rfl))
theorem x_z_range {K : PySem.W.Frag} (c : SaysA exB fnL K) : PySem.W.nsIn K mainGlobals "range" = some none := of_decide_eq_true (hx c 45 (f := fun K => decide (PySem.W.nsIn K mainGlobals "range" = some none)) (by kernel_rfl))
theorem x_z_min {K : PySem.W.Frag} (c : SaysA exB fnL K) : PySem.W.nsIn K mainGlobals "min" = some none := of_decide_eq_true (hx c 46 (f := fun K => decide (PySem.W.nsIn K mainGlobals "min" = some none)) (by kernel_rfl))
theorem x_z_max {K : PySem.W.Frag} (c : SaysA exB fnL K) : PySem.W.nsIn K mainGlobals "max" = some none := of_decide_eq_true (hx c 47 (f := fun K => decide (PySem.W.nsIn K mainGlobals "max" = some none)) (by kernel_rfl))
theorem x_z_abs {K : PySem.W.Frag} (c : SaysA exB fnL K) : PySem.W.nsIn K mainGlobals "abs" = some none := of_decide_eq_true (hx c 48 (f := fun K => decide (PySem.W.nsIn K mainGlobals "abs" = some none)) (by kernel_rfl))
theorem x_z_bool {K : PySem.W.Frag} (c : SaysA exB fnL K) : PySem.W.nsIn K mainGlobals "bool" = some none := of_decide_eq_true (hx c 49 (f := fun K => decide (PySem.W.nsIn K mainGlobals "bool" = some none)) (by kernel_rfl))
theorem x_z_sorted {K : PySem.W.Frag} (c : SaysA exB fnL K) : PySem.W.nsIn K mainGlobals "sorted" = some none := of_decide_eq_true (hx c 50 (f := fun K => decide (PySem.W.nsIn K mainGlobals "sorted" = some none)) (by kernel_rfl))
theorem x_z_dict {K : PySem.W.Frag} (c : SaysA exB fnL K) : PySem.W.nsIn K mainGlobals "dict" = some none := of_decide_eq_true (hx c 51 (f := fun K => decide (PySem.W.nsIn K mainGlobals "dict" = some none)) (by kernel_rfl))
theorem x_z_sum {K : PySem.W.Frag} (c : SaysA exB fnL K) : PySem.W.nsIn K mainGlobals "sum" = some none := of_decide_eq_true (hx c 52 (f := fun K => decide (PySem.W.nsIn K mainGlobals "sum" = some none)) (by kernel_rfl))
theorem x_z_enumerate {K : PySem.W.Frag} (c : SaysA exB fnL K) : PySem.W.nsIn K mainGlobals "enumerate" = some none := of_decide_eq_true (hx c 53 (f := fun K => decide (PySem.W.nsIn K mainGlobals "enumerate" = some none)) (by kernel_rfl))
theorem x_z_zip {K : PySem.W.Frag} (c : SaysA exB fnL K) : PySem.W.nsIn K mainGlobals "zip" = some none := of_decide_eq_true (hx c 54 (f := fun K => decide (PySem.W.nsIn K mainGlobals "zip" = some none)) (by kernel_rfl))
theorem x_z_repr {K : PySem.W.Frag} (c : SaysA exB fnL K) : PySem.W.nsIn K mainGlobals "repr" = some none := of_decide_eq_true (hx c 55 (f := fun K => decide (PySem.W.nsIn K mainGlobals "repr" = some none)) (by kernel_rfl))
theorem facts {P : Program} {w : World} {K : PySem.W.Frag} {h : Heap} {mg : Str → Option Value} {fa : Addr} (X : K.In h) (G : h.Ns mainGlobals mg) (hfa : mg "law" = some (.ref fa)) (c : SaysA exB fnL K) : ∃ (fd : FuncData), (∀ (s : Shared) (u : Value), BindsTo s fd ⟨[u], []⟩ [("_law_script", u)]) ∧ ∀ base : Heap, K.In base → base.Ns mainGlobals mg → RunG P w K mg base 10 fa fd ["_law_script"] (spLaw K) := by
  obtain ⟨_, F0⟩ := q_F0 c
  obtain ⟨_, F1⟩ := q_F1 c
  obtain ⟨_, F2⟩ := q_F2 c
  obtain ⟨_, F3⟩ := q_F3 c
  obtain ⟨_, F4⟩ := q_F4 c
  obtain ⟨_, F5⟩ := q_F5 c
  obtain ⟨_, F6⟩ := q_F6 c
  obtain ⟨_, F7⟩ := q_F7 c
  obtain ⟨_, F8⟩ := q_F8 c
  obtain ⟨_, F9⟩ := q_F9 c
  obtain ⟨_, F10⟩ := q_F10 c
  obtain ⟨_, F11⟩ := q_F11 c
  obtain ⟨_, F12⟩ := q_F12 c
  obtain ⟨_, F13⟩ := q_F13 c
  obtain ⟨_, F14⟩ := q_F14 c
  obtain ⟨_, F15⟩ := q_F15 c
  obtain ⟨_, F16⟩ := q_F16 c
  obtain ⟨_, F17⟩ := q_F17 c
  obtain ⟨_, F18⟩ := q_F18 c
  obtain ⟨_, F19⟩ := q_F19 c
  obtain ⟨_, F20⟩ := q_F20 c
  obtain ⟨_, F21⟩ := q_F21 c
  obtain ⟨_, F22⟩ := q_F22 c
  obtain ⟨_, F23⟩ := q_F23 c
  obtain ⟨_, F24⟩ := q_F24 c
  obtain ⟨_, F25⟩ := q_F25 c
  obtain ⟨_, F26⟩ := q_F26 c
  obtain ⟨_, F27⟩ := q_F27 c
  obtain ⟨_, F28⟩ := q_F28 c
  obtain ⟨_, F29⟩ := q_F29 c
  obtain ⟨_, F30⟩ := q_F30 c
  obtain ⟨_, F31⟩ := q_F31 c
  obtain ⟨_, aL⟩ := x_aL c
  obtain ⟨_, aM⟩ := x_aM c
  obtain ⟨_, aG⟩ := x_aG c
  obtain ⟨_, aD⟩ := x_aD c
  obtain ⟨_, aF⟩ := x_aF c
  exact all_mk X G hfa (x_af0 c) F0 (x_af1 c) F1 (x_af2 c) F2 (x_af3 c) F3 (x_af4 c) F4 (x_af5 c) F5 (x_af6 c) F6 (x_af7 c) F7 (x_af8 c) F8 (x_af9 c) F9 (x_af10 c) F10 (x_af11 c) F11 (x_af12 c) F12 (x_af13 c) F13 (x_af14 c) F14 (x_af15 c) F15 (x_af16 c) F16 (x_af17 c) F17 (x_af18 c) F18 (x_af19 c) F19 (x_af20 c) F20 (x_af21 c) F21 (x_af22 c) F22 (x_af23 c) F23 (x_af24 c) F24 (x_af25 c) F25 (x_af26 c) F26 (x_af27 c) F27 (x_af28 c) F28 (x_af29 c) F29 (x_af30 c) F30 (x_af31 c) F31 aL aM aG aD aF (x_z_isinstance c) (x_z_str c) (x_z_tuple c) (x_z_len c) (x_z_all c) (x_z_set c) (x_z_int c) (x_z_list c) (x_z_range c) (x_z_min c) (x_z_max c) (x_z_abs c) (x_z_bool c) (x_z_sorted c) (x_z_dict c) (x_z_sum c) (x_z_enumerate c) (x_z_zip c) (x_z_repr c)
end K11
end
section
set_option maxRecDepth 100000
set_option maxHeartbeats 0
namespace K11
open PySem PySem.Spec PyProof.Rows L2 KX
theorem walkE {l : PySem.W.OpenLaw} {q : Program} {loose : List Str} {XP : (Str → Option Value) → Heap → Prop} {YP : World → Heap → Prop} {d : DefRec} (hn : l.most = some 63) (hdf : d.params.defaults = [])
    (F : ∀ (w : World) (mg : Str → Option Value) (fa : Addr) (h : Heap), YP w h → h.Ns mainGlobals mg → mg d.name = some (.ref fa) →
      ∃ (K : PySem.W.Frag) (fd : FuncData), K.In h ∧ (∀ (s : Shared) (u : Value), BindsTo s fd ⟨[u], []⟩ [("_law_script", u)]) ∧ ∀ base : Heap, K.In base → base.Ns mainGlobals mg → RunG l.prog w K mg base 10 fa fd ["_law_script"] (spLaw K)) :
    PySem.W.WalkO q loose XP YP l.row.toRowW d [] (fun f vs => PySem.call f vs) := by
  refine Att.attach_callB hn hdf fun w s₀ s₁ mg mb fa o pm cd doc a us ns G Y ho hd hcd hmg hobj nums hlen _ hg => ?_
  obtain ⟨K, fd, kin, q9, run⟩ := F w mg fa _ Y G.T.g hmg
  exact end_of kin G.T.g G.T.b G.T.builtins G.T.nolimit hg hobj nums (Nat.le_trans hlen (by decide)) ⟨rfl, by decide, by decide⟩ run q9 fun H hS => ⟨a, ns, rfl, hS, hlen, fun _ => rfl⟩
end K11
open PySem PySem.W PySem.Calls PyProof.Rows
theorem PySem.Challenge.cw_lentcells_k11_near_rings_and_numbers_holds : PySem.Challenge.rw_lentcells_k11_near_rings_and_numbers.Holds := by
  w_on; o_law
  refine HandSHeadRun.head_any (r := K11.RR) (q := view K11.RR.prog [44]) (H := K11.hk) (ob := K11.ob) (M := 12000) (loose := K11.names) (d := HandSHeadRun.topDef K11.RR.prog 44) (kwd := []) K11.ob_eq
    (by kernel_rfl) (fun s => by kernel_rfl) K11.run (by kernel_rfl) (by kernel_rfl) (by kernel_rfl) (by rfl) (by first | assumption | decide +kernel) (by decide +kernel) ⟨rfl, rfl, rfl, rfl, rfl, by decide +kernel⟩ ?hw ?hc
  case hw => w_witness2
  case hc =>
    refine K11.walkE (l := PySem.Challenge.rw_lentcells_k11_near_rings_and_numbers) rfl (by kernel_rfl) ?F
    intro w mg fa h Y G hmg0
    obtain ⟨K, KX, c⟩ := Y
    have hmg : mg ("law" : PySem.Str) = some (.ref fa) := by
      have e : (HandSHeadRun.topDef K11.RR.prog 44).name = ("law" : PySem.Str) := by kernel_rfl
      rw [← e]
      exact hmg0
    obtain ⟨fd, hb, hF⟩ := K11.facts (P := (PySem.Challenge.rw_lentcells_k11_near_rings_and_numbers).prog) (w := w) KX G hmg c
    exact ⟨K, fd, KX, hb, hF⟩
end
