import PyProof.Rows.All
import Wide.All
import OpenK.AllK
import Wide.FinOn
import KE.KStateDown
import HandS.Words
import HandS.ExcInit
import HandS.ExcField
import HandS.Defaults
import HandS.Head0
import HandS.Head1
import HandS.Head2
import HandS.HeadHook1
import HandS.HeadHook2
import PySem.Challenge.RW_stemsteps_k91_whole_sights_tell_what_fol
import HandS.ForMost
import HandS.Wide
import HandS.IsInst
import HandS.TupAny
import HandS.TupLe
import HandS.Deep
import HandS.Evl
import HandS.Steps
import HandS.Walk
import HandS.Text
import KE.GoesMore
import KE.GoesEnum
import HandS.TryMany
import HandS.WordsExc
import PyProof.ReprRoads
import HandS.Ends
import HandS.Dict
import HandS.TryOnly
import PyProof.EqAt
import PyProof.EqKinds
import PyProof.NeKinds
import PyProof.TupleCall
import HandS.Base
import HandS.Call
import HandS.List
import HandS.OwnEq
import HandS.More
import HandS.Iter
import HandS.Comp
import HandS.Codes
import HandS.Property
import HandS.MakeKwOnly
import HandS.SetKeys
import KE.KRevSl
import PyProof.SliceList
import PyProof.CallStr
import PyProof.AutoSeq1
import HandS.Strs
import HandS.SetTxtIn
import HandS.SortKw
import KE.DataMinMax
import KE.DatumOrd
import HandS.DictTup
import HandS.NoneIn
import HandS.Style
import PyProof.MaxThree
import PyProof.StrBlock2
import HandS.Zip
import KE.KDictWalk
import HandS.ExcOwn
set_option Elab.async false
set_option linter.all false
set_option maxRecDepth 100000
set_option maxHeartbeats 4000000
/-! what the top has left, read by one look: defs, classes, exceptions, by name -/
namespace Hy
open PySem PySem.Spec PyProof.Rows L2 He
abbrev Frg := PySem.W.Frag
abbrev Loc := Frg → Addr
abbrev Ck := Frg → Bool
def aG (x : Str) : Loc := fun K => ga K x
def aM (C m : Str) : Loc := fun K => ma K (ga K C) m
/-- the getter of a property -/
def aP (C m : Str) : Loc := fun K => match PySem.W.recIn K (ma K (ga K C) m) "property" with
  | some (.ref g :: _) => g
  | _ => 0
/-- a default behind the star, where it is an object -/
def aK (C m p : Str) : Loc := fun K => match K.lookup (ma K (ga K C) m) with
  | some ⟨_, _, .func fd, _⟩ => (match fd.kwdefaults with
    | .ref D => (match PySem.W.nsIn K D p with
      | some (some (.ref a)) => a
      | _ => 0)
    | _ => 0)
  | _ => 0
/-! ### defs -/
structure Df where
  loc : Loc
  name : Str
  qual : Str
  st : Stmt
def lkW (K : Frg) (a : Addr) : FnW := match K.lookup a with
  | some ⟨_, _, .func fd, _⟩ => some (fd.name, fd.qualname, fd.params, fd.body, fd.scope, fd.globals, fd.closure, fd.builtins)
  | _ => none
def Df.val (d : Df) : FnW := some (d.name, d.qual, defArgs d.st, .stmts (defBody d.st), defScope d.st, mainGlobals, [], builtinsNs)
def Df.ok (K : Frg) (d : Df) : Bool := PySem.W.keepIn K (.ref (d.loc K)) && (match K.lookup (d.loc K) with
  | some ⟨_, _, .func fd, _⟩ => PySem.W.codeIn K fd.code d.qual && dflB K fd.defaults []
  | _ => false)
def kwC (a : Loc) (kws : Frg → List (Str × V)) : Ck := fun K => match K.lookup (a K) with
  | some ⟨_, _, .func fd, _⟩ => kwdB K fd.kwdefaults (kws K)
  | _ => false
/-! ### checks -/
def allC (l : List Ck) : Ck := fun K => l.all fun c => c K
def cGlo (x : Str) : Ck := fun K => (Fa.glo x).ok K
def cFree (x : Str) : Ck := fun K => (Fa.free x).ok K
def cStr (x z : Str) : Ck := fun K => (Fa.str x z).ok K
def isE (a : Option (Option Value)) (b : Option (Option Value)) : Bool := eqO a b
def oexB (K : Frg) (C : Addr) : Bool := match K.lookup C with
  | some ⟨.type t, _, .cls cd, sl⟩ => decide (t = "type") && (match cd.mro, sl.toList with
    | .ref C' :: bm, [_, _, _, _, some (.builtin n), _] => decide (C' = C) && (decide (n = "ValueError.__new__") && (cd.hasDict && (!cd.hasDel && PySem.HandSPX.refsVE bm)))
    | _, _ => false)
  | _ => false
def cExc (x : Str) : Ck := fun K => oexB K (ga K x) && (xfB K (ga K x) && (isE (PySem.W.findIn K (.ref (ga K x)) "__setattr__") (some (some (.builtin "object.__setattr__"))) && (decide (PySem.W.typeIn K (.ref (ga K x)) = some (.type "type")) && (PySem.W.keepIn K (.ref (ga K x)) &&
  (isE (PySem.W.findIn K (.ref (ga K x)) "__init__") (some (some (.ref (ma K (ga K x) "__init__")))) && decide (PySem.W.typeIn K (.ref (ma K (ga K x) "__init__")) = some (.type "function")))))))
def cNo (x f : Str) : Ck := fun K => (Fa.noat x f).ok K
def cExm (x y : Str) (b : Bool) : Ck := fun K => (Fa.exm x y b).ok K
def cSub (x y : Str) (b : Bool) : Ck := fun K => decide (PySem.W.subIn K (.ref (ga K x)) (.ref (ga K y)) = some b)
def cCls (x : Str) : Ck := fun K => (Fa.cls x).ok K && ((Fa.mkr x).ok K && (isE (PySem.W.findIn K (.ref (ga K x)) "__class__") (some (some (.builtin "object.__class__"))) && (decide (PySem.W.mroIn K (ga K x) (.type "object") = some true) && (PySem.W.isClsIn K (ga K x) && (decide (PySem.W.typeIn K (.ref (ga K x)) = some (.type "type")) &&
  (isE (PySem.W.specialIn K (.builtin "object.__class__") "__get__") (some (some (.builtin "getset_descriptor.__get__"))) && decide (PySem.W.takesIn K (.builtin "object.__class__") = some true)))))))
def cMeth (x m : Str) : Ck := fun K => (Fa.meth x m).ok K
def cOwn (x : Str) : Ck := fun K => isE (PySem.W.findIn K (.ref (ga K x)) "__eq__") (some (some (.ref (ma K (ga K x) "__eq__")))) && (isE (PySem.W.findIn K (.ref (ga K x)) "__ne__") (some (some (.builtin "object.__ne__"))) && (PySem.W.isFn K (.ref (ma K (ga K x) "__eq__")) && decide (PySem.W.mroIn K (ga K x) (.type "object") = some true)))
def cProp (x m : Str) : Ck := fun K => isE (PySem.W.findIn K (.ref (ga K x)) m) (some (some (.ref (ma K (ga K x) m)))) && (isE (PySem.W.specialIn K (.ref (ma K (ga K x) m)) "__get__") (some (some (.builtin "property.__get__"))) && (decide (PySem.W.takesIn K (.ref (ma K (ga K x) m)) = some true) &&
  (match PySem.W.recIn K (ma K (ga K x) m) "property" with
    | some (.ref _ :: _) => true
    | _ => false)))
/-- an empty tuple -/
def cNil (a : Loc) : Ck := fun K => match K.lookup (a K) with
  | some ⟨.type c, _, .seq its _, _⟩ => decide (c = "tuple") && its.isEmpty
  | _ => false
/-! ### the look -/
abbrev Al : Type := Bool × List FnW
def obsY (cs : List Ck) (fn : List Df) (K : Frg) : Al := ((cs.all fun c => c K) && fn.all fun d => d.ok K, fn.map fun d => lkW K (d.loc K))
def valY (fn : List Df) : Al := (true, fn.map Df.val)
def SaysY (cs : List Ck) (fn : List Df) (K : Frg) : Prop := obsY cs fn K = valY fn
def obsYG (n : Nat) (cs : List Ck) (fn : List Df) (g : Addr → Option Obj) : Al := obsY cs fn (frG g (List.range n))
def hookY (n : Nat) (cs : List Ck) (fn : List Df) : PySem.W.Hook where
  α := Al
  obs := fun s => obsYG n cs fn s.heap.get?
  val := fun _ => valY fn
  says := fun _ h => ∃ K : Frg, K.In h ∧ SaysY cs fn K
  of := fun _ _ e => ⟨_, frG_in, e⟩
  keeps := fun _ _ _ ⟨K, hK, c⟩ k => ⟨K, PySem.W.Frag.In.keeps hK k, c⟩
theorem obsYG_eq {n : Nat} {cs : List Ck} {fn : List Df} {g : Addr → Option Obj} {s : Shared} (h : ∀ a, g a = s.heap.get? a) : obsYG n cs fn g = (hookY n cs fn).obs s := by
  have e : g = s.heap.get? := funext h
  rw [e] <;> rfl
end Hy
namespace Hy
open PySem PySem.Spec PyProof.Rows L2 He PySem.W
/-- the run in parts: what the row looks at; what the facts look at -/
def RunA (r : OpenRow) (q : Program) (M : Nat) (loose : List PySem.Str) (w : World) : Prop :=
  ∀ os : OsState, (HandSHeadRun.endF (HandSHeadRun.stepQ (HandSHeadRun.denQ HandSHeadRun.tabQ) r.prog w) M r.prog w os).map (fun s => (HandSHeadRun.looksF r.prog (boot_heap w.params) s.abs, HandSHeadRun.seenQ q loose (importedModules r.prog.main.body) (fun s => xlAt q [] s && recOk r.toRowW.records s) s.abs)) = some (true, openGood q loose)
def RunB (r : OpenRow) {α : Type} (ob : SharedT → α) (val : α) (M : Nat) (w : World) : Prop :=
  ∀ os : OsState, (HandSHeadRun.endF (HandSHeadRun.stepQ (HandSHeadRun.denQ HandSHeadRun.tabQ) r.prog w) M r.prog w os).map ob = some val
theorem run_ab {r : OpenRow} {q : Program} {H : Hook} {ob : SharedT → H.α} {M : Nat} {loose : List PySem.Str} {w : World} (a : RunA r q M loose w) (b : RunB r ob (H.val w) M w) : HandSHeadRun.RunEq r q H ob M loose w := fun os => by
  have ha := a os
  have hb := b os
  cases e : HandSHeadRun.endF (HandSHeadRun.stepQ (HandSHeadRun.denQ HandSHeadRun.tabQ) r.prog w) M r.prog w os with
  | none =>
    rw [e] at ha
    cases ha
  | some s =>
    rw [e] at ha hb
    have ha := Option.some.inj ha
    have hb := Option.some.inj hb
    obtain ⟨h1, h2⟩ := Prod.mk.inj ha
    show some (_, _, _) = _
    rw [h1, h2, hb]
end Hy
set_option Elab.async false
set_option linter.all false
set_option maxRecDepth 100000
set_option maxHeartbeats 4000000
namespace K91
open PySem PySem.Spec PyProof.Rows L2
def topS (i : Nat) : Stmt := PySem.Challenge.pw_stemsteps_k91_whole_sights_tell_what_fol.main.body.getD i (.Pass ⟨0, 0, 0, 0⟩)
abbrev s_is_list : Stmt := topS 14
abbrev s_is_number : Stmt := topS 15
abbrev s_is_text_of : Stmt := topS 16
abbrev s_is_choice_of : Stmt := topS 17
abbrev s_is_word_of : Stmt := topS 18
abbrev s_check_letters : Stmt := topS 19
abbrev s_check_vowels : Stmt := topS 20
abbrev s_check_text : Stmt := topS 21
abbrev s_is_condition : Stmt := topS 23
abbrev s_is_met : Stmt := topS 24
abbrev s_plain_condition : Stmt := topS 25
abbrev s_has_vowel : Stmt := topS 26
abbrev s_count_runs : Stmt := topS 27
abbrev s_is_plain : Stmt := topS 28
abbrev s_is_plain_met : Stmt := topS 29
abbrev s_ends_double : Stmt := topS 30
abbrev s_has_shape : Stmt := topS 31
abbrev s_bounds_of : Stmt := topS 33
abbrev s_sight_of : Stmt := topS 34
abbrev s_plain_conditions : Stmt := topS 35
abbrev s_longest_measures : Stmt := topS 36
abbrev s_greatest_number : Stmt := topS 38
abbrev s_letters_seen : Stmt := topS 39
abbrev s_check_mode : Stmt := topS 43
abbrev s_texts_of_rule : Stmt := topS 44
abbrev s_rule_fits : Stmt := topS 45
abbrev s_check_conditions : Stmt := topS 46
abbrev s_check_rules : Stmt := topS 47
abbrev s_check_endings : Stmt := topS 48
abbrev s_step_at : Stmt := topS 50
abbrev s_rules_to_try : Stmt := topS 51
abbrev s_longest_stepping : Stmt := topS 52
abbrev s_check_steps : Stmt := topS 56
abbrev s_check_exceptions : Stmt := topS 57
abbrev s_law_mixed : Stmt := topS 59
abbrev s_law_purse : Stmt := topS 60
abbrev s_law_draw : Stmt := topS 61
abbrev s_law_text : Stmt := topS 62
abbrev s_law_condition : Stmt := topS 63
abbrev s_law_rule : Stmt := topS 64
abbrev s_law_step : Stmt := topS 65
abbrev s_law_made_step : Stmt := topS 66
abbrev s_law_made : Stmt := topS 67
abbrev s_law_names : Stmt := topS 73
abbrev s_law_stemmer : Stmt := topS 74
abbrev s_law_longer : Stmt := topS 75
abbrev s_law_right : Stmt := topS 76
abbrev s_law : Stmt := topS 77
abbrev s_InvalidLetters_init : Stmt := inClass (topS 3) 0
abbrev s_InvalidVowels_init : Stmt := inClass (topS 4) 0
abbrev s_InvalidText_init : Stmt := inClass (topS 5) 0
abbrev s_InvalidConditions_init : Stmt := inClass (topS 6) 0
abbrev s_InvalidRules_init : Stmt := inClass (topS 7) 0
abbrev s_InvalidMode_init : Stmt := inClass (topS 8) 0
abbrev s_SameEnding_init : Stmt := inClass (topS 9) 0
abbrev s_InvalidSteps_init : Stmt := inClass (topS 10) 0
abbrev s_InvalidExceptions_init : Stmt := inClass (topS 11) 0
abbrev s_Rule_init : Stmt := inClass (topS 41) 0
abbrev s_Rule_ending : Stmt := inClass (topS 41) 1
abbrev s_Rule_put : Stmt := inClass (topS 41) 3
abbrev s_Rule_conditions : Stmt := inClass (topS 41) 4
abbrev s_Rule_eq : Stmt := inClass (topS 41) 5
abbrev s_Step_init : Stmt := inClass (topS 42) 0
abbrev s_Step_rules : Stmt := inClass (topS 42) 1
abbrev s_Step_mode : Stmt := inClass (topS 42) 2
abbrev s_Step_eq : Stmt := inClass (topS 42) 3
abbrev s_Stemmer_init : Stmt := inClass (topS 55) 0
abbrev s_Stemmer_letters : Stmt := inClass (topS 55) 1
abbrev s_Stemmer_vowels : Stmt := inClass (topS 55) 2
abbrev s_Stemmer_steps : Stmt := inClass (topS 55) 3
abbrev s_Stemmer_exceptions : Stmt := inClass (topS 55) 4
abbrev s_Stemmer_eq : Stmt := inClass (topS 55) 5
abbrev s_Stemmer_stem : Stmt := inClass (topS 55) 6
abbrev s_Stemmer_trace : Stmt := inClass (topS 55) 7
abbrev s_Stemmer_sight : Stmt := inClass (topS 55) 8
abbrev s_Stemmer_bounds : Stmt := inClass (topS 55) 9
abbrev s_Stemmer_without : Stmt := inClass (topS 55) 10
def nms0 : List PySem.Str := ["_wall", "is_list", "is_number", "is_text_of", "is_choice_of", "is_word_of", "check_letters", "check_vowels", "check_text", "is_condition", "is_met", "plain_condition", "has_vowel", "count_runs", "_is_plain", "_is_plain_met", "_ends_double", "_has_shape", "bounds_of", "sight_of", "_plain_conditions", "longest_measures", "_greatest_number", "_letters_seen", "check_mode", "texts_of_rule", "rule_fits", "_check_conditions", "_check_rules", "_check_endings"]
def nms1 : List PySem.Str := ["step_at", "rules_to_try", "longest_stepping", "_check_steps", "_check_exceptions", "_law_mixed", "_law_purse", "_law_draw", "_law_text", "_law_condition", "_law_rule", "_law_step", "_law_made_step", "_law_made", "_law_runs", "_law_holds", "_law_number", "_law_way", "_law_stem", "_law_names", "_law_stemmer", "_law_longer", "_law_right", "StemError", "InvalidLetters", "InvalidVowels", "InvalidText", "InvalidConditions", "InvalidRules", "InvalidMode"]
def nms2 : List PySem.Str := ["SameEnding", "InvalidSteps", "InvalidExceptions", "Rule", "Step", "Stemmer", "ALPHABET", "_longest"]
def nms : List PySem.Str := nms0 ++ nms1 ++ nms2
def cks0 : List Hy.Ck := [Hy.cGlo "is_list",
  Hy.cGlo "is_number",
  Hy.cGlo "is_text_of",
  Hy.cGlo "is_choice_of",
  Hy.cGlo "is_word_of",
  Hy.cGlo "check_letters",
  Hy.cGlo "check_vowels",
  Hy.cGlo "check_text",
  Hy.cGlo "is_condition",
  Hy.cGlo "is_met",
  Hy.cGlo "plain_condition",
  Hy.cGlo "has_vowel",
  Hy.cGlo "count_runs",
  Hy.cGlo "_is_plain",
  Hy.cGlo "_is_plain_met",
  Hy.cGlo "_ends_double",
  Hy.cGlo "_has_shape",
  Hy.cGlo "bounds_of",
  Hy.cGlo "sight_of",
  Hy.cGlo "_plain_conditions"]
def cks1 : List Hy.Ck := [Hy.cGlo "longest_measures",
  Hy.cGlo "_greatest_number",
  Hy.cGlo "_letters_seen",
  Hy.cGlo "check_mode",
  Hy.cGlo "texts_of_rule",
  Hy.cGlo "rule_fits",
  Hy.cGlo "_check_conditions",
  Hy.cGlo "_check_rules",
  Hy.cGlo "_check_endings",
  Hy.cGlo "step_at",
  Hy.cGlo "rules_to_try",
  Hy.cGlo "longest_stepping",
  Hy.cGlo "_check_steps",
  Hy.cGlo "_check_exceptions",
  Hy.cGlo "_law_mixed",
  Hy.cGlo "_law_purse",
  Hy.cGlo "_law_draw",
  Hy.cGlo "_law_text",
  Hy.cGlo "_law_condition",
  Hy.cGlo "_law_rule"]
def cks2 : List Hy.Ck := [Hy.cGlo "_law_step",
  Hy.cGlo "_law_made_step",
  Hy.cGlo "_law_made",
  Hy.cGlo "_law_names",
  Hy.cGlo "_law_stemmer",
  Hy.cGlo "_law_longer",
  Hy.cGlo "_law_right",
  Hy.cGlo "law",
  Hy.cFree "AttributeError",
  Hy.cFree "all",
  Hy.cFree "any",
  Hy.cFree "bool",
  Hy.cFree "dict",
  Hy.cFree "enumerate",
  Hy.cFree "int",
  Hy.cFree "isinstance",
  Hy.cFree "len",
  Hy.cFree "list",
  Hy.cFree "max",
  Hy.cFree "min"]
def cks3 : List Hy.Ck := [Hy.cFree "property",
  Hy.cFree "range",
  Hy.cFree "set",
  Hy.cFree "sorted",
  Hy.cFree "str",
  Hy.cFree "sum",
  Hy.cFree "tuple",
  Hy.cFree "zip",
  Hy.cStr "ALPHABET" "abcdefghijklmnopqrstuvwxyz",
  Hy.cGlo "StemError",
  Hy.cGlo "InvalidLetters",
  Hy.cExc "InvalidLetters",
  Hy.cNo "InvalidLetters" "thing",
  Hy.cGlo "InvalidVowels",
  Hy.cExc "InvalidVowels",
  Hy.cNo "InvalidVowels" "thing",
  Hy.cGlo "InvalidText",
  Hy.cExc "InvalidText",
  Hy.cNo "InvalidText" "thing",
  Hy.cGlo "InvalidConditions"]
def cks4 : List Hy.Ck := [Hy.cExc "InvalidConditions",
  Hy.cNo "InvalidConditions" "place",
  Hy.cGlo "InvalidRules",
  Hy.cExc "InvalidRules",
  Hy.cNo "InvalidRules" "place",
  Hy.cGlo "InvalidMode",
  Hy.cExc "InvalidMode",
  Hy.cNo "InvalidMode" "thing",
  Hy.cGlo "SameEnding",
  Hy.cExc "SameEnding",
  Hy.cNo "SameEnding" "ending",
  Hy.cGlo "InvalidSteps",
  Hy.cExc "InvalidSteps",
  Hy.cNo "InvalidSteps" "place",
  Hy.cGlo "InvalidExceptions",
  Hy.cExc "InvalidExceptions",
  Hy.cNo "InvalidExceptions" "word",
  Hy.cExm "InvalidLetters" "StemError" true,
  Hy.cExm "InvalidLetters" "InvalidLetters" true,
  Hy.cExm "InvalidLetters" "InvalidVowels" false]
def cks5 : List Hy.Ck := [Hy.cExm "InvalidLetters" "InvalidText" false,
  Hy.cExm "InvalidLetters" "InvalidConditions" false,
  Hy.cExm "InvalidLetters" "InvalidRules" false,
  Hy.cExm "InvalidLetters" "InvalidMode" false,
  Hy.cExm "InvalidLetters" "SameEnding" false,
  Hy.cExm "InvalidLetters" "InvalidSteps" false,
  Hy.cExm "InvalidLetters" "InvalidExceptions" false,
  Hy.cExm "InvalidVowels" "StemError" true,
  Hy.cExm "InvalidVowels" "InvalidLetters" false,
  Hy.cExm "InvalidVowels" "InvalidVowels" true,
  Hy.cExm "InvalidVowels" "InvalidText" false,
  Hy.cExm "InvalidVowels" "InvalidConditions" false,
  Hy.cExm "InvalidVowels" "InvalidRules" false,
  Hy.cExm "InvalidVowels" "InvalidMode" false,
  Hy.cExm "InvalidVowels" "SameEnding" false,
  Hy.cExm "InvalidVowels" "InvalidSteps" false,
  Hy.cExm "InvalidVowels" "InvalidExceptions" false,
  Hy.cExm "InvalidText" "StemError" true,
  Hy.cExm "InvalidText" "InvalidLetters" false,
  Hy.cExm "InvalidText" "InvalidVowels" false]
def cks6 : List Hy.Ck := [Hy.cExm "InvalidText" "InvalidText" true,
  Hy.cExm "InvalidText" "InvalidConditions" false,
  Hy.cExm "InvalidText" "InvalidRules" false,
  Hy.cExm "InvalidText" "InvalidMode" false,
  Hy.cExm "InvalidText" "SameEnding" false,
  Hy.cExm "InvalidText" "InvalidSteps" false,
  Hy.cExm "InvalidText" "InvalidExceptions" false,
  Hy.cExm "InvalidConditions" "StemError" true,
  Hy.cExm "InvalidConditions" "InvalidLetters" false,
  Hy.cExm "InvalidConditions" "InvalidVowels" false,
  Hy.cExm "InvalidConditions" "InvalidText" false,
  Hy.cExm "InvalidConditions" "InvalidConditions" true,
  Hy.cExm "InvalidConditions" "InvalidRules" false,
  Hy.cExm "InvalidConditions" "InvalidMode" false,
  Hy.cExm "InvalidConditions" "SameEnding" false,
  Hy.cExm "InvalidConditions" "InvalidSteps" false,
  Hy.cExm "InvalidConditions" "InvalidExceptions" false,
  Hy.cExm "InvalidRules" "StemError" true,
  Hy.cExm "InvalidRules" "InvalidLetters" false,
  Hy.cExm "InvalidRules" "InvalidVowels" false]
def cks7 : List Hy.Ck := [Hy.cExm "InvalidRules" "InvalidText" false,
  Hy.cExm "InvalidRules" "InvalidConditions" false,
  Hy.cExm "InvalidRules" "InvalidRules" true,
  Hy.cExm "InvalidRules" "InvalidMode" false,
  Hy.cExm "InvalidRules" "SameEnding" false,
  Hy.cExm "InvalidRules" "InvalidSteps" false,
  Hy.cExm "InvalidRules" "InvalidExceptions" false,
  Hy.cExm "InvalidMode" "StemError" true,
  Hy.cExm "InvalidMode" "InvalidLetters" false,
  Hy.cExm "InvalidMode" "InvalidVowels" false,
  Hy.cExm "InvalidMode" "InvalidText" false,
  Hy.cExm "InvalidMode" "InvalidConditions" false,
  Hy.cExm "InvalidMode" "InvalidRules" false,
  Hy.cExm "InvalidMode" "InvalidMode" true,
  Hy.cExm "InvalidMode" "SameEnding" false,
  Hy.cExm "InvalidMode" "InvalidSteps" false,
  Hy.cExm "InvalidMode" "InvalidExceptions" false,
  Hy.cExm "SameEnding" "StemError" true,
  Hy.cExm "SameEnding" "InvalidLetters" false,
  Hy.cExm "SameEnding" "InvalidVowels" false]
def cks8 : List Hy.Ck := [Hy.cExm "SameEnding" "InvalidText" false,
  Hy.cExm "SameEnding" "InvalidConditions" false,
  Hy.cExm "SameEnding" "InvalidRules" false,
  Hy.cExm "SameEnding" "InvalidMode" false,
  Hy.cExm "SameEnding" "SameEnding" true,
  Hy.cExm "SameEnding" "InvalidSteps" false,
  Hy.cExm "SameEnding" "InvalidExceptions" false,
  Hy.cExm "InvalidSteps" "StemError" true,
  Hy.cExm "InvalidSteps" "InvalidLetters" false,
  Hy.cExm "InvalidSteps" "InvalidVowels" false,
  Hy.cExm "InvalidSteps" "InvalidText" false,
  Hy.cExm "InvalidSteps" "InvalidConditions" false,
  Hy.cExm "InvalidSteps" "InvalidRules" false,
  Hy.cExm "InvalidSteps" "InvalidMode" false,
  Hy.cExm "InvalidSteps" "SameEnding" false,
  Hy.cExm "InvalidSteps" "InvalidSteps" true,
  Hy.cExm "InvalidSteps" "InvalidExceptions" false,
  Hy.cExm "InvalidExceptions" "StemError" true,
  Hy.cExm "InvalidExceptions" "InvalidLetters" false,
  Hy.cExm "InvalidExceptions" "InvalidVowels" false]
def cks9 : List Hy.Ck := [Hy.cExm "InvalidExceptions" "InvalidText" false,
  Hy.cExm "InvalidExceptions" "InvalidConditions" false,
  Hy.cExm "InvalidExceptions" "InvalidRules" false,
  Hy.cExm "InvalidExceptions" "InvalidMode" false,
  Hy.cExm "InvalidExceptions" "SameEnding" false,
  Hy.cExm "InvalidExceptions" "InvalidSteps" false,
  Hy.cExm "InvalidExceptions" "InvalidExceptions" true,
  Hy.cCls "Rule",
  Hy.cGlo "Rule",
  Hy.cProp "Rule" "ending",
  Hy.cProp "Rule" "put",
  Hy.cProp "Rule" "conditions",
  Hy.cOwn "Rule",
  Hy.cNo "Rule" "_ending",
  Hy.cNo "Rule" "_put",
  Hy.cNo "Rule" "_conditions",
  Hy.cNil (Hy.aK "Rule" "__init__" "conditions"),
  Hy.cSub "Rule" "Rule" true,
  Hy.cSub "Rule" "Step" false,
  Hy.cSub "Rule" "Stemmer" false]
def cks10 : List Hy.Ck := [Hy.cCls "Step",
  Hy.cGlo "Step",
  Hy.cProp "Step" "rules",
  Hy.cProp "Step" "mode",
  Hy.cOwn "Step",
  Hy.cNo "Step" "_rules",
  Hy.cNo "Step" "_mode",
  Hy.cSub "Step" "Rule" false,
  Hy.cSub "Step" "Step" true,
  Hy.cSub "Step" "Stemmer" false,
  Hy.cCls "Stemmer",
  Hy.cGlo "Stemmer",
  Hy.cProp "Stemmer" "letters",
  Hy.cProp "Stemmer" "vowels",
  Hy.cProp "Stemmer" "steps",
  Hy.cProp "Stemmer" "exceptions",
  Hy.cMeth "Stemmer" "stem",
  Hy.cMeth "Stemmer" "trace",
  Hy.cMeth "Stemmer" "sight",
  Hy.cMeth "Stemmer" "bounds"]
def cks11 : List Hy.Ck := [Hy.cMeth "Stemmer" "without",
  Hy.cOwn "Stemmer",
  Hy.cNo "Stemmer" "_letters",
  Hy.cNo "Stemmer" "_vowels",
  Hy.cNo "Stemmer" "_steps",
  Hy.cNo "Stemmer" "_exceptions",
  Hy.cNo "Stemmer" "_bounds",
  Hy.cSub "Stemmer" "Rule" false,
  Hy.cSub "Stemmer" "Step" false,
  Hy.cSub "Stemmer" "Stemmer" true,
  Hy.kwC (Hy.aM "Stemmer" "__init__") (fun K => [("exceptions", .non)]),
  Hy.kwC (Hy.aM "Step" "__init__") (fun K => [("mode", .str "longest")]),
  Hy.kwC (Hy.aM "Rule" "__init__") (fun K => [("conditions", .ref (Hy.aK "Rule" "__init__" "conditions" K))])]
def cks : List Hy.Ck := [Hy.allC cks0, Hy.allC cks1, Hy.allC cks2, Hy.allC cks3, Hy.allC cks4, Hy.allC cks5, Hy.allC cks6, Hy.allC cks7, Hy.allC cks8, Hy.allC cks9, Hy.allC cks10, Hy.allC cks11]
def dfs0 : List Hy.Df := [⟨Hy.aG "is_list", "is_list", "is_list", s_is_list⟩,
  ⟨Hy.aG "is_number", "is_number", "is_number", s_is_number⟩,
  ⟨Hy.aG "is_text_of", "is_text_of", "is_text_of", s_is_text_of⟩,
  ⟨Hy.aG "is_choice_of", "is_choice_of", "is_choice_of", s_is_choice_of⟩,
  ⟨Hy.aG "is_word_of", "is_word_of", "is_word_of", s_is_word_of⟩,
  ⟨Hy.aG "check_letters", "check_letters", "check_letters", s_check_letters⟩,
  ⟨Hy.aG "check_vowels", "check_vowels", "check_vowels", s_check_vowels⟩,
  ⟨Hy.aG "check_text", "check_text", "check_text", s_check_text⟩,
  ⟨Hy.aG "is_condition", "is_condition", "is_condition", s_is_condition⟩,
  ⟨Hy.aG "is_met", "is_met", "is_met", s_is_met⟩,
  ⟨Hy.aG "plain_condition", "plain_condition", "plain_condition", s_plain_condition⟩,
  ⟨Hy.aG "has_vowel", "has_vowel", "has_vowel", s_has_vowel⟩,
  ⟨Hy.aG "count_runs", "count_runs", "count_runs", s_count_runs⟩,
  ⟨Hy.aG "_is_plain", "_is_plain", "_is_plain", s_is_plain⟩,
  ⟨Hy.aG "_is_plain_met", "_is_plain_met", "_is_plain_met", s_is_plain_met⟩,
  ⟨Hy.aG "_ends_double", "_ends_double", "_ends_double", s_ends_double⟩,
  ⟨Hy.aG "_has_shape", "_has_shape", "_has_shape", s_has_shape⟩,
  ⟨Hy.aG "bounds_of", "bounds_of", "bounds_of", s_bounds_of⟩,
  ⟨Hy.aG "sight_of", "sight_of", "sight_of", s_sight_of⟩,
  ⟨Hy.aG "_plain_conditions", "_plain_conditions", "_plain_conditions", s_plain_conditions⟩]
def dfs1 : List Hy.Df := [⟨Hy.aG "longest_measures", "_longest", "_longest", s_longest_measures⟩,
  ⟨Hy.aG "_greatest_number", "_greatest_number", "_greatest_number", s_greatest_number⟩,
  ⟨Hy.aG "_letters_seen", "_letters_seen", "_letters_seen", s_letters_seen⟩,
  ⟨Hy.aG "check_mode", "check_mode", "check_mode", s_check_mode⟩,
  ⟨Hy.aG "texts_of_rule", "texts_of_rule", "texts_of_rule", s_texts_of_rule⟩,
  ⟨Hy.aG "rule_fits", "rule_fits", "rule_fits", s_rule_fits⟩,
  ⟨Hy.aG "_check_conditions", "_check_conditions", "_check_conditions", s_check_conditions⟩,
  ⟨Hy.aG "_check_rules", "_check_rules", "_check_rules", s_check_rules⟩,
  ⟨Hy.aG "_check_endings", "_check_endings", "_check_endings", s_check_endings⟩,
  ⟨Hy.aG "step_at", "step_at", "step_at", s_step_at⟩,
  ⟨Hy.aG "rules_to_try", "rules_to_try", "rules_to_try", s_rules_to_try⟩,
  ⟨Hy.aG "longest_stepping", "_longest", "_longest", s_longest_stepping⟩,
  ⟨Hy.aG "_check_steps", "_check_steps", "_check_steps", s_check_steps⟩,
  ⟨Hy.aG "_check_exceptions", "_check_exceptions", "_check_exceptions", s_check_exceptions⟩,
  ⟨Hy.aG "_law_mixed", "_law_mixed", "_law_mixed", s_law_mixed⟩,
  ⟨Hy.aG "_law_purse", "_law_purse", "_law_purse", s_law_purse⟩,
  ⟨Hy.aG "_law_draw", "_law_draw", "_law_draw", s_law_draw⟩,
  ⟨Hy.aG "_law_text", "_law_text", "_law_text", s_law_text⟩,
  ⟨Hy.aG "_law_condition", "_law_condition", "_law_condition", s_law_condition⟩,
  ⟨Hy.aG "_law_rule", "_law_rule", "_law_rule", s_law_rule⟩]
def dfs2 : List Hy.Df := [⟨Hy.aG "_law_step", "_law_step", "_law_step", s_law_step⟩,
  ⟨Hy.aG "_law_made_step", "_law_made_step", "_law_made_step", s_law_made_step⟩,
  ⟨Hy.aG "_law_made", "_law_made", "_law_made", s_law_made⟩,
  ⟨Hy.aG "_law_names", "_law_names", "_law_names", s_law_names⟩,
  ⟨Hy.aG "_law_stemmer", "_law_stemmer", "_law_stemmer", s_law_stemmer⟩,
  ⟨Hy.aG "_law_longer", "_law_longer", "_law_longer", s_law_longer⟩,
  ⟨Hy.aG "_law_right", "_law_right", "_law_right", s_law_right⟩,
  ⟨Hy.aG "law", "law", "law", s_law⟩,
  ⟨Hy.aM "InvalidLetters" "__init__", "__init__", "InvalidLetters.__init__", s_InvalidLetters_init⟩,
  ⟨Hy.aM "InvalidVowels" "__init__", "__init__", "InvalidVowels.__init__", s_InvalidVowels_init⟩,
  ⟨Hy.aM "InvalidText" "__init__", "__init__", "InvalidText.__init__", s_InvalidText_init⟩,
  ⟨Hy.aM "InvalidConditions" "__init__", "__init__", "InvalidConditions.__init__", s_InvalidConditions_init⟩,
  ⟨Hy.aM "InvalidRules" "__init__", "__init__", "InvalidRules.__init__", s_InvalidRules_init⟩,
  ⟨Hy.aM "InvalidMode" "__init__", "__init__", "InvalidMode.__init__", s_InvalidMode_init⟩,
  ⟨Hy.aM "SameEnding" "__init__", "__init__", "SameEnding.__init__", s_SameEnding_init⟩,
  ⟨Hy.aM "InvalidSteps" "__init__", "__init__", "InvalidSteps.__init__", s_InvalidSteps_init⟩,
  ⟨Hy.aM "InvalidExceptions" "__init__", "__init__", "InvalidExceptions.__init__", s_InvalidExceptions_init⟩,
  ⟨Hy.aM "Rule" "__init__", "__init__", "Rule.__init__", s_Rule_init⟩,
  ⟨Hy.aP "Rule" "ending", "ending", "Rule.ending", s_Rule_ending⟩,
  ⟨Hy.aP "Rule" "put", "put", "Rule.put", s_Rule_put⟩]
def dfs3 : List Hy.Df := [⟨Hy.aP "Rule" "conditions", "conditions", "Rule.conditions", s_Rule_conditions⟩,
  ⟨Hy.aM "Rule" "__eq__", "__eq__", "Rule.__eq__", s_Rule_eq⟩,
  ⟨Hy.aM "Step" "__init__", "__init__", "Step.__init__", s_Step_init⟩,
  ⟨Hy.aP "Step" "rules", "rules", "Step.rules", s_Step_rules⟩,
  ⟨Hy.aP "Step" "mode", "mode", "Step.mode", s_Step_mode⟩,
  ⟨Hy.aM "Step" "__eq__", "__eq__", "Step.__eq__", s_Step_eq⟩,
  ⟨Hy.aM "Stemmer" "__init__", "__init__", "Stemmer.__init__", s_Stemmer_init⟩,
  ⟨Hy.aP "Stemmer" "letters", "letters", "Stemmer.letters", s_Stemmer_letters⟩,
  ⟨Hy.aP "Stemmer" "vowels", "vowels", "Stemmer.vowels", s_Stemmer_vowels⟩,
  ⟨Hy.aP "Stemmer" "steps", "steps", "Stemmer.steps", s_Stemmer_steps⟩,
  ⟨Hy.aP "Stemmer" "exceptions", "exceptions", "Stemmer.exceptions", s_Stemmer_exceptions⟩,
  ⟨Hy.aM "Stemmer" "__eq__", "__eq__", "Stemmer.__eq__", s_Stemmer_eq⟩,
  ⟨Hy.aM "Stemmer" "stem", "stem", "Stemmer.stem", s_Stemmer_stem⟩,
  ⟨Hy.aM "Stemmer" "trace", "trace", "Stemmer.trace", s_Stemmer_trace⟩,
  ⟨Hy.aM "Stemmer" "sight", "sight", "Stemmer.sight", s_Stemmer_sight⟩,
  ⟨Hy.aM "Stemmer" "bounds", "bounds", "Stemmer.bounds", s_Stemmer_bounds⟩,
  ⟨Hy.aM "Stemmer" "without", "without", "Stemmer.without", s_Stemmer_without⟩]
def dfs : List Hy.Df := dfs0 ++ dfs1 ++ dfs2 ++ dfs3
abbrev R : PySem.W.OpenRow := PySem.W.OpenLaw.row PySem.Challenge.rw_stemsteps_k91_whole_sights_tell_what_fol
abbrev hk : PySem.W.Hook := Hy.hookY 1300 cks dfs
def ob (s : PySem.W.SharedT) : Hy.Al := Hy.obsYG 1300 cks dfs (HandSHeadRun.getT s)
theorem ob_eq (s : PySem.W.SharedT) : ob s = hk.obs s.abs := Hy.obsYG_eq (HandSHeadRun.getT_eq s)
set_option maxHeartbeats 0 in
theorem runA (w : World) : Hy.RunA R (PySem.W.view R.prog [77]) 30000 nms w := by
  intro os
  kernel_rfl
set_option maxHeartbeats 0 in
theorem runB (w : World) : Hy.RunB R ob (hk.val w) 30000 w := by
  intro os
  kernel_rfl
theorem run (w : World) : HandSHeadRun.RunEq R (PySem.W.view R.prog [77]) hk ob 30000 nms w := Hy.run_ab (runA w) (runB w)
end K91
set_option Elab.async false
set_option linter.all false
set_option maxRecDepth 100000
set_option maxHeartbeats 4000000
/-! my layer: rules by kind, the heap without what changes -/
namespace L2
open PySem PySem.Spec PyProof.Rows
/-! ### rules that join the kinds -/
def rAddT : R2 := fun x y H Q => ∃ i j, x = .str i ∧ y = .str j ∧ i.length + j.length ≤ sizeLine ∧ Q (.str (i ++ j)) H
def rAddI : R2 := rI0 fun i j => .int (i + j)
def rAddA (K : PySem.W.Frag) : R2 := fun x y H Q => rAddI x y H Q ∨ rAddT x y H Q ∨ rCat x y H Q ∨ rCatA K x y H Q
def rEqA (K : PySem.W.Frag) : R2 := fun x y H Q => rEq x y H Q ∨ rEqD K x y H Q
def rNeA (K : PySem.W.Frag) : R2 := fun x y H Q => rNe x y H Q ∨ rNeD K x y H Q
def CPowW (i j : Int) : Prop := 0 ≤ j ∧ j ≤ 1000 ∧ i.natAbs < 2 ^ 4000
def rSlAny (K : PySem.W.Frag) : V → Option Int → Option Int → Hp → VK → Prop := fun x lo hi H Q => rSlS x lo hi H Q ∨ rSlL K x lo hi H Q ∨ rSlA K x lo hi H Q
theorem bits_lt {i : Int} {n : Nat} (h : i.natAbs < 2 ^ n) : Builtin.Int.intBits i ≤ n + 1 := by
  unfold Builtin.Int.intBits
  split
  · omega
  · rename_i h0
    have h1 : i.natAbs ≠ 0 := by simpa using h0
    have := (Nat.log2_lt h1).mpr h
    omega
section
variable {X : Cx}
theorem op_addA : OpR X (binaryOp .Add) (rAddA X.K) := op_add.or (op_add_str.or (op_cat.or op_catA))
theorem op_eqA (hu : X.A.units + 64 < cLine) : OpR X (compareOp .Eq) (rEqA X.K) := op_eq.or (op_eqD hu)
theorem op_neA (hu : X.A.units + 64 < cLine) : OpR X (compareOp .NotEq) (rNeA X.K) := op_ne.or (op_neD hu)
theorem op_powW : OpR X (binaryOp .Pow) (rI CPowW fun i j => .int (i ^ j.toNat)) := opI fun i j _ _ _ _ _ hc q => pow_int hc.1 (by
    have h1 := bits_lt hc.2.2
    have h2 := hc.2.1
    have h3 := hc.1
    have h4 : (Builtin.Int.intBits i : Int) ≤ 4001 := by omega
    have h5 : (Builtin.Int.intBits i : Int) * j ≤ 4001 * 1000 := Int.mul_le_mul h4 h2 h3 (by omega)
    omega) q
theorem sl_any : SlR X (rSlAny X.K) := sl_str.or (sl_list.or sl_tupA)
end
theorem hu64 {A : Around} {k : Nat} (hr : Room k A) : A.units + 64 < cLine := by have := hr.un; omega
theorem hu65 {A : Around} {k : Nat} (hr : Room k A) : A.units + 65 < cLine := by have := hr.un; omega
/-! ### the heap without the addresses S, which may change -/
def Hd (S : List Addr) (H : Hp) : Hp := fun a => if a ∈ S then none else H a
theorem hd_in {S : List Addr} {H : Hp} {a : Addr} (h : a ∈ S) : Hd S H a = none := if_pos h
theorem hd_out {S : List Addr} {H : Hp} {a : Addr} (h : a ∉ S) : Hd S H a = H a := if_neg h
def Gr (S : List Addr) (H H' : Hp) : Prop := ∀ a o, a ∉ S → H a = some o → H' a = some o
theorem Gr.refl {S : List Addr} {H : Hp} : Gr S H H := fun _ _ _ h => h
theorem Gr.trans {S : List Addr} {H H1 H2 : Hp} (a : Gr S H H1) (b : Gr S H1 H2) : Gr S H H2 := fun x o n h => b x o n (a x o n h)
theorem Gr.new {S : List Addr} {H : Hp} {p : Addr} {o : HO} (h : H p = none) : Gr S H (upd H p o) := fun a u _ e => by
  rw [upd_ne (ne_of_none e h)]
  exact e
theorem Gr.mut {S : List Addr} {H : Hp} {p : Addr} {o : HO} (h : p ∈ S) : Gr S H (upd H p o) := fun a u n e => by
  have ne : a ≠ p := fun z => n (by rw [z]; exact h)
  rw [upd_ne ne]
  exact e
theorem Gr.of {S : List Addr} {H H' : Hp} (h : Same H H') : Gr S H H' := fun a o _ e => h a o e
theorem Gr.more {S S' : List Addr} {H H' : Hp} (g : Gr S H H') (h : ∀ a ∈ S, a ∈ S') : Gr S' H H' := fun a o n e => g a o (fun z => n (h a z)) e
theorem Gr.same {H H' : Hp} (h : Gr [] H H') : Same H H' := fun a o e => h a o (by simp) e
theorem Gr.hd {S : List Addr} {H H' : Hp} (g : Gr S H H') : Same (Hd S H) (Hd S H') := fun a o e => by
  by_cases h : a ∈ S
  · rw [hd_in h] at e; cases e
  · rw [hd_out h] at e ⊢
    exact g a o h e
/-- a list that was new and has changed since -/
theorem Gr.less {S : List Addr} {H H' : Hp} {p : Addr} (g : Gr (p :: S) H H') (h : H p = none) : Gr S H H' := fun a o n e => by
  refine g a o (fun z => ?_) e
  rcases List.mem_cons.mp z with z | z
  · rw [z, h] at e; cases e
  · exact n z
theorem Gr.free {S : List Addr} {H H' : Hp} (g : Gr S H H') {p : Addr} (h : H' p = none) (n : p ∉ S) : H p = none := by
  cases q : H p with
  | none => rfl
  | some o =>
    rw [g p o n q] at h
    cases h
/-! ### data in the heap -/
section
variable {K : PySem.W.Frag} {H H' : Hp}
mutual
theorem Dp.up (e : Same H H') : ∀ {v : V} {d : PyData}, Dp K H v d → Dp K H' v d
  | _, _, .non => .non
  | _, _, .bl b => .bl b
  | _, _, .int i => .int i
  | _, _, .str x => .str x
  | _, _, .lst h a => .lst (e.seq h) (DpAll.up e a)
  | _, _, .tup h a => .tup (Evl.ex_t e h) (DpAll.up e a)
theorem DpAll.up (e : Same H H') : ∀ {vs : List V} {ds : List PyData}, DpAll K H vs ds → DpAll K H' vs ds
  | _, _, .nil => .nil
  | _, _, .cons h t => .cons (Dp.up e h) (DpAll.up e t)
end
/-- data that does not lean on S -/
def Dq (K : PySem.W.Frag) (S : List Addr) (H : Hp) (v : V) (d : PyData) : Prop := Dp K (Hd S H) v d
def DqAll (K : PySem.W.Frag) (S : List Addr) (H : Hp) (v : List V) (d : List PyData) : Prop := DpAll K (Hd S H) v d
variable {S : List Addr} {v : V} {d : PyData} {vs : List V} {ds : List PyData}
theorem Dq.up (h : Dq K S H v d) (g : Gr S H H') : Dq K S H' v d := Dp.up g.hd h
theorem DqAll.up (h : DqAll K S H vs ds) (g : Gr S H H') : DqAll K S H' vs ds := DpAll.up g.hd h
theorem hd_same (S : List Addr) (H : Hp) : Same (Hd S H) H := fun a o e => by
  by_cases h : a ∈ S
  · rw [hd_in h] at e; cases e
  · rw [hd_out h] at e; exact e
theorem Dq.dp (h : Dq K S H v d) : Dp K H v d := Dp.up (hd_same S H) h
theorem DqAll.dp (h : DqAll K S H vs ds) : DpAll K H vs ds := DpAll.up (hd_same S H) h
theorem Dq.less {S' : List Addr} (h : Dq K S H v d) (s : ∀ a ∈ S', a ∈ S) : Dq K S' H v d := Dp.up (fun a o e => by
    by_cases q : a ∈ S
    · rw [hd_in q] at e; cases e
    · rw [hd_out q] at e; rw [hd_out (fun z => q (s a z))]; exact e) h
theorem Dq.nil (h : Dp K H v d) : Dq K [] H v d := Dp.up (fun a o e => by rw [hd_out (by simp)]; exact e) h
/-- what is in S stands -/
def Live (S : List Addr) (H : Hp) : Prop := ∀ a ∈ S, H a ≠ none
theorem Live.nin (l : Live S H) {p : Addr} (h : H p = none) : p ∉ S := fun z => l p z h
theorem Dq.tup {p : Addr} (l : p ∉ S) (h : H p = some (.tup vs)) (a : DqAll K S H vs ds) : Dq K S H (.ref p) (.tuple ds) :=
  Dp.tup (.inl (.inl (by rw [hd_out l]; exact h))) a
theorem Dq.lst {p : Addr} (l : p ∉ S) (h : H p = some (.lst vs)) (a : DqAll K S H vs ds) : Dq K S H (.ref p) (.list ds) :=
  Dp.lst (.inl (.inl (by rw [hd_out l]; exact h))) a
theorem Dq.newT {p : Addr} (l : Live S H) (h : H p = none) (a : DqAll K S H vs ds) : Dq K S (upd H p (.tup vs)) (.ref p) (.tuple ds) :=
  Dq.tup (l.nin h) upd_same (a.up (Gr.new h))
theorem DqAll.nil : DqAll K S H [] [] := DpAll.nil
theorem DqAll.cons (h : Dq K S H v d) (t : DqAll K S H vs ds) : DqAll K S H (v :: vs) (d :: ds) := DpAll.cons h t
theorem Dq.str (x : Str) : Dq K S H (.str x) (.str x) := Dp.str x
theorem Dq.int (x : Int) : Dq K S H (.int x) (.int x) := Dp.int x
theorem Dq.bl (x : Bool) : Dq K S H (.bl x) (.bool x) := Dp.bl x
theorem Dq.non : Dq K S H .non .none := Dp.non
theorem Live.up (l : Live S H) (h : ∀ a o, H a = some o → ∃ o', H' a = some o') : Live S H' := fun a m z => by
  cases q : H a with
  | none => exact l a m q
  | some o => obtain ⟨o', e⟩ := h a o q; rw [e] at z; cases z
theorem DpAll.get : ∀ {vs : List V} {ds : List PyData}, DpAll K H vs ds → ∀ {i : Nat} {d : PyData}, ds[i]? = some d → ∃ v, vs[i]? = some v ∧ Dp K H v d
  | _, _, .nil, i, d, h => by simp at h
  | _, _, .cons a t, 0, d, h => by
    have e : _ = d := Option.some.inj h
    subst e
    exact ⟨_, rfl, a⟩
  | _, _, .cons a t, i + 1, d, h => DpAll.get t (i := i) h
theorem DpAll.len : ∀ {vs : List V} {ds : List PyData}, DpAll K H vs ds → vs.length = ds.length
  | _, _, .nil => rfl
  | _, _, .cons a t => congrArg (· + 1) (DpAll.len t)
theorem DpAll.append : ∀ {vs ws : List V} {ds es : List PyData}, DpAll K H vs ds → DpAll K H ws es → DpAll K H (vs ++ ws) (ds ++ es)
  | _, _, _, _, .nil, h => h
  | _, _, _, _, .cons a t, h => .cons a (DpAll.append t h)
theorem DqAll.append {ws : List V} {es : List PyData} (a : DqAll K S H vs ds) (b : DqAll K S H ws es) : DqAll K S H (vs ++ ws) (ds ++ es) := DpAll.append a b
end
/-! ### values by operators -/
def RV0 (r : R2) (x y : V) (H : Hp) (z : V) : Prop := ∀ Q : VK, Q z H → r x y H Q
section
variable {K : PySem.W.Frag} {σ : St} {H : Hp} {ta tb te : TE} {x y z v : V} {r : R2} {t : TT} {b : Bool}
theorem val_bin (ha : Val ta σ H x) (hb : Val tb σ H y) (hr : RV0 r x y H z) : Val (tOp r ta tb) σ H z := val_op ha hb hr
theorem rv_addI {i j : Int} : RV0 (rAddA K) (.int i) (.int j) H (.int (i + j)) := fun _ q => .inl ⟨i, j, rfl, rfl, q⟩
theorem rv_addS {i j : Str} (h : i.length + j.length ≤ 100000) : RV0 (rAddA K) (.str i) (.str j) H (.str (i ++ j)) := fun _ q => .inr (.inl ⟨i, j, rfl, rfl, Evl.sz_of h, q⟩)
theorem rv_eq (h : scal x y = true) : RV0 (rEqA K) x y H (.bl (decide (x = y))) := fun _ q => .inl ⟨h, q⟩
theorem rv_eqD {d e : PyData} (hd : Dp K H x d) (he : Dp K H y e) (sd : SeqAt.shaped d = true) (se : SeqAt.shaped e = true) : RV0 (rEqA K) x y H (.bl (PyData.eqv d e)) := fun _ q => .inr ⟨d, e, hd, he, sd, se, q⟩
theorem rv_neD {d e : PyData} (hd : Dp K H x d) (he : Dp K H y e) (sd : SeqAt.shaped d = true) (se : SeqAt.shaped e = true) : RV0 (rNeA K) x y H (.bl (!PyData.eqv d e)) := fun _ q => .inr ⟨d, e, hd, he, sd, se, q⟩
theorem rv_ne (h : scal x y = true) : RV0 (rNeA K) x y H (.bl (!decide (x = y))) := fun _ q => .inl ⟨h, q⟩
theorem rv_ixL {p : Addr} {xs : List V} {i : Int} (h : SqL K H p xs) (ha : atI xs i = some v) : RV0 (rIx K) (.ref p) (.int i) H v := fun _ q => .inl ⟨p, xs, i, v, rfl, rfl, h, ha, q⟩
theorem rv_ixT {p : Addr} {xs : List V} {i : Int} (h : SqT K H p xs) (ha : atI xs i = some v) : RV0 (rIx K) (.ref p) (.int i) H v := fun _ q => .inr (.inl ⟨p, xs, i, v, rfl, rfl, h, ha, q⟩)
theorem rv_ixS {w : Str} {i : Int} {c : Nat} (h : w.length ≤ 100000) (ha : atI w.cps.toList i = some c) : RV0 (rIx K) (.str w) (.int i) H (.str ⟨#[c]⟩) := fun _ q => .inr (.inr ⟨w, i, c, rfl, rfl, Evl.sz_of h, ha, q⟩)
theorem ans_of (h : Val te σ H (.bl b)) : Ans (tTest te) σ H b := fun Q q => h _ ⟨b, rfl, q⟩
end
end L2
set_option Elab.async false
set_option linter.all false
set_option maxRecDepth 100000
set_option maxHeartbeats 4000000
namespace L2
open PySem PySem.Spec PyProof.Rows
/-! ### built-ins by named readings -/
def rInt1 : List V → Hp → VK → Prop := fun xs H Q => (∃ i, xs = [.int i] ∧ Q (.int i) H) ∨ ∃ k, xs = [.bl k] ∧ Q (.int (if k then 1 else 0)) H
def rMax2 : List V → Hp → VK → Prop := fun xs H Q => ∃ i j, xs = [.int i, .int j] ∧ Q (.int (if j > i then j else i)) H
def rMin2 : List V → Hp → VK → Prop := fun xs H Q => ∃ i j, xs = [.int i, .int j] ∧ Q (.int (if j < i then j else i)) H
def rLenA (K : PySem.W.Frag) : List V → Hp → VK → Prop := fun xs H Q => ∃ x n, xs = [x] ∧ LenV K x H n ∧ Q (.int n) H
def rEndsw : V → List V → Hp → VK → Prop := fun x xs H Q => ∃ a b, x = .str a ∧ xs = [.str b] ∧ Q (.bl (Txt.endswith a b)) H
def rInC : R2 := fun x y H Q => ∃ (c : Nat) (z : Str), x = .str ⟨#[c]⟩ ∧ y = .str z ∧ Q (.bl (decide (c ∈ z.cps.toList))) H
def rNotInC : R2 := fun x y H Q => ∃ (c : Nat) (z : Str), x = .str ⟨#[c]⟩ ∧ y = .str z ∧ Q (.bl (!decide (c ∈ z.cps.toList))) H
def rTupOf (K : PySem.W.Frag) : List V → Hp → VK → Prop := fun xs H Q => ∃ p ys, xs = [.ref p] ∧ ((SqL K H p ys ∧ ∀ l, H l = none → Q (.ref l) (upd H l (.tup ys))) ∨ (SqT K H p ys ∧ Q (.ref p) H))
def rJoin (K : PySem.W.Frag) : V → List V → Hp → VK → Prop := fun x xs H Q => ∃ a p, ∃ ys : List Str, x = .str a ∧ xs = [.ref p] ∧ (SqL K H p (ys.map V.str) ∨ SqT K H p (ys.map V.str)) ∧ (ys.map (·.length)).sum + ys.length * a.length ≤ 16777216 ∧ Q (.str (Txt.join a ys)) H
def rLt : R2 := rI0 fun i j => .bl (decide (i < j))
def rLe : R2 := rI0 fun i j => .bl (decide (i ≤ j))
def rPow : R2 := rI CPowW fun i j => .int (i ^ j.toNat)
def rModP : R2 := rI (fun _ j => 0 < j) fun i j => .int (i % j)
def rDivP : R2 := rI CDivW fun i j => .int (i / j)
def rMulI : R2 := rI CMul fun i j => .int (i * j)
def rSubI : R2 := rI0 fun i j => .int (i - j)
def rIsBo (n : Bool) : R2 := fun x y H Q => ∃ a b, x = .bl a ∧ y = .bl b ∧ Q (.bl (if n then !decide (a = b) else decide (a = b))) H
section
variable {X : Cx}
theorem call_intA : CallR X (.type "int") rInt1 := call_int1
theorem call_maxA (hc : X.calm = true) : CallR X (.builtin "max") rMax2 := call_max2 hc
theorem call_minA (hc : X.calm = true) : CallR X (.builtin "min") rMin2 := call_min2 hc
theorem call_lenA : CallR X (.builtin "len") (rLenA X.K) := call_len
theorem mt_endswA : MtR X "str.endswith" rEndsw := mt_endswith
theorem op_inC : OpR X (compareOp .In) rInC := op_in_sign
theorem op_notInC : OpR X (compareOp .NotIn) rNotInC := op_notIn_sign
theorem call_tupA : CallR X (.type "tuple") (rTupOf X.K) := call_tuple_of
theorem op_ltA : OpR X (compareOp .Lt) rLt := op_lt
theorem op_gtA : OpR X (compareOp .Gt) rGt := op_gt
theorem op_geA : OpR X (compareOp .GtE) rGe := op_ge
theorem op_powA : OpR X (binaryOp .Pow) rPow := op_powW
theorem op_modA : OpR X (binaryOp .Mod) rModP := op_mod
theorem op_divA : OpR X (binaryOp .FloorDiv) rDivP := op_fdivW
theorem op_mulI : OpR X (binaryOp .Mult) rMulI := op_mul
theorem op_subA : OpR X (binaryOp .Sub) rSubI := op_sub
end
section
variable {K : PySem.W.Frag} {σ : St} {H : Hp} {ta tb te : TE} {x y z v : V} {r : R2} {t u : TT} {b : Bool} {i j : Int} {D : Ends} {tz tu tw ts : TS}
theorem rv_lt : RV0 rLt (.int i) (.int j) H (.bl (decide (i < j))) := fun _ q => ⟨i, j, rfl, rfl, q⟩
theorem rv_le : RV0 rLe (.int i) (.int j) H (.bl (decide (i ≤ j))) := fun _ q => ⟨i, j, rfl, rfl, q⟩
theorem rv_gt : RV0 rGt (.int i) (.int j) H (.bl (decide (j < i))) := fun _ q => ⟨i, j, rfl, rfl, q⟩
theorem rv_ge : RV0 rGe (.int i) (.int j) H (.bl (decide (j ≤ i))) := fun _ q => ⟨i, j, rfl, rfl, q⟩
theorem rv_pow (h : CPowW i j) : RV0 rPow (.int i) (.int j) H (.int (i ^ j.toNat)) := fun _ q => ⟨i, j, rfl, rfl, h, q⟩
theorem rv_mod (h : 0 < j) : RV0 rModP (.int i) (.int j) H (.int (i % j)) := fun _ q => ⟨i, j, rfl, rfl, h, q⟩
theorem rv_div (h : CDivW i j) : RV0 rDivP (.int i) (.int j) H (.int (i / j)) := fun _ q => ⟨i, j, rfl, rfl, h, q⟩
theorem rv_mul (h : CMul i j) : RV0 rMulI (.int i) (.int j) H (.int (i * j)) := fun _ q => ⟨i, j, rfl, rfl, h, q⟩
theorem rv_sub : RV0 rSubI (.int i) (.int j) H (.int (i - j)) := fun _ q => ⟨i, j, rfl, rfl, q⟩
theorem rv_inC {c : Nat} {z : Str} : RV0 rInC (.str ⟨#[c]⟩) (.str z) H (.bl (decide (c ∈ z.cps.toList))) := fun _ q => ⟨c, z, rfl, rfl, q⟩
theorem rv_notInC {c : Nat} {z : Str} : RV0 rNotInC (.str ⟨#[c]⟩) (.str z) H (.bl (!decide (c ∈ z.cps.toList))) := fun _ q => ⟨c, z, rfl, rfl, q⟩
theorem rv_isB {n a b : Bool} : RV0 (rIsBo n) (.bl a) (.bl b) H (.bl (if n then !decide (a = b) else decide (a = b))) := fun _ q => ⟨a, b, rfl, rfl, q⟩
theorem val_int1 (h : Val ta σ H (.int i)) : Val (tCB rInt1 (tCons ta tNil)) σ H (.int i) := fun _ q => h _ (.inl ⟨i, rfl, q⟩)
theorem val_max2 (h : Val ta σ H (.int i)) (h2 : Val tb σ H (.int j)) : Val (tCB rMax2 (tCons ta (tCons tb tNil))) σ H (.int (if j > i then j else i)) := fun _ q => h _ (h2 _ ⟨i, j, rfl, q⟩)
theorem val_min2 (h : Val ta σ H (.int i)) (h2 : Val tb σ H (.int j)) : Val (tCB rMin2 (tCons ta (tCons tb tNil))) σ H (.int (if j < i then j else i)) := fun _ q => h _ (h2 _ ⟨i, j, rfl, q⟩)
theorem val_lenS {w : Str} (h : Val ta σ H (.str w)) (l : w.length ≤ 100000) : Val (tCB (rLenA K) (tCons ta tNil)) σ H (.int (w.length : Int)) := fun _ q => h _ ⟨_, _, rfl, ⟨Evl.sz_of l, rfl⟩, q⟩
theorem val_lenL {p : Addr} {xs : List V} (h : Val ta σ H (.ref p)) (l : SqL K H p xs) : Val (tCB (rLenA K) (tCons ta tNil)) σ H (.int (xs.length : Int)) := fun _ q => h _ ⟨_, _, rfl, .inl ⟨xs, l, rfl⟩, q⟩
theorem val_lenT {p : Addr} {xs : List V} (h : Val ta σ H (.ref p)) (l : SqT K H p xs) : Val (tCB (rLenA K) (tCons ta tNil)) σ H (.int (xs.length : Int)) := fun _ q => h _ ⟨_, _, rfl, .inr ⟨xs, l, rfl⟩, q⟩
theorem val_endsw {a b : Str} (h : Val ta σ H (.str a)) (h2 : Val tb σ H (.str b)) : Val (tM1 rEndsw ta tb) σ H (.bl (Txt.endswith a b)) := fun _ q => h _ ⟨⟨_, rfl⟩, h2 _ ⟨a, b, rfl, rfl, q⟩⟩
theorem val_notV {a : Bool} (h : Val ta σ H (.bl a)) : Val (tNotV ta) σ H (.bl (!a)) := fun _ q => h _ ⟨a, rfl, q⟩
theorem ans_B (h : Val te σ H (.bl b)) : Ans (tB te) σ H b := ans_val h
theorem ans_T (h : Val te σ H (.bl b)) : Ans (tTest te) σ H b := ans_of h
/-! ### statements, the heap as it was -/
theorem q_set {i : Nat} (h : Val te σ H v) (k : tz D (σ.set i (some v)) H) : tSeq (tAsg te (gName i)) tz D σ H := h _ k
theorem q_ret (h : Val te σ H v) (k : D.rt v H) : tRet te D σ H := h _ k
theorem q_if (h : Ans t σ H b) (h1 : b = true → tu { D with nx := tz D } σ H) (h2 : b = false → tw { D with nx := tz D } σ H) : tSeq (tIfS t tu tw) tz D σ H := h _ (by
  cases b with
  | true => exact h1 rfl
  | false => exact h2 rfl)
theorem q_when (h : Ans t σ H b) (h1 : b = true → tu { D with nx := tz D } σ H) (h2 : b = false → tz D σ H) : tSeq (tIfS t tu tNext) tz D σ H := q_if h h1 h2
/-- xs[j] = e -/
theorem q_setL {l : Addr} {xs : List V} {j : Nat} (h : Val te σ H v) (ho : Val ta σ H (.ref l)) (hi : Val tb σ H (.int (j : Int))) (hl : H l = some (.lst xs)) (hj : j < xs.length) (k : tz D σ (upd H l (.lst (xs.set j v)))) : tSeq (tAsg te (gSub ta tb rSetL)) tz D σ H :=
  h _ (ho _ (hi _ ⟨l, xs, (j : Int), j, rfl, rfl, hl, Evl.ixN_nat hj, k⟩))
/-! ### calls -/
end
end L2
set_option Elab.async false
set_option linter.all false
set_option maxRecDepth 100000
set_option maxHeartbeats 4000000
namespace L2
open PySem PySem.Spec PyProof.Rows
def newT (xs : List V) (H : Hp) (Q : VK) : Prop := xs.length ≤ sizeLine ∧ ∀ p, H p = none → Q (.ref p) (upd H p (.tup xs))
def newL (xs : List V) (H : Hp) (Q : VK) : Prop := xs.length ≤ sizeLine ∧ ∀ p, H p = none → Q (.ref p) (upd H p (.lst xs))
def isB (x : V) (H : Hp) (QB : Bool → Hp → Prop) : Prop := ∃ k, x = .bl k ∧ QB k H
section
variable {K : PySem.W.Frag} {σ : St} {H : Hp} {ta tb te : TE} {x y z v : V} {r : R2} {t tr : TA} {c u : TT} {b : Bool} {i j : Int} {D : Ends} {tz tu tw ts : TS} {Q : VK} {QA : List V → Hp → Prop} {sp : Sp} {dvs : List V} {E : XK} {rc : List V → Hp → VK → Prop}
theorem k_var {n : Nat} (h : σ[n]? = some (some v)) (k : Q v H) : tVar n σ H Q := ⟨v, h, k⟩
theorem k_c (k : Q v H) : tC v σ H Q := k
theorem k_not {QB : Bool → Hp → Prop} (k : c σ H fun c H1 => QB (!c) H1) : tNot c σ H QB := k
theorem k_and {QB : Bool → Hp → Prop} (k : c σ H fun c H1 => if c = true then u σ H1 QB else QB false H1) : tAnd c u σ H QB := k
theorem k_or {QB : Bool → Hp → Prop} (k : c σ H fun c H1 => if c = true then QB true H1 else u σ H1 QB) : tOr c u σ H QB := k
theorem k_max2 (k : Q (.int (if j > i then j else i)) H) : rMax2 [.int i, .int j] H Q := ⟨i, j, rfl, k⟩
theorem k_min2 (k : Q (.int (if j < i then j else i)) H) : rMin2 [.int i, .int j] H Q := ⟨i, j, rfl, k⟩
theorem k_lenS {w : Str} (l : w.length ≤ 100000) (k : Q (.int (w.length : Int)) H) : rLenA K [.str w] H Q := ⟨_, _, rfl, ⟨Evl.sz_of l, rfl⟩, k⟩
theorem k_lenL {p : Addr} {xs : List V} (l : SqL K H p xs) (k : Q (.int (xs.length : Int)) H) : rLenA K [.ref p] H Q := ⟨_, _, rfl, .inl ⟨xs, l, rfl⟩, k⟩
theorem k_lenT {p : Addr} {xs : List V} (l : SqT K H p xs) (k : Q (.int (xs.length : Int)) H) : rLenA K [.ref p] H Q := ⟨_, _, rfl, .inr ⟨xs, l, rfl⟩, k⟩
theorem k_op (k : ta σ H fun x H1 => tb σ H1 fun y H2 => r x y H2 Q) : tOp r ta tb σ H Q := k
theorem k_cb (k : t σ H fun vs H1 => rc vs H1 Q) : tCB rc t σ H Q := k
theorem k_cons (k : ta σ H fun x H1 => tr σ H1 fun xs H2 => QA (x :: xs) H2) : tCons ta tr σ H QA := k
theorem k_nil (k : QA [] H) : tNil σ H QA := k
theorem k_call (k : t σ H fun vs H1 => sp (vs ++ dvs) H1 Q E) : tCall sp dvs E t σ H Q := k
theorem k_rv (h : RV0 r x y H z) (k : Q z H) : r x y H Q := h Q k
theorem k_int1 (k : Q (.int i) H) : rInt1 [.int i] H Q := .inl ⟨i, rfl, k⟩
theorem k_tup (k : t σ H fun xs H1 => newT xs H1 Q) : tTup t σ H Q := k
theorem k_lst (k : t σ H fun xs H1 => newL xs H1 Q) : tLst t σ H Q := k
theorem k_newT {xs : List V} (hl : xs.length ≤ 100000) (k : ∀ p, H p = none → Q (.ref p) (upd H p (.tup xs))) : newT xs H Q := ⟨Evl.sz_of hl, k⟩
theorem k_newL {xs : List V} (hl : xs.length ≤ 100000) (k : ∀ p, H p = none → Q (.ref p) (upd H p (.lst xs))) : newL xs H Q := ⟨Evl.sz_of hl, k⟩
theorem k_tupOfL {p : Addr} {xs : List V} (h : SqL K H p xs) (k : ∀ l, H l = none → Q (.ref l) (upd H l (.tup xs))) : rTupOf K [.ref p] H Q := ⟨p, xs, rfl, .inl ⟨h, k⟩⟩
theorem k_ifE (k : c σ H fun b H1 => if b = true then ta σ H1 Q else tb σ H1 Q) : tIf c ta tb σ H Q := k
theorem k_test {QB : Bool → Hp → Prop} (k : te σ H fun x H' => isB x H' QB) : tTest te σ H QB := k
theorem k_tb {QB : Bool → Hp → Prop} (k : te σ H fun x H' => isB x H' QB) : tB te σ H QB := k
theorem k_bl {QB : Bool → Hp → Prop} (k : QB b H) : isB (.bl b) H QB := ⟨b, rfl, k⟩
theorem k_ite {A B : Prop} (h1 : b = true → A) (h2 : b = false → B) : if b = true then A else B := by
  cases b with
  | true => exact h1 rfl
  | false => exact h2 rfl
/-! statements -/
theorem k_seq (k : tu { D with nx := tz D } σ H) : tSeq tu tz D σ H := k
theorem k_asg {g : TG} (k : te σ H fun x H1 => g x σ H1 D.nx) : tAsg te g D σ H := k
theorem k_name {n : Nat} {Qs : St → Hp → Prop} (k : Qs (σ.set n (some v)) H) : gName n v σ H Qs := k
theorem k_ret (k : te σ H D.rt) : tRet te D σ H := k
theorem k_ifS (k : c σ H fun b H1 => if b = true then tu D σ H1 else tw D σ H1) : tIfS c tu tw D σ H := k
theorem k_drop (k : te σ H fun _ H1 => D.nx σ H1) : tDrop te D σ H := k
end
end L2
set_option Elab.async false
set_option linter.all false
set_option maxRecDepth 100000
set_option maxHeartbeats 4000000
namespace L2
open PySem PySem.Spec PyProof.Rows
/-! ### walks -/
/-- the core of a comprehension, of a for -/
def lcOn (g : TG) (tt : TT) (te : TE) (vs : List Nat) (σ : St) (Q : VK) (J : It) (H1 : Hp) : Prop := ∀ D, H1 D = none → ∃ W : Nat → Nat → Hp → Prop, (∃ m, W 0 m (upd H1 D (.lst []))) ∧ ∀ i m H, W i m H →
  (J.stop i H ∧ Q (.ref D) H) ∨ (J.go i H ∧ ∃ Nx : Hp → Prop, (∀ H', Nx H' → ∃ m', m' < m ∧ W (i + 1) m' H') ∧ ∀ x H', J.yld i H x H' → g x (wipe σ vs) H' fun σ2 H2 => wipe σ2 vs = wipe σ vs ∧ tt σ2 H2 fun b H3 =>
    if b = true then te σ2 H3 fun y H4 => ∃ acc, H4 D = some (.lst acc) ∧ acc.length < sizeLine ∧ Nx (upd H4 D (.lst (acc ++ [y]))) else Nx H3)
def forOn (g : TG) (tb : TS) (D : Ends) (σ : St) (J : It) (H1 : Hp) : Prop := ∃ W : Nat → Nat → St → Hp → Prop, (∃ m, W 0 m σ H1) ∧ ∀ i m σ H, W i m σ H →
  (J.stop i H ∧ D.nx σ H) ∨ (J.go i H ∧ ∃ N : St → Hp → Prop, (∀ σ' H', N σ' H' → ∃ m', m' < m ∧ W (i + 1) m' σ' H') ∧ ∀ x H', J.yld i H x H' → g x σ H' fun σ2 H2 => tb { D with nx := N, ct := N, bk := D.nx } σ2 H2)
def onS (v : V) (H : Hp) (R : It → Hp → Prop) : Prop := ∃ x, v = .str x ∧ R (Its x) H
def onR1 (vs : List V) (H : Hp) (R : It → Hp → Prop) : Prop := ∃ j : Int, vs = [.int j] ∧ -(2 ^ 62) ≤ j ∧ j < 2 ^ 62 ∧ R (Itr 0 j.toNat) H
def onL (K : PySem.W.Frag) (v : V) (H : Hp) (R : It → Hp → Prop) : Prop := ∃ a, v = .ref a ∧ (∃ xs, SqL K H a xs) ∧ R (Itl K a) H
def onT (K : PySem.W.Frag) (v : V) (H : Hp) (R : It → Hp → Prop) : Prop := ∃ a, v = .ref a ∧ (∃ xs, SqT K H a xs) ∧ R (Itt K a) H
def addTo (D : Addr) (H : Hp) (y : V) (R : Hp → Prop) : Prop := ∃ acc, H D = some (.lst acc) ∧ acc.length < sizeLine ∧ R (upd H D (.lst (acc ++ [y])))
section
variable {K : PySem.W.Frag} {σ : St} {H : Hp} {ta te : TE} {g : TG} {tt : TT} {tb : TS} {vs : List Nat} {Q : VK} {D : Ends} {t : TA} {x : Str} {a : Addr} {xs : List V} {R : It → Hp → Prop} {j : Nat} {v : V}
theorem k_lcS (k : ta σ H fun v H1 => onS v H1 (lcOn g tt te vs σ Q)) : tLc (iStr ta) g tt te vs σ H Q := k
theorem k_lcR (k : t σ H fun v H1 => onR1 v H1 (lcOn g tt te vs σ Q)) : tLc (iRng1 t) g tt te vs σ H Q := k
theorem k_lcL (k : ta σ H fun v H1 => onL K v H1 (lcOn g tt te vs σ Q)) : tLc (iList K ta) g tt te vs σ H Q := k
theorem k_lcT (k : ta σ H fun v H1 => onT K v H1 (lcOn g tt te vs σ Q)) : tLc (iTup K ta) g tt te vs σ H Q := k
theorem k_forS (k : ta σ H fun v H1 => onS v H1 (forOn g tb D σ)) : tFor (iStr ta) g tb D σ H := k
theorem k_forR (k : t σ H fun v H1 => onR1 v H1 (forOn g tb D σ)) : tFor (iRng1 t) g tb D σ H := k
theorem k_forL (k : ta σ H fun v H1 => onL K v H1 (forOn g tb D σ)) : tFor (iList K ta) g tb D σ H := k
theorem k_forT (k : ta σ H fun v H1 => onT K v H1 (forOn g tb D σ)) : tFor (iTup K ta) g tb D σ H := k
theorem k_onS (k : R (Its x) H) : onS (.str x) H R := ⟨x, rfl, k⟩
theorem k_onR1 {n : Int} (h : -1000000 ≤ n ∧ n ≤ 1000000) (k : R (Itr 0 n.toNat) H) : onR1 [.int n] H R := ⟨n, rfl, by omega, by omega, k⟩
theorem k_onL (h : SqL K H a xs) (k : R (Itl K a) H) : onL K (.ref a) H R := ⟨a, rfl, ⟨xs, h⟩, k⟩
theorem k_onT (h : SqT K H a xs) (k : R (Itt K a) H) : onT K (.ref a) H R := ⟨a, rfl, ⟨xs, h⟩, k⟩
theorem k_add {acc : List V} {Ra : Hp → Prop} {Dl : Addr} (h : H Dl = some (.lst acc)) (hl : acc.length ≤ 100000) (k : Ra (upd H Dl (.lst (acc ++ [v])))) : addTo Dl H v Ra := ⟨acc, h, Nat.lt_of_le_of_lt hl (by decide), k⟩
theorem k_yes {QB : Bool → Hp → Prop} (k : QB true H) : tYes σ H QB := k
section
variable {J : It} {n : Nat} {G : Hp → Prop} {Y : Nat → Hp → V → Hp → Prop}
/-- a comprehension whose target is a name: Iv by the new list, the turn, the heap -/
theorem lc_go (w : Walk J n G Y) (Iv : Addr → Nat → Hp → Prop) (hw : ∀ x, wipe ((wipe σ vs).set j (some x)) vs = wipe σ vs) (h0 : ∀ D, H D = none → Iv D 0 (upd H D (.lst [])))
    (hG : ∀ D i H', i ≤ n → Iv D i H' → G H')
    (hs : ∀ D i x H1 H2, i < n → Iv D i H1 → Y i H1 x H2 → tt ((wipe σ vs).set j (some x)) H2 fun b H4 => if b = true then te ((wipe σ vs).set j (some x)) H4 fun y H5 => addTo D H5 y (Iv D (i + 1)) else Iv D (i + 1) H4)
    (hd : ∀ D H', Iv D n H' → Q (.ref D) H') : lcOn (gName j) tt te vs σ Q J H := fun D hD =>
  lc_it w (Iv D) (h0 D hD) (hG D) (fun i x H1 H2 hi p y => ⟨hw x, hs D i x H1 H2 hi p y⟩) (hd D)
theorem for_go (w : Walk J n G Y) (Pv : Nat → St → Hp → Prop) (h0 : Pv 0 σ H) (hG : ∀ i σ H, i ≤ n → Pv i σ H → G H)
    (hs : ∀ i x σ H H', i < n → Pv i σ H → Y i H x H' → g x σ H' fun σ2 H2 => tb { D with nx := Pv (i + 1), ct := Pv (i + 1), bk := D.nx } σ2 H2) (hd : ∀ σ H, Pv n σ H → D.nx σ H) : forOn g tb D σ J H := for_it w Pv h0 hG hs hd
end
end
end L2
set_option Elab.async false
set_option linter.all false
set_option maxRecDepth 100000
set_option maxHeartbeats 4000000
namespace L2
open PySem PySem.Spec PyProof.Rows
/-! ### the rules with the written part said outright (they fit within a comprehension's block too) -/
theorem B_len : bootBuiltins "len" = some (.builtin "len") := by decide +kernel
theorem B_max : bootBuiltins "max" = some (.builtin "max") := by decide +kernel
theorem B_min : bootBuiltins "min" = some (.builtin "min") := by decide +kernel
theorem B_all : bootBuiltins "all" = some (.builtin "all") := by decide +kernel
theorem B_any : bootBuiltins "any" = some (.builtin "any") := by decide +kernel
theorem B_sum : bootBuiltins "sum" = some (.builtin "sum") := by decide +kernel
theorem B_isinstance : bootBuiltins "isinstance" = some (.builtin "isinstance") := by decide +kernel
theorem B_int : bootBuiltins "int" = some (.type "int") := by decide +kernel
theorem B_str : bootBuiltins "str" = some (.type "str") := by decide +kernel
theorem B_tuple : bootBuiltins "tuple" = some (.type "tuple") := by decide +kernel
theorem B_list : bootBuiltins "list" = some (.type "list") := by decide +kernel
theorem B_set : bootBuiltins "set" = some (.type "set") := by decide +kernel
theorem B_dict : bootBuiltins "dict" = some (.type "dict") := by decide +kernel
theorem B_bool : bootBuiltins "bool" = some (.type "bool") := by decide +kernel
section
variable {X : Cx} (K : PySem.W.Frag)
theorem addK (h : X.K = K := by rfl) : OpR X (binaryOp .Add) (rAddA K) := by subst h; exact op_addA
theorem eqK {k : Nat} (hr : Room k X.A) (h : X.K = K := by rfl) : OpR X (compareOp .Eq) (rEqA K) := by subst h; exact op_eqA (hu64 hr)
theorem neK {k : Nat} (hr : Room k X.A) (h : X.K = K := by rfl) : OpR X (compareOp .NotEq) (rNeA K) := by subst h; exact op_neA (hu64 hr)
theorem ixK (h : X.K = K := by rfl) : IxR X (rIx K) := by subst h; exact ix_seq
theorem slK (h : X.K = K := by rfl) : SlR X (rSlAny K) := by subst h; exact sl_any
theorem lenK (h : X.K = K := by rfl) : CallR X (.builtin "len") (rLenA K) := by subst h; exact call_lenA
theorem tupK (h : X.K = K := by rfl) : CallR X (.type "tuple") (rTupOf K) := by subst h; exact call_tupA
theorem allK (hc : X.calm = true := by rfl) (h : X.K = K := by rfl) : CallR X (.builtin "all") (rAll K) := by subst h; exact cr_all hc
theorem anyK (hc : X.calm = true := by rfl) (h : X.K = K := by rfl) : CallR X (.builtin "any") (rAny K) := by subst h; exact cr_any hc
theorem sumK (hc : X.calm = true := by rfl) (h : X.K = K := by rfl) : CallR X (.builtin "sum") (rSum K) := by subst h; exact cr_sum hc
theorem isiK (h : X.K = K := by rfl) : CallR X (.builtin "isinstance") (rIsi K) := by subst h; exact call_isi
theorem joinK {o e : Expr} {to te : TE} {apos pos : Pos} (ho : PE X o to) (he : PE X e te) (h : X.K = K := by rfl) (hs : starEach [e] X.env = [(false, eval e X.env)] := by rfl) (hbase : attributeBase o "join" X.env (eval o X.env) = eval o X.env := by rfl) (hline : (apos.endLine == pos.line) = true := by rfl) :
    PE X (.Call (.Attribute o "join" apos) [e] [] pos) (tM1 (rJoin K) to te) := by subst h; exact pe_join ho he hs hbase hline
theorem appK {o e : Expr} {to te : TE} {apos cpos : Pos} (ho : PE X o to) (he : PE X e te) (h : X.K = K := by rfl) (hbase : attributeBase o "append" X.env (eval o X.env) = eval o X.env := by rfl)
    (hfew : ((backTo cpos (starEach [e] X.env)).all (fun x => !x.1) && (backToKw cpos (keywordEach [] X.env)).all (fun x => x.1.isSome)
      && decide ([e].length + ([] : List Keyword).length + (if ([] : List Keyword).isEmpty then 0 else 1) < 30)) = true := by rfl)
    (hline : (apos.endLine == cpos.line) = true := by rfl) (hs : starEach [e] X.env = (false, eval e X.env) :: starEach [] X.env := by rfl) (hplain : (backTo cpos (starEach [] X.env)).any (·.1) = false := by rfl) :
    PE X (.Call (.Attribute o "append" apos) [e] [] cpos) (tBM K "list" rAppend to (tCons te tNil)) := by
  subst h
  exact pe_bm PySem.F.plainAttrs_list PySem.F.slot_list_append PySem.F.type_list_append mt_append ho (pa_cons he pa_nil hs) hbase hfew hline hs hplain
theorem fldK {e : Expr} {f : Str} {pos : Pos} {ta : TE} (he : PE X e ta) (h : X.K = K := by rfl) (hb : attributeBase e f X.env (eval e X.env) = eval e X.env := by rfl) : PE X (.Attribute e f pos) (tFld K ta f) := by subst h; exact pe_fld he hb
theorem listK {tg l : Expr} {tl : TE} (hl : PE X l tl) (h : X.K = K := by rfl) : PI X tg l (iList K tl) := by subst h; exact pi_list hl
theorem tupIK {tg l : Expr} {tl : TE} (hl : PE X l tl) (h : X.K = K := by rfl) : PI X tg l (iTup K tl) := by subst h; exact pi_tup hl
end
def onStr (x : V) (A : Prop) : Prop := (∃ a, x = .str a) ∧ A
section
variable {K : PySem.W.Frag} {σ : St} {H : Hp} {ta tb te : TE} {Q : VK}
theorem k_m1 {r : V → List V → Hp → VK → Prop} (k : ta σ H fun x H1 => onStr x (te σ H1 fun y H2 => r x [y] H2 Q)) : tM1 r ta te σ H Q := k
theorem k_onStr {a : Str} {A : Prop} (k : A) : onStr (.str a) A := ⟨⟨a, rfl⟩, k⟩
theorem k_joinL {a : Str} {p : Addr} {ys : List Str} (h : SqL K H p (ys.map V.str)) (hl : (ys.map (·.length)).sum + ys.length * a.length ≤ 16777216) (k : Q (.str (Txt.join a ys)) H) : rJoin K (.str a) [.ref p] H Q := ⟨a, p, ys, rfl, rfl, .inl h, hl, k⟩
theorem k_endsw {a b : Str} (k : Q (.bl (Txt.endswith a b)) H) : rEndsw (.str a) [.str b] H Q := ⟨a, b, rfl, rfl, k⟩
theorem k_all {p : Addr} {bs : List Bool} (h : SqL K H p (bs.map V.bl)) (k : Q (.bl (bs.all id)) H) : rAll K [.ref p] H Q := ⟨p, bs, rfl, h, k⟩
theorem k_any {p : Addr} {bs : List Bool} (h : SqL K H p (bs.map V.bl)) (k : Q (.bl (bs.any id)) H) : rAny K [.ref p] H Q := ⟨p, bs, rfl, h, k⟩
theorem k_isi {x : V} {n : String} {t : Value} {b : Bool} (h : TyX K H x t) (e : PySem.W.kitOne K t (.type n) = some b) (k : Q (.bl b) H) : rIsi K [x, .ty n] H Q := ⟨x, .ty n, t, .type n, b, rfl, .ty n, h, e, k⟩
theorem k_slS {z : Str} {lo hi : Option Int} (h : z.length ≤ 100000) (k : Q (.str (cutS z lo hi)) H) : rSlAny K (.str z) lo hi H Q := .inl ⟨z, rfl, Evl.sz_of h, k⟩
end
end L2
set_option Elab.async false
set_option linter.all false
set_option maxRecDepth 100000
set_option maxHeartbeats 4000000
namespace L2
open PySem PySem.Spec PyProof.Rows TL
theorem at_int {α : Type} {xs : List α} {i : Int} {v : α} (h : 0 ≤ i) (e : xs[i.toNat]? = some v) : atI xs i = some v := by
  have := atI_nat (xs := xs) (j := i.toNat) e
  rw [Int.toNat_of_nonneg h] at this
  exact this
/-- the text of these code points -/
def mk (l : List Nat) : Str := ⟨l.toArray⟩
theorem tl_mk' (l : List Nat) : tl (mk l) = l := rfl
theorem len_mk (l : List Nat) : (mk l).length = l.length := by rw [len_tl, tl_mk']
def singles (l : List Nat) : List Str := l.map fun c => (⟨#[c]⟩ : Str)
theorem singles_len (l : List Nat) : (singles l).length = l.length := by simp [singles]
theorem singles_sum (l : List Nat) : ((singles l).map (·.length)).sum = l.length := by
  induction l with
  | nil => rfl
  | cons c l ih =>
    show (⟨#[c]⟩ : Str).length + ((singles l).map (·.length)).sum = l.length + 1
    rw [ih]
    have : (⟨#[c]⟩ : Str).length = 1 := rfl
    omega
theorem joinL_nil : ∀ l : List (List Nat), joinL [] l = l.flatten
  | [] => rfl
  | [p] => by simp [joinL]
  | p :: q :: r => by
    have ih := joinL_nil (q :: r)
    show p ++ ([] ++ joinL [] (q :: r)) = _
    rw [ih]
    simp
theorem singles_flat (l : List Nat) : ((singles l).map tl).flatten = l := by
  induction l with
  | nil => rfl
  | cons c l ih =>
    show tl (⟨#[c]⟩ : Str) ++ ((singles l).map tl).flatten = c :: l
    rw [ih]
    rfl
theorem tl_empty : tl ("" : Str) = [] := by decide +kernel
theorem join_singles (l : List Nat) : Txt.join ("" : Str) (singles l) = mk l := by
  refine ext_tl ?_
  rw [join_eq, tl_join, tl_empty, joinL_nil, singles_flat]
  rfl
theorem join_cost (l : List Nat) (h : l.length ≤ 100000) : ((singles l).map (·.length)).sum + (singles l).length * ("" : Str).length ≤ 16777216 := by
  have e : ("" : Str).length = 0 := by decide +kernel
  rw [singles_sum, e]
  omega
theorem walk_rng {n : Nat} : Walk (Itr 0 n) n (fun _ => True) (fun i H x H' => H' = H ∧ x = .int (i : Nat)) :=
  walk_range.mono (fun _ h => h) (fun i H x H' _ _ y => ⟨y.1, by rw [y.2]; show V.int (0 + (i : Int)) = _; rw [Int.zero_add]⟩)
section
variable {K : PySem.W.Frag} {S : List Addr} {H : Hp}
theorem k_augC {i : Nat} {a b : Int} {f : Int → Int → Int} {D : Ends} {σ : St} (h : σ[i]? = some (some (.int a))) (k : D.nx (σ.set i (some (.int (f a b)))) H) : tAug i (tC (.int b)) (ipI f) D σ H := ⟨.int a, h, ⟨a, b, rfl, rfl, k⟩⟩
theorem DqAll.strs : ∀ ts : List Str, DqAll K S H (ts.map V.str) (ts.map PyData.str)
  | [] => .nil
  | t :: ts => .cons (Dq.str t) (DqAll.strs ts)
theorem k_cat {a b : Addr} {xs ys : List V} {Q : VK} (h1 : H a = some (.lst xs)) (h2 : H b = some (.lst ys)) (hl : xs.length + ys.length ≤ 100000) (k : ∀ p, H p = none → Q (.ref p) (upd H p (.lst (xs ++ ys)))) : rAddA K (.ref a) (.ref b) H Q :=
  .inr (.inr (.inl ⟨a, b, xs, ys, rfl, rfl, h1, h2, Evl.sz_of hl, k⟩))
end
end L2
set_option Elab.async false
set_option linter.all false
set_option maxRecDepth 100000
set_option maxHeartbeats 4000000
namespace L2
open PySem PySem.Spec PyProof.Rows TL
/-! ### comprehensions whose turns leave the heap but for what is new -/
theorem same_new {H : Hp} {p : Addr} {o : HO} (h : H p = none) : Same H (upd H p o) := fun a u e => by
  rw [upd_ne (ne_of_none e h)]
  exact e
theorem same_mut {H H' : Hp} {p : Addr} {o : HO} (e : Same H H') (h : H p = none) : Same H (upd H' p o) := fun a u ha => by
  rw [upd_ne (ne_of_none ha h)]
  exact e a u ha
theorem range_getD {α β : Type} (l : List α) (d : α) (F : α → β) : (List.range l.length).map (fun i => F (l.getD i d)) = l.map F := by
  refine List.ext_getElem (by simp) fun i h1 h2 => ?_
  simp only [List.getElem_map, List.getElem_range]
  have h3 : i < l.length := by simpa using h1
  rw [List.getD_eq_getElem?_getD, List.getElem?_eq_getElem h3]
  rfl
theorem range_filt {α β : Type} (l : List α) (d : α) (p : α → Bool) (F : α → β) : ((List.range l.length).filter (fun i => p (l.getD i d))).map (fun i => F (l.getD i d)) = (l.filter p).map F := by
  have e : l = (List.range l.length).map fun i => l.getD i d := by
    have := range_getD l d id
    simp only [id] at this
    rw [this]
    simp
  conv => rhs; rw [e]
  rw [List.filter_map, List.map_map]
  rfl
section
variable {K : PySem.W.Frag} {σ : St} {H : Hp} {te : TE} {tt : TT} {vs : List Nat} {Q : VK} {j : Nat} {J : It} {n : Nat} {G : Hp → Prop}
/-- te gives v, whatever new objects it makes -/
def EvS (te : TE) (σ : St) (H : Hp) (v : V) : Prop := ∀ Q : VK, (∀ H2, Same H H2 → Q v H2) → te σ H Q
theorem EvS.of (h : Val te σ H v) : EvS te σ H v := fun Q k => h Q (k H (Same.refl H))
theorem lc_filt (item : Nat → V) (w : Walk J n G (fun i H x H' => H' = H ∧ x = item i)) (g : Nat → Bool) (f : Nat → V) (hn : n ≤ 50000) (hG : ∀ H', Same H H' → G H') (hw : ∀ x, wipe ((wipe σ vs).set j (some x)) vs = wipe σ vs)
    (he : ∀ i H1, i < n → Same H H1 → ∀ QB : Bool → Hp → Prop, (∀ H2, Same H1 H2 → QB (g i) H2) → tt ((wipe σ vs).set j (some (item i))) H1 QB)
    (hf : ∀ i H1, i < n → Same H H1 → g i = true → EvS te ((wipe σ vs).set j (some (item i))) H1 (f i))
    (hd : ∀ D H', H D = none → Same H H' → H' D = some (.lst (((List.range n).filter g).map f)) → Q (.ref D) H') : lcOn (gName j) tt te vs σ Q J H := by
  refine lc_go w (fun D i H' => H D = none ∧ Same H H' ∧ H' D = some (.lst (((List.range i).filter g).map f))) hw (fun D hD => ⟨hD, same_new hD, upd_same⟩) (fun D i H' _ iv => hG H' iv.2.1) (fun D i x H1 H2 hi iv y => ?_) (fun D H' iv => hd D H' iv.1 iv.2.1 iv.2.2)
  obtain ⟨rfl, rfl⟩ := y
  obtain ⟨h1, h2, h3⟩ := iv
  refine he i _ hi h2 _ fun H3 s3 => ?_
  rw [List.range_succ, List.filter_append, List.map_append]
  cases hg : g i with
  | true =>
    rw [if_pos rfl]
    refine hf i _ hi (h2.trans s3) hg _ fun H4 s4 => ⟨_, s4 D _ (s3 D _ h3), ?_, h1, same_mut ((h2.trans s3).trans s4) h1, ?_⟩
    · rw [List.length_map]
      have := List.length_filter_le g (List.range i)
      rw [List.length_range] at this
      exact Evl.sz_lt (by omega)
    · rw [upd_same]
      simp [hg]
  | false =>
    rw [if_neg Bool.false_ne_true]
    refine ⟨h1, h2.trans s3, ?_⟩
    rw [s3 D _ h3]
    simp [hg]
theorem lc_map (item : Nat → V) (w : Walk J n G (fun i H x H' => H' = H ∧ x = item i)) (f : Nat → V) (hn : n ≤ 50000) (hG : ∀ H', Same H H' → G H') (hw : ∀ x, wipe ((wipe σ vs).set j (some x)) vs = wipe σ vs)
    (hf : ∀ i H1, i < n → Same H H1 → EvS te ((wipe σ vs).set j (some (item i))) H1 (f i))
    (hd : ∀ D H', H D = none → Same H H' → H' D = some (.lst ((List.range n).map f)) → Q (.ref D) H') : lcOn (gName j) tYes te vs σ Q J H :=
  lc_filt item w (fun _ => true) f hn hG hw (fun i H1 _ _ QB k => k H1 (Same.refl H1)) (fun i H1 hi s _ => hf i H1 hi s) (fun D H' h1 h2 h3 => hd D H' h1 h2 (by rw [h3, List.filter_eq_self.mpr (fun _ _ => rfl)]))
theorem walk_S {z : Str} : Walk (Its z) (tl z).length (fun _ => True) (fun i H x H' => H' = H ∧ x = .str ⟨#[(tl z).getD i 0]⟩) := by
  have e : (tl z).length = z.cps.size := by simp [tl]
  rw [e]
  refine walk_str.mono (fun _ h => h) (fun i H x H' hi _ y => ?_)
  obtain ⟨y1, c, hc, y2⟩ := y
  refine ⟨y1, ?_⟩
  have hc' : (tl z)[i]? = some c := by simpa [tl] using hc
  rw [y2, List.getD_eq_getElem?_getD, hc']
  rfl
theorem walk_L {a : Addr} {xs : List V} : Walk (Itl K a) xs.length (fun H => SqL K H a xs) (fun i H x H' => H' = H ∧ x = xs.getD i .non) :=
  walk_list.mono (fun _ h => h) (fun i H x H' _ _ y => ⟨y.1, by rw [List.getD_eq_getElem?_getD, y.2]; rfl⟩)
theorem walk_T {a : Addr} {xs : List V} : Walk (Itt K a) xs.length (fun H => SqT K H a xs) (fun i H x H' => H' = H ∧ x = xs.getD i .non) :=
  walk_tup.mono (fun _ h => h) (fun i H x H' _ _ y => ⟨y.1, by rw [List.getD_eq_getElem?_getD, y.2]; rfl⟩)
/-- [e for c in text] -/
theorem lc_mapS {z : Str} (F : Nat → V) (hn : z.length ≤ 50000) (hw : ∀ x, wipe ((wipe σ vs).set j (some x)) vs = wipe σ vs)
    (hf : ∀ c H1, c ∈ tl z → Same H H1 → EvS te ((wipe σ vs).set j (some (.str ⟨#[c]⟩))) H1 (F c))
    (hd : ∀ D H', H D = none → Same H H' → H' D = some (.lst ((tl z).map F)) → Q (.ref D) H') : lcOn (gName j) tYes te vs σ Q (Its z) H :=
  lc_map _ walk_S (fun i => F ((tl z).getD i 0)) (by rw [← len_tl]; exact hn) (fun _ _ => trivial) hw (fun i H1 hi s => hf _ H1 (by rw [List.getD_eq_getElem?_getD, List.getElem?_eq_getElem hi]; exact List.getElem_mem hi) s) (fun D H' h1 h2 h3 => hd D H' h1 h2 (by rw [h3, range_getD]))
theorem lc_filtS {z : Str} (g : Nat → Bool) (F : Nat → V) (hn : z.length ≤ 50000) (hw : ∀ x, wipe ((wipe σ vs).set j (some x)) vs = wipe σ vs)
    (he : ∀ c H1, c ∈ tl z → Same H H1 → ∀ QB : Bool → Hp → Prop, (∀ H2, Same H1 H2 → QB (g c) H2) → tt ((wipe σ vs).set j (some (.str ⟨#[c]⟩))) H1 QB)
    (hf : ∀ c H1, c ∈ tl z → Same H H1 → EvS te ((wipe σ vs).set j (some (.str ⟨#[c]⟩))) H1 (F c))
    (hd : ∀ D H', H D = none → Same H H' → H' D = some (.lst (((tl z).filter g).map F)) → Q (.ref D) H') : lcOn (gName j) tt te vs σ Q (Its z) H := by
  have hm : ∀ i, i < (tl z).length → (tl z).getD i 0 ∈ tl z := fun i hi => by rw [List.getD_eq_getElem?_getD, List.getElem?_eq_getElem hi]; exact List.getElem_mem hi
  exact lc_filt _ walk_S (fun i => g ((tl z).getD i 0)) (fun i => F ((tl z).getD i 0)) (by rw [← len_tl]; exact hn) (fun _ _ => trivial) hw (fun i H1 hi s => he _ H1 (hm i hi) s) (fun i H1 hi s _ => hf _ H1 (hm i hi) s) (fun D H' h1 h2 h3 => hd D H' h1 h2 (by rw [h3, range_filt]))
theorem lc_mapT {a : Addr} {xs : List V} (F : V → V) (hx : SqT K H a xs) (hn : xs.length ≤ 50000) (hw : ∀ x, wipe ((wipe σ vs).set j (some x)) vs = wipe σ vs)
    (hf : ∀ x H1, x ∈ xs → Same H H1 → EvS te ((wipe σ vs).set j (some x)) H1 (F x))
    (hd : ∀ D H', H D = none → Same H H' → H' D = some (.lst (xs.map F)) → Q (.ref D) H') : lcOn (gName j) tYes te vs σ Q (Itt K a) H :=
  lc_map _ walk_T (fun i => F (xs.getD i .non)) hn (fun _ s => Evl.ex_t s hx) hw (fun i H1 hi s => hf _ H1 (by rw [List.getD_eq_getElem?_getD, List.getElem?_eq_getElem hi]; exact List.getElem_mem hi) s) (fun D H' h1 h2 h3 => hd D H' h1 h2 (by rw [h3, range_getD]))
end
end L2
set_option Elab.async false
set_option linter.all false
set_option maxRecDepth 100000
set_option maxHeartbeats 4000000
namespace L2
open PySem PySem.Spec PyProof.Rows TL
/-! ### things of any kind, as data -/
def tyName : PyData → String
  | .none => "NoneType" | .bool _ => "bool" | .int _ => "int" | .str _ => "str" | .list _ => "list" | .tuple _ => "tuple" | .dict _ => "dict"
def Th (K : PySem.W.Frag) (H : Hp) (v : V) (d : PyData) : Prop := Dp K H v d ∨ ∃ a kvs, v = .ref a ∧ H a = some (.dK kvs) ∧ d = .dict []
def isStrD : PyData → Bool | .str _ => true | _ => false
def isTupD : PyData → Bool | .tuple _ => true | _ => false
def isIntD : PyData → Bool | .int _ => true | .bool _ => true | _ => false
def isBoolD : PyData → Bool | .bool _ => true | _ => false
def tyNames : List String := ["NoneType", "bool", "int", "str", "list", "tuple", "dict"]
theorem tyName_in (d : PyData) : tyName d ∈ tyNames := by cases d <;> simp [tyName, tyNames]
theorem kit_str_n : ∀ n ∈ tyNames, kitB n "str" = some (n == "str") := by decide +kernel
theorem kit_str (d : PyData) : kitB (tyName d) "str" = some (isStrD d) := by rw [kit_str_n _ (tyName_in d)]; cases d <;> rfl
theorem kit_tup_n : ∀ n ∈ tyNames, kitB n "tuple" = some (n == "tuple") := by decide +kernel
theorem kit_tup (d : PyData) : kitB (tyName d) "tuple" = some (isTupD d) := by rw [kit_tup_n _ (tyName_in d)]; cases d <;> rfl
theorem kit_int_n : ∀ n ∈ tyNames, kitB n "int" = some (n == "int" || n == "bool") := by decide +kernel
theorem kit_int (d : PyData) : kitB (tyName d) "int" = some (isIntD d) := by rw [kit_int_n _ (tyName_in d)]; cases d <;> rfl
theorem kit_bool_n : ∀ n ∈ tyNames, kitB n "bool" = some (n == "bool") := by decide +kernel
theorem kit_bool (d : PyData) : kitB (tyName d) "bool" = some (isBoolD d) := by rw [kit_bool_n _ (tyName_in d)]; cases d <;> rfl
def rNeg : V → Hp → VK → Prop := rU fun i => .int (-i)
section
variable {K : PySem.W.Frag} {H H' : Hp} {v : V} {d : PyData} {Q : VK} {σ : St} {ta tb te : TE} {c u : TT} {b : Bool}
theorem SqT.ty {a : Addr} {xs : List V} (h : SqT K H a xs) : TyX K H (.ref a) (.type "tuple") := by
  rcases h with (h | ⟨o, h⟩) | ⟨o, its, n, h, hc, _⟩
  · exact .base (.tup h)
  · exact .fTuple h
  · exact .kTuple h hc
theorem SqL.ty {a : Addr} {xs : List V} (h : SqL K H a xs) : TyX K H (.ref a) (.type "list") := by
  rcases h with (h | ⟨o, h⟩) | h
  · exact .base (.lst h)
  · exact .base (.frz h)
  · obtain ⟨o, its, n, h, hc, _⟩ := h
    exact .kList h hc
theorem Th.ty (h : Th K H v d) : TyX K H v (.type (tyName d)) := by
  rcases h with h | ⟨a, kvs, rfl, h, rfl⟩
  · cases h with
    | non => exact .base .non
    | bl x => exact .base (.bl x)
    | int i => exact .base (.int i)
    | str x => exact .base (.str x)
    | lst h _ => exact h.ty
    | tup h _ => exact h.ty
  · exact .base (.dK h)
theorem Th.up (h : Th K H v d) (s : Same H H') : Th K H' v d := by
  rcases h with h | ⟨a, kvs, rfl, h, rfl⟩
  · exact .inl (h.up s)
  · exact .inr ⟨a, kvs, rfl, s _ _ h, rfl⟩
theorem k_isiD {n : String} (h : Th K H v d) (e : kitB (tyName d) n = some b) (k : Q (.bl b) H) : rIsi K [v, .ty n] H Q := k_isi h.ty (kit_ty e) k
theorem k_next {D : Ends} (k : D.nx σ H) : tNext D σ H := k
theorem k_eqInt {i j : Int} (k : Q (.bl (decide (i = j))) H) : rEqA K (.int i) (.int j) H Q := .inl ⟨rfl, by rw [show decide (V.int i = V.int j) = decide (i = j) from decide_eq_decide.mpr ⟨V.int.inj, congrArg V.int⟩]; exact k⟩
theorem k_neInt {i j : Int} (k : Q (.bl (!decide (i = j))) H) : rNeA K (.int i) (.int j) H Q := .inl ⟨rfl, by rw [show decide (V.int i = V.int j) = decide (i = j) from decide_eq_decide.mpr ⟨V.int.inj, congrArg V.int⟩]; exact k⟩
theorem k_eqStr {i j : Str} (k : Q (.bl (decide (i = j))) H) : rEqA K (.str i) (.str j) H Q := .inl ⟨rfl, by rw [show decide (V.str i = V.str j) = decide (i = j) from decide_eq_decide.mpr ⟨V.str.inj, congrArg V.str⟩]; exact k⟩
theorem k_neStr {i j : Str} (k : Q (.bl (!decide (i = j))) H) : rNeA K (.str i) (.str j) H Q := .inl ⟨rfl, by rw [show decide (V.str i = V.str j) = decide (i = j) from decide_eq_decide.mpr ⟨V.str.inj, congrArg V.str⟩]; exact k⟩
theorem k_un {r : V → Hp → VK → Prop} (k : ta σ H fun x H1 => r x H1 Q) : tUn r ta σ H Q := k
theorem k_neg {i : Int} (k : Q (.int (-i)) H) : rNeg (.int i) H Q := ⟨i, rfl, k⟩
theorem k_andV (k : ta σ H fun x H1 => isB x H1 fun c H2 => if c = true then tb σ H2 Q else Q (.bl false) H2) : tAndV ta tb σ H Q := k
theorem k_orV (k : ta σ H fun x H1 => isB x H1 fun c H2 => if c = true then Q (.bl true) H2 else tb σ H2 Q) : tOrV ta tb σ H Q := k
theorem k_notV (k : ta σ H fun x H1 => isB x H1 fun c H2 => Q (.bl (!c)) H2) : tNotV ta σ H Q := k
/-- x in a written tuple of data -/
def rInT (K : PySem.W.Frag) : R2 := fun x y H Q => ∃ d ds, Dp K H x d ∧ Dp K H y (.tuple ds) ∧ SeqAt.shaped d = true ∧ SeqAt.shaped (.tuple ds) = true ∧ Q (.bl (ds.any fun z => PyData.eqv z d)) H
theorem rv_inTD {d : PyData} {ds : List PyData} {x y : V} (h1 : Dp K H x d) (h2 : Dp K H y (.tuple ds)) (s1 : SeqAt.shaped d = true) (s2 : SeqAt.shaped (.tuple ds) = true) : RV0 (rInT K) x y H (.bl (ds.any fun z => PyData.eqv z d)) := fun _ q => ⟨d, ds, h1, h2, s1, s2, q⟩
/-- a, b = a tuple -/
theorem k_unp2 {a : Addr} {x y : V} {i j : Nat} {Qs : St → Hp → Prop} (h : SqT K H a [x, y]) (k : Qs ((σ.set i (some x)).set j (some y)) H) : gTup K 2 (gCons (gName i) (gCons (gName j) gNil)) (.ref a) σ H Qs :=
  ⟨a, [x, y], rfl, h, rfl, x, [y], rfl, y, [], rfl, rfl, k⟩
/-! comprehensions over data -/
theorem DpAll.getD {vs : List V} {ds : List PyData} (h : DpAll K H vs ds) {i : Nat} (hi : i < ds.length) : Dp K H (vs.getD i .non) (ds.getD i .none) := by
  obtain ⟨v, hv, hd⟩ := DpAll.get h (i := i) (d := ds.getD i .none) (by rw [List.getD_eq_getElem?_getD, List.getElem?_eq_getElem hi]; rfl)
  rw [List.getD_eq_getElem?_getD, hv]
  exact hd
theorem getD_mem {α : Type} {l : List α} {i : Nat} {d : α} (h : i < l.length) : l.getD i d ∈ l := by
  rw [List.getD_eq_getElem?_getD, List.getElem?_eq_getElem h]
  exact List.getElem_mem h
theorem lc_mapTD {te : TE} {vs : List Nat} {j : Nat} {a : Addr} {xs : List V} {ds : List PyData} (F : PyData → V) (hx : SqT K H a xs) (ha : DpAll K H xs ds) (hn : ds.length ≤ 50000) (hw : ∀ x, wipe ((wipe σ vs).set j (some x)) vs = wipe σ vs)
    (hf : ∀ v d H1, d ∈ ds → Dp K H1 v d → Same H H1 → EvS te ((wipe σ vs).set j (some v)) H1 (F d))
    (hd : ∀ D H', H D = none → Same H H' → H' D = some (.lst (ds.map F)) → Q (.ref D) H') : lcOn (gName j) tYes te vs σ Q (Itt K a) H := by
  have hl := DpAll.len ha
  refine lc_map _ walk_T (fun i => F (ds.getD i .none)) (by omega) (fun _ s => Evl.ex_t s hx) hw (fun i H1 hi s => hf _ _ H1 (getD_mem (by omega)) ((ha.getD (by omega)).up s) s) (fun D H' h1 h2 h3 => hd D H' h1 h2 (by rw [h3, hl, range_getD]))
theorem lc_mapLD {te : TE} {vs : List Nat} {j : Nat} {a : Addr} {xs : List V} {ds : List PyData} (F : PyData → V) (hx : SqL K H a xs) (ha : DpAll K H xs ds) (hn : ds.length ≤ 50000) (hw : ∀ x, wipe ((wipe σ vs).set j (some x)) vs = wipe σ vs)
    (hf : ∀ v d H1, d ∈ ds → Dp K H1 v d → Same H H1 → EvS te ((wipe σ vs).set j (some v)) H1 (F d))
    (hd : ∀ D H', H D = none → Same H H' → H' D = some (.lst (ds.map F)) → Q (.ref D) H') : lcOn (gName j) tYes te vs σ Q (Itl K a) H := by
  have hl := DpAll.len ha
  refine lc_map _ walk_L (fun i => F (ds.getD i .none)) (by omega) (fun _ s => s.seq hx) hw (fun i H1 hi s => hf _ _ H1 (getD_mem (by omega)) ((ha.getD (by omega)).up s) s) (fun D H' h1 h2 h3 => hd D H' h1 h2 (by rw [h3, hl, range_getD]))
/-! shapes -/
theorem shaped_cons {d : PyData} {ds : List PyData} (h : SeqAt.shaped (.tuple (d :: ds)) = true) : SeqAt.shaped d = true ∧ SeqAt.shaped (.tuple ds) = true := by
  have h1 := SeqAt.canLay_of_shaped h
  have h2 := SeqAt.depth_of_shaped h
  have h3 : (d.canLay0 && PyData.canLayAll0 ds) = true := h1
  have h4 : max d.depth (PyData.depthAll ds) + 1 ≤ 64 := h2
  rw [Bool.and_eq_true] at h3
  refine ⟨?_, ?_⟩
  · unfold SeqAt.shaped
    rw [h3.1, Bool.true_and, decide_eq_true_eq]
    omega
  · unfold SeqAt.shaped
    show (PyData.canLayAll0 ds && decide (PyData.depthAll ds + 1 ≤ 64)) = true
    rw [h3.2, Bool.true_and, decide_eq_true_eq]
    omega
end
section
variable {X : Cx} (K : PySem.W.Frag)
theorem un_negA : UnR X (unaryOp .USub) rNeg := un_neg
theorem inTK {k : Nat} (hr : Room k X.A) (h : X.K = K := by rfl) : OpR X (compareOp .In) (rInT K) := by
  subst h
  intro pins s σ H x y v u Q I rx ry h
  obtain ⟨d, ds, hd, he, sd, se, q⟩ := h
  obtain ⟨as, r1⟩ := Dp.reads I d x v hd rx
  obtain ⟨bs, r2⟩ := Dp.reads I (.tuple ds) y u he ry
  exact SeqAt.in_tuple_reads r2 r1 (SeqAt.canLay_of_shaped se) (SeqAt.canLay_of_shaped sd) (room_in_shaped sd (hu65 hr)) ⟨.bl _, H, I, rfl, q⟩
theorem tupleK {es : List Expr} {k : Nat} {t : TGs} {n : Nat} {pos : Pos} (hc : X.calm = true) (h : PGs X es t) (hK : X.K = K := by rfl)
    (hn : (assignEach es X.env).length = n := by rfl) (hst : (assignEach es X.env).findIdx? (·.1) = none := by rfl) : PG X (.Tuple es k pos) (gTup K n t) := by subst hK; exact pg_tup hc h hn hst
end
end L2
set_option Elab.async false
set_option linter.all false
/-! The mirror: conditions over texts (lists of code points), in plain Lean. -/
namespace Mi
open PySem L2 TL
/-- a condition of another kind than not -/
inductive C0 where
  | vowel | runs (m : Int) | ends (ts : List Str) | double | least (k : Int) | shape (s : Str)
inductive Cond where
  | pos (c : C0) | neg (c : C0)
def runs (vs : List Nat) : List Nat → Nat
  | a :: b :: r => (if a ∈ vs ∧ b ∉ vs then 1 else 0) + runs vs (b :: r)
  | _ => 0
def kinds (vs : List Nat) (r : List Nat) : List Nat := r.map fun c => if c ∈ vs then 118 else 111
def suff (e r : List Nat) : Bool := decide (e.length ≤ r.length) && decide (r.drop (r.length - e.length) = e)
def dbl (vs : List Nat) (r : List Nat) : Bool :=
  match r.reverse with
  | a :: b :: _ => decide (a = b) && decide (a ∉ vs)
  | _ => false
def met0 (vs : List Nat) (r : List Nat) : C0 → Bool
  | .vowel => r.any fun c => decide (c ∈ vs)
  | .runs m => decide (m ≤ (runs vs r : Int))
  | .ends ts => ts.any fun t => suff (tl t) r
  | .double => dbl vs r
  | .least k => decide (k ≤ (r.length : Int))
  | .shape s => suff (tl s) (kinds vs r)
def met (vs : List Nat) (r : List Nat) : Cond → Bool
  | .pos c => met0 vs r c
  | .neg c => !met0 vs r c
/-! ### as data -/
def enc0 : C0 → PyData
  | .vowel => .tuple [.str "vowel"]
  | .runs m => .tuple [.str "runs", .int m]
  | .ends ts => .tuple [.str "ends", .tuple (ts.map .str)]
  | .double => .tuple [.str "double"]
  | .least k => .tuple [.str "least", .int k]
  | .shape s => .tuple [.str "shape", .str s]
def enc : Cond → PyData
  | .pos c => enc0 c
  | .neg c => .tuple [.str "not", enc0 c]
/-- what makes it a condition -/
def ok0 : C0 → Prop
  | .runs m => 0 ≤ m
  | .least k => 0 ≤ k
  | .shape s => ∀ c ∈ tl s, c = 118 ∨ c = 111
  | _ => True
def okc : Cond → Prop
  | .pos c => ok0 c
  | .neg c => ok0 c
/-! ### lemmas -/
theorem runs_step (vs : List Nat) : ∀ (r : List Nat) (i : Nat), i + 1 < r.length →
    runs vs (r.take (i + 2)) = runs vs (r.take (i + 1)) + (if r.getD i 0 ∈ vs ∧ r.getD (i + 1) 0 ∉ vs then 1 else 0)
  | [], i, h => by simp at h
  | [_], i, h => by simp at h
  | a :: b :: r, 0, h => by simp [runs]
  | a :: b :: r, i + 1, h => by
    have ih := runs_step vs (b :: r) i (by simpa using h)
    have e1 : (a :: b :: r).take (i + 1 + 2) = a :: (b :: r).take (i + 2) := rfl
    have e2 : (a :: b :: r).take (i + 1 + 1) = a :: (b :: r).take (i + 1) := rfl
    have e3 : (b :: r).take (i + 2) = b :: r.take (i + 1) := rfl
    have e4 : (b :: r).take (i + 1) = b :: r.take i := rfl
    rw [e1, e2, e3, e4]
    simp only [runs]
    rw [e3, e4] at ih
    simp only [List.getD_cons_succ] at ih ⊢
    omega
theorem runs_zero (vs : List Nat) (r : List Nat) : runs vs (r.take 1) = 0 := by
  cases r with
  | nil => rfl
  | cons a r => rfl
theorem kinds_length (vs r : List Nat) : (kinds vs r).length = r.length := by simp [kinds]
end Mi
set_option Elab.async false
set_option linter.all false
/-! what is a condition, over data -/
namespace Mi
open PySem L2 TL
def isNum : PyData → Bool
  | .int i => decide (0 ≤ i)
  | _ => false
def isTextOf (d : PyData) (y : Str) : Bool := match d with
  | .str x => (tl x).all fun c => decide (c ∈ tl y)
  | _ => false
def isTexts : PyData → Bool
  | .tuple ts => ts.all isStrD
  | _ => false
def inT (ws : List Str) (d : PyData) : Bool := (ws.map PyData.str).any fun z => PyData.eqv z d
def isPl : PyData → Bool
  | .tuple [a] => inT ["vowel", "double"] a
  | .tuple [k, v] => if inT ["runs", "least"] k then isNum v else if PyData.eqv k (.str "ends") then isTexts v else PyData.eqv k (.str "shape") && isTextOf v "vo"
  | _ => false
def isCd : PyData → Bool
  | .tuple [a, b] => if PyData.eqv a (.str "not") then isPl b else isPl (.tuple [a, b])
  | d => isPl d
/-- texts within are not too long -/
def szd : PyData → Prop
  | .str x => x.length ≤ 50000
  | .tuple ds => ds.length ≤ 50000
  | _ => True
end Mi
set_option Elab.async false
set_option linter.all false
set_option maxRecDepth 100000
set_option maxHeartbeats 4000000
namespace L2
open PySem PySem.Spec PyProof.Rows TL
/-! ### zip of two texts -/
def ItzS (x y : Str) : It :=
  ⟨fun i _ => i < min x.cps.size y.cps.size, fun i H v H' => ∃ (T : Addr) (c d : Nat), v = .ref T ∧ H T = none ∧ H' = upd H T (.tup [.str ⟨#[c]⟩, .str ⟨#[d]⟩]) ∧ x.cps[i]? = some c ∧ y.cps[i]? = some d, fun i _ => i = min x.cps.size y.cps.size⟩
def zsSt (x y : Str) (tx ty : Tok) (z TI TO i1 i2 : Addr) (i : Nat) (h : Heap) : Prop :=
  IsZip h z TI TO .none ∧ IsTupOf2 h TI (.ref i1) (.ref i2) ∧ (∃ a1 a2, IsTupOf2 h TO a1 a2) ∧ h.IsStrIter i1 (strIterType x) x tx i ∧ h.IsStrIter i2 (strIterType y) y ty i
theorem turn_zipS {P : Program} {w : World} {K : PySem.W.Frag} {elts : List Expr} {kk : Nat} {tpos : Pos} {z TI TO i1 i2 : Addr} (x y : Str) (tx ty : Tok) (D : ZipSep2 z TI TO i1 i2 [i1] [i2]) :
    Turn P w K (.Tuple elts kk tpos) (ItzS x y) [z, TI, TO, i1, i2] z (zsSt x y tx ty z TI TO i1 i2) where
  mem := by simp
  obj := fun i h st c hc => by
    obtain ⟨hz, hTI, ⟨a, b, hTO⟩, ⟨o1, e1, _, d1⟩, ⟨o2, e2, _, d2⟩⟩ := st
    have e' : c = z ∨ c = TI ∨ c = TO ∨ c = i1 ∨ c = i2 := by simpa using hc
    rcases e' with q | q | q | q | q
    · rw [q]; exact ⟨_, hz, fun v q => nomatch q⟩
    · rw [q]; exact ⟨_, hTI, fun v q => nomatch q⟩
    · rw [q]; exact ⟨_, hTO, fun v q => nomatch q⟩
    · rw [q]; exact ⟨o1, e1, fun v q => by rw [d1] at q; cases q⟩
    · rw [q]; exact ⟨o2, e2, fun v q => by rw [d2] at q; cases q⟩
  keep := fun i h h' st k => by
    obtain ⟨hz, hTI, ⟨a, b, hTO⟩, ⟨o1, e1, r1⟩, ⟨o2, e2, r2⟩⟩ := st
    exact ⟨k z (by simp) _ hz, k TI (by simp) _ hTI, ⟨a, b, k TO (by simp) _ hTO⟩, ⟨o1, k i1 (by simp) _ e1, r1⟩, ⟨o2, k i2 (by simp) _ e2, r2⟩⟩
  item := by
    intro X hP hw hK hc i pins s σ H E I hf st hg
    subst hP hw hK
    have W := WalksT.zipD2 (prog := X.prog) (w := X.w) (A := X.A) D (Draws.text (prog := X.prog) (w := X.w) (A := X.A.in1) (I.ok.hd hc) i1 x tx) (Draws.text (prog := X.prog) (w := X.w) (A := X.A.in1) (I.ok.hd hc) i2 y ty)
    refine W.item i s _ _ hg st fun T vals h' tk hP hT hTup hM hk => ?_
    obtain ⟨x1, x2, ⟨c, u, hcx, rfl⟩, ⟨d, u2, hdx, rfl⟩, rfl⟩ := hP
    have hTn : T ∉ [z, TO, i1, i2] := W.apart i T h' hM
    refine ⟨_, rfl, W.go elts kk tpos i T { s with heap := h', toks := tk } _ _ hM fun h'' st2 hk2 => ?_⟩
    obtain ⟨oT, eT, cT, nT, dT⟩ := hTup
    have hT2 : h''.get? T = some oT := hk2 T oT hTn eT
    have new : ObjOk X.prog X.w (upd H T (.tup [.str ⟨#[c]⟩, .str ⟨#[d]⟩])) h'' T (.tup [.str ⟨#[c]⟩, .str ⟨#[d]⟩]) :=
      ⟨by show 2 ≤ sizeLine; decide, [.str ⟨#[c]⟩ u, .str ⟨#[d]⟩ u2], .cons ⟨_, rfl⟩ (.cons ⟨_, rfl⟩ .nil), ⟨oT, hT2, cT, nT, dT⟩⟩
    have I1 : Inv X pins σ (upd H T (.tup [.str ⟨#[c]⟩, .str ⟨#[d]⟩])) { s with heap := h'', toks := tk } :=
      I.turnedNew (t' := tk) (ch := [z, TI, TO, i1, i2]) (fun b o hb q => hk2 b o (fun hm => hb (by simp at hm ⊢; rcases hm with e | e | e | e <;> simp [e])) (hk b o (fun hm => hb (by simp at hm ⊢; rcases hm with e | e | e | e <;> simp [e])) q)) hf hT new
    refine ⟨.ref T, _, I1, rfl, ⟨T, c, d, rfl, I.hok.fresh hT, rfl, hcx, hdx⟩, st2, fun b hb => ?_⟩
    obtain ⟨hz0, hTI0, ⟨a0, b0, hTO0⟩, ⟨o1, e1, _⟩, ⟨o2, e2, _⟩⟩ := st
    have hlt : b < s.heap.objs.size := by
      have e' : b = z ∨ b = TI ∨ b = TO ∨ b = i1 ∨ b = i2 := by simpa using hb
      rcases e' with q | q | q | q | q
      · rw [q]; exact Heap.lt_size hz0
      · rw [q]; exact Heap.lt_size hTI0
      · rw [q]; exact Heap.lt_size hTO0
      · rw [q]; exact Heap.lt_size e1
      · rw [q]; exact Heap.lt_size e2
    rw [upd_ne (Nat.ne_of_lt (Nat.lt_of_lt_of_le hlt hT))]
    exact (hf b hb).1
  done := by
    intro X hP hw hK hc i pins s σ H E I hf st hg
    subst hP hw hK
    have W := WalksT.zipD2 (prog := X.prog) (w := X.w) (A := X.A) D (Draws.text (prog := X.prog) (w := X.w) (A := X.A.in1) (I.ok.hd hc) i1 x tx) (Draws.text (prog := X.prog) (w := X.w) (A := X.A.in1) (I.ok.hd hc) i2 y ty)
    have hg' : i = min x.cps.size y.cps.size := hg
    subst hg'
    exact W.done s _ _ st fun h' tk hk => ⟨rfl, I.turnedL (t' := tk) (ch := [z, TI, TO, i1, i2]) (fun b o hb q => hk b o (fun hm => hb (by simp at hm ⊢; rcases hm with e | e | e | e <;> simp [e])) q) hf⟩
  self := fun A i s Q E st h => wpAny_pyIter_zip st.1 h
def onZS (vs : List V) (H : Hp) (R : It → Hp → Prop) : Prop := ∃ x y : Str, vs = [.str x, .str y] ∧ R (ItzS x y) H
def iZipS (ta : TA) : TI := fun σ H R => ta σ H fun vs H1 => onZS vs H1 R
theorem pi_zipS {X : Cx} {e e2 : Expr} {ta : TA} {p pos tpos : Pos} {elts : List Expr} {kk : Nat} (hg : Gl X "zip") (hm : X.mg "zip" = none) (ha : PA X [e, e2] ta)
    (hs : starEach [e, e2] X.env = (false, eval e X.env) :: starEach [e2] X.env := by rfl) (hpl : (backTo pos (starEach [e2] X.env)).any (·.1) = false := by rfl) :
    PI X (.Tuple elts kk tpos) (.Call (.Name "zip" p) [e, e2] [] pos) (iZipS ta) := by
  refine ⟨fun pins s σ H R I h => ?_⟩
  refine Call_ (ld_blt I hg hm PyProof.Rows.boot_zip (PyProof.Rows.callWith_type1 (thn (ha.run pos pins s σ H _ I h) fun us s1 ⟨vs, H1, I1, r1, q1⟩ => ?_) hs hpl))
  obtain ⟨x, y, ex, q⟩ := q1
  subst ex
  cases r1 with
  | cons r rr =>
    cases rr with
    | cons r' rr =>
      cases rr
      obtain ⟨tx, rfl⟩ := r
      obtain ⟨ty, rfl⟩ := r'
      refine zip_begins2 (begins_text x tx) (begins_text y ty) trivial trivial fun h' hz hTI hTO h1 h2 hsz hk => wpAny_pyIter_zip hz ?_
      have I2 : Inv X pins σ H1 { s1 with heap := h' } := I1.kept (t' := s1.toks) hk
      refine ⟨s1.heap.objs.size + 4, [s1.heap.objs.size + 4, s1.heap.objs.size + 2, s1.heap.objs.size + 3, s1.heap.objs.size, s1.heap.objs.size + 1], _, _, H1, rfl, I2, turn_zipS x y tx ty (zip_sep2 (N := s1.heap.objs.size) (fp1 := []) (fp2 := []) (by simp) (by simp)), ⟨hz, hTI, ⟨_, _, hTO⟩, ⟨_, h1, rfl, rfl⟩, ⟨_, h2, rfl, rfl⟩⟩, fun c hcm => ?_, q⟩
      have e' : c = s1.heap.objs.size + 4 ∨ c = s1.heap.objs.size + 2 ∨ c = s1.heap.objs.size + 3 ∨ c = s1.heap.objs.size ∨ c = s1.heap.objs.size + 1 := by simpa using hcm
      have hle : s1.heap.objs.size ≤ c := by
        rcases e' with z | z | z | z | z
        · rw [z]; exact Nat.le_add_right _ _
        · rw [z]; exact Nat.le_add_right _ _
        · rw [z]; exact Nat.le_add_right _ _
        · rw [z]; exact Nat.le_refl _
        · rw [z]; exact Nat.le_add_right _ _
      exact I1.fpOk hle (I1.hok.fresh hle)
theorem walk_ZS {x y : Str} : Walk (ItzS x y) (min (tl x).length (tl y).length) (fun _ => True) (fun i H v H' => ∃ T : Addr, v = .ref T ∧ H T = none ∧ H' = upd H T (.tup [.str ⟨#[(tl x).getD i 0]⟩, .str ⟨#[(tl y).getD i 0]⟩])) := by
  have e1 : (tl x).length = x.cps.size := by simp [tl]
  have e2 : (tl y).length = y.cps.size := by simp [tl]
  rw [e1, e2]
  refine ⟨fun i H hi _ => hi, fun H _ => rfl, fun i H v H' _ _ yy => ?_⟩
  obtain ⟨T, c, d, rfl, hT, rfl, hc, hd⟩ := yy
  have hc' : (tl x)[i]? = some c := by simpa [tl] using hc
  have hd' : (tl y)[i]? = some d := by simpa [tl] using hd
  refine ⟨T, rfl, hT, ?_⟩
  rw [List.getD_eq_getElem?_getD, List.getD_eq_getElem?_getD, hc', hd']
  rfl
end L2
set_option Elab.async false
set_option linter.all false
set_option maxRecDepth 100000
set_option maxHeartbeats 4000000
namespace L2
open PySem PySem.Spec PyProof.Rows TL
section
variable {K : PySem.W.Frag} {σ : St} {H : Hp} {te : TE} {tt : TT} {vs : List Nat} {Q : VK} {j j1 j2 : Nat}
theorem zip_range (x y : List Nat) (F : Nat → Nat → V) : (List.range (min x.length y.length)).map (fun i => F (x.getD i 0) (y.getD i 0)) = (x.zip y).map fun p => F p.1 p.2 := by
  refine List.ext_getElem (by simp) fun i h1 h2 => ?_
  have h3 : i < min x.length y.length := by simpa using h1
  have hx : i < x.length := by omega
  have hy : i < y.length := by omega
  simp only [List.getElem_map, List.getElem_range, List.getElem_zip]
  rw [List.getD_eq_getElem?_getD, List.getD_eq_getElem?_getD, List.getElem?_eq_getElem hx, List.getElem?_eq_getElem hy]
  rfl
theorem k_sl {r : V → Option Int → Option Int → Hp → VK → Prop} {tlo thi : TO} (k : te σ H fun x H1 => tlo σ H1 fun lo H2 => thi σ H2 fun hi H3 => r x lo hi H3 Q) : tSl r te tlo thi σ H Q := k
def isI (x : V) (H : Hp) (R : Option Int → Hp → Prop) : Prop := ∃ i, x = .int i ∧ R (some i) H
theorem k_part {R : Option Int → Hp → Prop} (k : te σ H fun x H1 => isI x H1 R) : tPart te σ H R := k
theorem k_isI {i : Int} {R : Option Int → Hp → Prop} (k : R (some i) H) : isI (.int i) H R := ⟨i, rfl, k⟩
theorem k_nopart {R : Option Int → Hp → Prop} (k : R none H) : tNoPart σ H R := k
theorem sign_eq (a b : Nat) : decide ((⟨#[a]⟩ : Str) = ⟨#[b]⟩) = decide (a = b) := decide_eq_decide.mpr ⟨fun h => by
    have := congrArg tl h
    simpa [tl] using this, fun h => by rw [h]⟩
theorem k_lcZS {ta : TA} {g : TG} (k : ta σ H fun vs1 H1 => onZS vs1 H1 (lcOn g tt te vs σ Q)) : tLc (iZipS ta) g tt te vs σ H Q := k
theorem k_onZS {x y : Str} {R : It → Hp → Prop} (k : R (ItzS x y) H) : onZS [.str x, .str y] H R := ⟨x, y, rfl, k⟩
/-- [e for a, b in zip(text, text)] -/
theorem lc_mapZS {x y : Str} (F : Nat → Nat → V) (hn : x.length ≤ 50000) (hw : ∀ a b, wipe (((wipe σ vs).set j1 (some a)).set j2 (some b)) vs = wipe σ vs)
    (hf : ∀ c d H1, Same H H1 → EvS te (((wipe σ vs).set j1 (some (.str ⟨#[c]⟩))).set j2 (some (.str ⟨#[d]⟩))) H1 (F c d))
    (hd : ∀ D H', H D = none → Same H H' → H' D = some (.lst (((tl x).zip (tl y)).map fun p => F p.1 p.2)) → Q (.ref D) H') : lcOn (gTup K 2 (gCons (gName j1) (gCons (gName j2) gNil))) tYes te vs σ Q (ItzS x y) H := fun D hD => by
  refine lc_it walk_ZS (fun i H' => Same H H' ∧ H' D = some (.lst ((List.range i).map fun k => F ((tl x).getD k 0) ((tl y).getD k 0)))) ⟨same_new hD, upd_same⟩ (fun _ _ _ _ => trivial) (fun i v H1 H2 hi iv yy => ?_) (fun H' iv => ?_)
  · obtain ⟨T, rfl, hT, rfl⟩ := yy
    obtain ⟨s1, e1⟩ := iv
    have s2 : Same H1 (upd H1 T (.tup [.str ⟨#[(tl x).getD i 0]⟩, .str ⟨#[(tl y).getD i 0]⟩])) := same_new hT
    refine k_unp2 (Evl.st_of upd_same) ⟨hw _ _, ?_⟩
    refine k_yes (iteT ?_)
    refine hf _ _ _ (s1.trans s2) _ fun H4 s4 => ⟨_, s4 D _ (s2 D _ e1), ?_, same_mut ((s1.trans s2).trans s4) hD, ?_⟩
    · rw [List.length_map, List.length_range]
      exact Evl.sz_lt (by rw [← len_tl] at hi; omega)
    · rw [upd_same, List.range_succ, List.map_append]
      rfl
  · exact hd D H' hD iv.1 (by rw [iv.2, zip_range])
theorem tl_cut_from {z : Str} {k : Nat} (h : k ≤ z.length) : cutS z (some (k : Int)) none = mk ((tl z).drop k) := by
  refine ext_tl ?_
  show (z.cps.toList.drop (HT.sIx z.length 0 (some (k : Int)))).take (HT.sIx z.length z.length none - HT.sIx z.length 0 (some (k : Int))) = (tl z).drop k
  rw [HT.sIx_nat, HT.sIx_none, Nat.min_eq_left h]
  refine List.take_of_length_le ?_
  rw [List.length_drop]
  have := len_tl z
  simp only [tl] at this
  omega
theorem tl_cut_to {z : Str} {k : Nat} (h : k ≤ z.length) : cutS z none (some (k : Int)) = mk ((tl z).take k) := by
  refine ext_tl ?_
  show (z.cps.toList.drop (HT.sIx z.length 0 none)).take (HT.sIx z.length z.length (some (k : Int)) - HT.sIx z.length 0 none) = (tl z).take k
  rw [HT.sIx_nat, HT.sIx_none, Nat.min_eq_left h]
  rfl
theorem at_neg {α : Type} {xs : List α} {k : Nat} {v : α} (h0 : 0 < k) (h : k ≤ xs.length) (e : xs[xs.length - k]? = some v) : atI xs (-(k : Int)) = some v := by
  have e1 : ixN xs.length (-(k : Int)) = some (xs.length - k) := by
    unfold ixN
    rw [if_neg (by omega), if_pos (by omega)]
    congr 1
    omega
  unfold atI
  rw [e1]
  exact e
end
end L2
namespace Mi
open PySem PySem.Spec PyProof.Rows L2 TL
theorem ends_suff (x y : Str) : Txt.endswith x y = suff (tl y) (tl x) := by
  unfold Txt.endswith suff
  rw [Nat.zero_add]
  by_cases h : y.length ≤ x.length
  · have h' : (tl y).length ≤ (tl x).length := by rw [← len_tl, ← len_tl]; exact h
    rw [decide_eq_true h, decide_eq_true h', Bool.true_and, Bool.true_and, PySem.StrLaws.subAt_eq]
    have hl : ((tl x).drop (x.length - y.length)).length = y.length := by
      rw [List.length_drop, ← len_tl]
      omega
    have e : ((tl x).drop (x.length - y.length)).take y.length = (tl x).drop ((tl x).length - (tl y).length) := by
      rw [List.take_of_length_le (by omega), len_tl, len_tl]
    show ((((tl x).drop (x.length - y.length)).take y.length) == tl y) = _
    rw [e]
    rw [Bool.eq_iff_iff]; simp
  · have h' : ¬ (tl y).length ≤ (tl x).length := by rw [← len_tl, ← len_tl]; exact h
    rw [decide_eq_false h, decide_eq_false h', Bool.false_and, Bool.false_and]
end Mi
set_option Elab.async false
set_option linter.all false
set_option maxRecDepth 100000
set_option maxHeartbeats 4000000
namespace L2
open PySem PySem.Spec PyProof.Rows
/-! ### try with several clauses, each with a name or without -/
end L2
namespace L2
open PySem PySem.Spec PyProof.Rows
section
variable {K : PySem.W.Frag} {σ : St} {H : Hp} {te to : TE} {f : Str} {D : Ends} {C : Addr} {Q : XK}
theorem k_ost (k : te σ H fun y H1 => to σ H1 fun x H2 => ∃ a C : Addr, x = .ref a ∧ OexC K C ∧ PySem.W.findIn K (.ref C) f = some none ∧
    ((H2 a = some (exo a C none) ∧ ∀ dx, H2 dx = none → dx ≠ a → D.nx σ (upd (upd H2 dx (exd dx [(f, y)])) a (exo a C (some dx)))) ∨
      ∃ (dx : Addr) (fs : List (Str × V)), H2 a = some (exo a C (some dx)) ∧ H2 dx = some (exd dx fs) ∧ fs.length ≤ 900 ∧ D.nx σ (upd H2 dx (exd dx ((f, y) :: fs))))) : tOst K f to te D σ H := k
/-- an exception's one field is set -/
def spInit (C : Addr) (f : Str) : Sp := fun vs H Q _ =>
  ∃ (a : Addr) (y : V), vs = [.ref a, y] ∧ H a = some (exo a C none) ∧
    ∀ dx, H dx = none → dx ≠ a → Q .non (upd (upd H dx (exd dx [(f, y)])) a (exo a C (some dx)))
/-- C(e) is made -/
theorem mkO_ok {v : V} (q : ∀ H' dd, Same H H' → H' dd = some (.xd [(f, v)]) → Q (.ref C) (some dd) H') :
    [v].length ≤ 1000 ∧ ∀ a, H a = none → spInit C f (.ref a :: ([v] ++ [])) (upd H a (exo a C none))
      (fun u H2 => u = .non ∧ ∃ (d : Addr) (fs : List (Str × V)), H2 a = some (exo a C (some d)) ∧ H2 d = some (exd d fs) ∧ H d = none ∧ Q (.ref C) (some d) (upd (del H2 a) d (.xd fs))) fun _ _ _ => False := by
  refine ⟨by show (1 : Nat) ≤ 1000; decide, fun a ha => ⟨a, v, rfl, upd_same, fun dx hd ne => ⟨rfl, dx, [(f, v)], upd_same, ?_, ?_, q _ dx (fun b o hb => ?_) upd_same⟩⟩⟩
  · rw [upd_ne ne, upd_same]
  · rw [upd_ne ne] at hd
    exact hd
  · rw [upd_ne ne] at hd
    have n1 : b ≠ dx := fun e => by
      rw [e, hd] at hb
      cases hb
    have n2 : b ≠ a := fun e => by
      rw [e, ha] at hb
      cases hb
    rw [upd_ne n1, del_ne n2, upd_ne n2, upd_ne n1, upd_ne n2]
    exact hb
theorem k_mkV {i : Nat} {v : V} (e : σ[i]? = some (some v)) (q : ∀ H' dd, Same H H' → H' dd = some (.xd [(f, v)]) → Q (.ref C) (some dd) H') : tMkO C (spInit C f) [] (tCons (tVar i) tNil) σ H Q :=
  ⟨v, e, mkO_ok q⟩
end
end L2
namespace L2
open PySem PySem.Spec PyProof.Rows
end L2
set_option Elab.async false
set_option linter.all false
set_option maxRecDepth 100000
set_option maxHeartbeats 4000000
namespace L2
open PySem PySem.Spec PyProof.Rows TL
/-- a text whose signs are signs -/
def okS (x : Str) : Prop := ∀ c ∈ tl x, c < 1114112
theorem okS.lay {x : Str} (h : okS x) : PyData.canLay0 (.str x) = true := by
  show PyData.strOk x = true
  unfold PyData.strOk
  rw [Array.all_eq_true_iff_forall_mem]
  intro c hc
  exact decide_eq_true (h c (by simpa [tl] using hc))
theorem lay_strs : ∀ {ts : List Str}, (∀ t ∈ ts, okS t) → PyData.canLayAll0 (ts.map .str) = true
  | [], _ => rfl
  | t :: ts, h => by
    show (PyData.canLay0 (.str t) && PyData.canLayAll0 (ts.map .str)) = true
    rw [lay_strs fun z hz => h z (.tail _ hz), (h t (.head _)).lay]
    rfl
theorem depth_strs : ∀ ts : List Str, PyData.depthAll (ts.map .str) = 0
  | [] => rfl
  | t :: ts => by
    show max (PyData.depth (.str t)) (PyData.depthAll (ts.map .str)) = 0
    rw [depth_strs ts]
    rfl
theorem shaped_strsL {ts : List Str} (h : ∀ t ∈ ts, okS t) : SeqAt.shaped (.list (ts.map .str)) = true := by
  unfold SeqAt.shaped
  show (PyData.canLayAll0 (ts.map .str) && decide (PyData.depthAll (ts.map .str) + 1 ≤ 64)) = true
  rw [lay_strs h, depth_strs]
  rfl
section
variable {K : PySem.W.Frag} {H : Hp} {Q : VK}
theorem dp_strs : ∀ ts : List Str, DpAll K H (ts.map .str) (ts.map .str)
  | [] => .nil
  | t :: ts => .cons (.str t) (dp_strs ts)
/-- texts != [] -/
theorem k_neNil {r s : Addr} {ts : List Str} (ho : ∀ t ∈ ts, okS t) (h1 : SqL K H r (ts.map .str)) (h2 : SqL K H s []) (k : Q (.bl (decide (ts ≠ []))) H) : rNeA K (.ref r) (.ref s) H Q := by
  have h := rv_neD (Q := Q) (Dp.lst h1 (dp_strs ts)) (Dp.lst h2 .nil) (shaped_strsL ho) (by decide +kernel)
  refine h ?_
  have e : (!PyData.eqv (.list (ts.map .str)) (.list [])) = decide (ts ≠ []) := by
    cases ts with
    | nil => rfl
    | cons t ts => rfl
  rw [e]
  exact k
end
end L2
set_option Elab.async false
set_option linter.all false
set_option maxRecDepth 100000
set_option maxHeartbeats 4000000
namespace L2
open PySem PySem.Spec PyProof.Rows TL
/-! ### defs that run while nothing is on its way to a text -/
/-- as FnOk, but only where no text is being made -/
structure FnG (P : Program) (w : World) (K : PySem.W.Frag) (mg : Str → Option Value) (base : Heap) (k : Nat) (f : Addr) (fd : FuncData) (ps : List Str) (sp : Sp) : Prop where
  len : ∀ vs H Q E, sp vs H Q E → vs.length = ps.length
  run : ∀ (A : Around) (outer : List Env) (s : Shared) (H : Hp) (args : Args) (us : List Value) (vs : List V) (Q : VK) (E : XK),
    Room k A → A.guards = some [] → Env0 P w K mg base A outer s H → BindsTo s fd args (ps.zip us) → Vals vs us → sp vs H Q E →
    codeAny (model P w) A (.call (.ref f) args) (CR CX0 outer P w H s Q E) s
section
variable {P : Program} {w : World} {K : PySem.W.Frag} {mg : Str → Option Value} {base : Heap} {k : Nat} {f : Addr} {fd : FuncData} {ps N : List Str} {sp : Sp} {x qual : Str} {st : Stmt}
/-- its body -/
theorem Fun.okG (F : Fun K x qual st f fd) (S : FnScope N ps (defScope st)) (len : ∀ vs H Q E, sp vs H Q E → vs.length = ps.length)
    (body : ∀ (cdv : Value) (A : Around) (outer : List Env) (s : Shared) (H : Hp) (vs : List V) (Q : VK) (E : XK), A.guards = some [] → Room k (A.deeper (envOfC qual (defScope st) s.heap.objs.size f cdv)) → sp vs H Q E →
      ∃ t, PSs (cxOf CX0 P w K mg base N qual (defScope st) f cdv A outer s H E).nox (defBody st) t ∧ t { nx := fun _ H1 => Q .non H1, rt := Q } (start N vs) H) :
    FnG P w K mg base (k + 1) f fd ps sp := by
  obtain ⟨oc, od, kV, doc, pm, an, cdv, ct, osl, rfl, lk, code⟩ := F.ex
  refine { len := len, run := fun A outer s H args us vs Q E room gd e0 bd r ask => ?_ }
  have isIn : K.In s.heap := e0.mod.kin.keeps fun b o e => (e0.bs b o e).1
  have lim := e0.mod.nolimit.keeps fun b o e => (e0.bs b o e).1
  refine codeAny_call_function room.depth (isIn _ _ lk) rfl S.co S.gen rfl (PySem.W.codeRec_of isIn code) (bd _ _ _ _ ?_)
  refine wpAny_newFunctionEnv_cells S.kind (fun y hy => ?_) fun env he s1 made => ?_
  · have hm : y.1 ∈ ps := by
      obtain ⟨n, v⟩ := y
      exact (List.of_mem_zip hy).1
    exact (S.par y.1 hm).elim .inl fun c => .inr ⟨c, PySem.W.cellsFrom_some _ _ _ (.inl c)⟩
  · subst he
    refine ⟨lim.keeps made.toInCall.keep, codeAny_func ?_⟩
    obtain ⟨t, read, q⟩ := body cdv A outer s H vs Q E gd (room.deeper _) ask
    have I := inv_start (CX := CX0) (E := E) S room.hd e0 (len _ _ _ _ ask) r made
    refine wpAny_mono (read.nox.run [] s1 (start N vs) H _ I q) (fun fl s2 out => ?_) fun _ _ out => out
    cases fl with
    | brk | cont =>
      obtain ⟨_, _, _, z⟩ := out
      exact z.elim
    | next =>
      obtain ⟨σ2, H2, J, z⟩ := out
      exact ⟨.non, H2, J.os, J.bare, J.base, J.hok, rfl, z⟩
    | ret u =>
      obtain ⟨v, σ2, H2, J, rv, z⟩ := out
      exact ⟨v, H2, J.os, J.bare, J.base, J.hok, rv, z⟩
end
/-! ### data with empty dicts in it -/
mutual
inductive Du (H : Hp) : V → PyData → Prop
  | non : Du H .non .none
  | bl (b : Bool) : Du H (.bl b) (.bool b)
  | int (i : Int) : Du H (.int i) (.int i)
  | str (x : Str) : Du H (.str x) (.str x)
  | dic {a : Addr} : H a = some (.dK []) → Du H (.ref a) (.dict [])
  | lst {a : Addr} {xs : List V} {ds : List PyData} : H a = some (.lst xs) → DuAll H xs ds → Du H (.ref a) (.list ds)
  | tup {a : Addr} {xs : List V} {ds : List PyData} : H a = some (.tup xs) → DuAll H xs ds → Du H (.ref a) (.tuple ds)
inductive DuAll (H : Hp) : List V → List PyData → Prop
  | nil : DuAll H [] []
  | cons {v : V} {vs : List V} {d : PyData} {ds : List PyData} : Du H v d → DuAll H vs ds → DuAll H (v :: vs) (d :: ds)
end
section
variable {K : PySem.W.Frag} {H H' : Hp}
mutual
theorem Du.up (s : Same H H') : ∀ {v : V} {d : PyData}, Du H v d → Du H' v d
  | _, _, .non => .non
  | _, _, .bl b => .bl b
  | _, _, .int i => .int i
  | _, _, .str x => .str x
  | _, _, .dic h => .dic (s _ _ h)
  | _, _, .lst h a => .lst (s _ _ h) (DuAll.up s a)
  | _, _, .tup h a => .tup (s _ _ h) (DuAll.up s a)
theorem DuAll.up (s : Same H H') : ∀ {vs : List V} {ds : List PyData}, DuAll H vs ds → DuAll H' vs ds
  | _, _, .nil => .nil
  | _, _, .cons h t => .cons (Du.up s h) (DuAll.up s t)
end
mutual
theorem Du.dp : ∀ {v : V} {d : PyData}, Du H v d → d.hasDict = false → Dp K H v d
  | _, _, .non, _ => .non
  | _, _, .bl b, _ => .bl b
  | _, _, .int i, _ => .int i
  | _, _, .str x, _ => .str x
  | _, _, .dic h, e => by cases e
  | _, _, .lst h a, e => .lst (.inl (.inl h)) (DuAll.dp a (by simpa [PyData.hasDict] using e))
  | _, _, .tup h a, e => .tup (.inl (.inl h)) (DuAll.dp a (by simpa [PyData.hasDict] using e))
theorem DuAll.dp : ∀ {vs : List V} {ds : List PyData}, DuAll H vs ds → PyData.hasDictAll ds = false → DpAll K H vs ds
  | _, _, .nil, _ => .nil
  | _, _, .cons h t, e => by
    have e' := Bool.or_eq_false_iff.mp (show (PyData.hasDict _ || PyData.hasDictAll _) = false from e)
    exact .cons (Du.dp h e'.1) (DuAll.dp t e'.2)
end
theorem DuAll.len : ∀ {vs : List V} {ds : List PyData}, DuAll H vs ds → vs.length = ds.length
  | _, _, .nil => rfl
  | _, _, .cons _ t => congrArg (· + 1) (DuAll.len t)
theorem DuAll.append : ∀ {vs ws : List V} {ds es : List PyData}, DuAll H vs ds → DuAll H ws es → DuAll H (vs ++ ws) (ds ++ es)
  | _, _, _, _, .nil, h => h
  | _, _, _, _, .cons a t, h => .cons a (DuAll.append t h)
theorem DuAll.get : ∀ {vs : List V} {ds : List PyData}, DuAll H vs ds → ∀ {i : Nat} {d : PyData}, ds[i]? = some d → ∃ v, vs[i]? = some v ∧ Du H v d
  | _, _, .nil, _, _, h => by simp at h
  | _, _, .cons a _, 0, d, h => by
    cases Option.some.inj h
    exact ⟨_, rfl, a⟩
  | _, _, .cons _ t, i + 1, d, h => DuAll.get t (i := i) h
end
end L2
set_option Elab.async false
set_option linter.all false
set_option maxRecDepth 100000
set_option maxHeartbeats 4000000
namespace L2
open PySem PySem.Spec PyProof.Rows TL
/-! ### calls by name -/
def pick {α : Type} (ix : List Nat) (l : List α) : List α := ix.filterMap (l[·]?)
theorem vals_at : ∀ {zs : List V} {ws : List Value}, Vals zs ws → ∀ i : Nat, (zs[i]? = none ∧ ws[i]? = none) ∨ ∃ v u, zs[i]? = some v ∧ ws[i]? = some u ∧ RelV v u
  | _, _, .nil, i => .inl ⟨by simp, by simp⟩
  | _, _, .cons r _, 0 => .inr ⟨_, _, rfl, rfl, r⟩
  | _, _, .cons _ t, i + 1 => by simpa using vals_at t i
theorem vals_pick {zs : List V} {ws : List Value} (r : Vals zs ws) : ∀ ix : List Nat, Vals (pick ix zs) (pick ix ws)
  | [] => .nil
  | i :: ix => by
    have ih := vals_pick r ix
    unfold pick at ih ⊢
    rcases vals_at r i with ⟨e1, e2⟩ | ⟨v, u, e1, e2, rv⟩
    · rw [List.filterMap_cons_none e1, List.filterMap_cons_none e2]
      exact ih
    · rw [List.filterMap_cons_some e1, List.filterMap_cons_some e2]
      exact .cons rv ih
theorem Fun.kbn {K : PySem.W.Frag} {x qual : Str} {st : Stmt} {f : Addr} {fd : FuncData} {ps ks : List Str} {n : Nat} {ix : List Nat} (F : Fun K x qual st f fd)
    (h : ∀ (kV doc pm : Value) (an : Option Addr) (cdv ct : Value) (us ws : List Value), us.length = n → ws.length = ks.length →
      bindArgs (PySem.W.fnOf x qual (defArgs st) (defBody st) (defScope st) .none kV doc pm an cdv ct) ⟨us, ks.zip ws⟩ = pure (ps.zip (us ++ pick ix ws))) :
    KBn K fd ps n ks (fun us ws => us ++ pick ix ws) (fun vs zs => vs ++ pick ix zs) := by
  obtain ⟨oc, od, kV, doc, pm, an, cdv, ct, osl, rfl, lk, code⟩ := F.ex
  exact { to := fun s us ws _ l1 l2 => .of_eq (h kV doc pm an cdv ct us ws l1 l2), rel := fun r1 r2 => r1.append (vals_pick r2 ix) }
/-! ### written things -/
/-- te writes d, whatever stands already -/
def Lit (S : List Addr) (te : TE) (d : PyData) : Prop := ∀ (σ : St) (H : Hp) (Q : VK), Live S H → (∀ v H1, Same H H1 → Du (Hd S H1) v d → Q v H1) → te σ H Q
def LitA (S : List Addr) (ta : TA) (ds : List PyData) : Prop := ∀ (σ : St) (H : Hp) (Q : List V → Hp → Prop), Live S H → (∀ vs H1, Same H H1 → DuAll (Hd S H1) vs ds → Q vs H1) → ta σ H Q
theorem Live.same {S : List Addr} {H H1 : Hp} (l : Live S H) (s : Same H H1) : Live S H1 := l.up fun a o e => ⟨o, s a o e⟩
theorem Same.hid {H H1 : Hp} (s : Same H H1) (S : List Addr) : Same (Hd S H) (Hd S H1) := (Gr.of s).hd
section
variable {S : List Addr} {te : TE} {ta : TA} {d : PyData} {ds : List PyData}
theorem lit_str {x : Str} : Lit S (tC (.str x)) (.str x) := fun _ H _ _ k => k _ H (Same.refl H) (.str x)
theorem lit_int {x : Int} : Lit S (tC (.int x)) (.int x) := fun _ H _ _ k => k _ H (Same.refl H) (.int x)
theorem lit_bl {x : Bool} : Lit S (tC (.bl x)) (.bool x) := fun _ H _ _ k => k _ H (Same.refl H) (.bl x)
theorem lit_non : Lit S (tC .non) .none := fun _ H _ _ k => k _ H (Same.refl H) .non
theorem lit_neg {x : Int} : Lit S (tUn rNeg (tC (.int x))) (.int (-x)) := fun _ H _ _ k => ⟨x, rfl, k _ H (Same.refl H) (.int (-x))⟩
theorem lit_nil : LitA S tNil [] := fun _ H _ _ k => k _ H (Same.refl H) .nil
theorem lit_cons (h : Lit S te d) (r : LitA S ta ds) : LitA S (tCons te ta) (d :: ds) := fun σ H Q l k =>
  h σ H _ l fun v H1 s1 d1 => r σ H1 _ (l.same s1) fun vs H2 s2 d2 => k (v :: vs) H2 (s1.trans s2) (.cons (d1.up (s2.hid S)) d2)
theorem lit_tup (r : LitA S ta ds) (hl : ds.length ≤ 100000) : Lit S (tTup ta) (.tuple ds) := fun σ H Q l k =>
  r σ H _ l fun vs H1 s1 d1 => ⟨Evl.sz_of (by rw [d1.len]; exact hl), fun p hp => by
    have np : p ∉ S := (l.same s1).nin hp
    exact k _ _ (s1.trans (same_new hp)) (.tup (by rw [hd_out np, upd_same]) (d1.up ((same_new hp).hid S)))⟩
theorem lit_lst (r : LitA S ta ds) (hl : ds.length ≤ 100000) : Lit S (tLst ta) (.list ds) := fun σ H Q l k =>
  r σ H _ l fun vs H1 s1 d1 => ⟨Evl.sz_of (by rw [d1.len]; exact hl), fun p hp => by
    have np : p ∉ S := (l.same s1).nin hp
    exact k _ _ (s1.trans (same_new hp)) (.lst (by rw [hd_out np, upd_same]) (d1.up ((same_new hp).hid S)))⟩
theorem lit_dic : Lit S tDNewK (.dict []) := fun σ H Q l k => fun p hp => by
  have np : p ∉ S := l.nin hp
  exact k _ _ (same_new hp) (.dic (by rw [hd_out np, upd_same]))
end
end L2
set_option Elab.async false
set_option linter.all false
set_option maxRecDepth 100000
set_option maxHeartbeats 4000000
namespace L2
open PySem PySem.Spec PyProof.Rows TL
end L2
set_option Elab.async false
set_option linter.all false
set_option maxRecDepth 100000
set_option maxHeartbeats 4000000
namespace L2
open PySem PySem.Spec PyProof.Rows TL
section
variable {K : PySem.W.Frag} {H : Hp}
variable {σ : St} {te : TE} {vs : List Nat} {j : Nat} {Q : VK} {α : Type} {a : Addr} {xs : List V}
/-- [e for x in ..], over things that stand for ks -/
theorem lc_keysT (ks : List α) (d0 : α) (Rl : V → α → Prop) (F : α → V) (hx : SqT K H a xs) (hl : xs.length = ks.length) (rel : ∀ i, i < ks.length → Rl (xs.getD i .non) (ks.getD i d0)) (hn : ks.length ≤ 50000)
    (hw : ∀ x, wipe ((wipe σ vs).set j (some x)) vs = wipe σ vs) (hf : ∀ v c H1, c ∈ ks → Rl v c → Same H H1 → EvS te ((wipe σ vs).set j (some v)) H1 (F c))
    (hd : ∀ D H', H D = none → Same H H' → H' D = some (.lst (ks.map F)) → Q (.ref D) H') : lcOn (gName j) tYes te vs σ Q (Itt K a) H :=
  lc_map _ walk_T (fun i => F (ks.getD i d0)) (by omega) (fun _ s => Evl.ex_t s hx) hw (fun i H1 hi s => hf _ _ H1 (getD_mem (by omega)) (rel i (by omega)) s) fun D H' h1 h2 h3 => hd D H' h1 h2 (by rw [h3, hl, range_getD])
theorem lc_keysL (ks : List α) (d0 : α) (Rl : V → α → Prop) (F : α → V) (hx : SqL K H a xs) (hl : xs.length = ks.length) (rel : ∀ i, i < ks.length → Rl (xs.getD i .non) (ks.getD i d0)) (hn : ks.length ≤ 50000)
    (hw : ∀ x, wipe ((wipe σ vs).set j (some x)) vs = wipe σ vs) (hf : ∀ v c H1, c ∈ ks → Rl v c → Same H H1 → EvS te ((wipe σ vs).set j (some v)) H1 (F c))
    (hd : ∀ D H', H D = none → Same H H' → H' D = some (.lst (ks.map F)) → Q (.ref D) H') : lcOn (gName j) tYes te vs σ Q (Itl K a) H :=
  lc_map _ walk_L (fun i => F (ks.getD i d0)) (by omega) (fun _ s => s.seq hx) hw (fun i H1 hi s => hf _ _ H1 (getD_mem (by omega)) (rel i (by omega)) s) fun D H' h1 h2 h3 => hd D H' h1 h2 (by rw [h3, hl, range_getD])
theorem rel_strs (ts : List Str) : ∀ i, i < ts.length → (ts.map V.str).getD i .non = .str (ts.getD i "") := fun i h => by
  rw [List.getD_eq_getElem?_getD, List.getElem?_map, List.getElem?_eq_getElem h, List.getD_eq_getElem?_getD, List.getElem?_eq_getElem h]
  rfl
end
end L2
set_option Elab.async false
set_option linter.all false
set_option maxRecDepth 100000
set_option maxHeartbeats 4000000
namespace L2
open PySem PySem.Spec PyProof.Rows TL
/-! ### the head of a law whose defs want to know that no text is being made -/
section
variable {P : Program} {w : World} {K : PySem.W.Frag} {mg mb : Str → Option Value} {k : Nat} {fa a : Addr} {fd : FuncData} {x : Str} {sp : Sp} {s : Shared} {vs : List Value} {ns : List Int}
/-- what the caller of a law gets -/
abbrev Told (s : Shared) (r : Result) (s' : Shared) : Prop := r = .ok (.ret (.bool true)) ∧ OldK s.heap s'.heap ∧ s'.os = s.os ∧ AllBare s'.gens
/-- from a heap in which at most the script is ours -/
theorem law_from (isIn : K.In s.heap) (nsG : s.heap.Ns mainGlobals mg) (nsB : s.heap.Ns builtinsNs mb) (blt : ∀ y : Str, y ≠ "__name__" → mb y = bootBuiltins y) (lim : s.heap.NoLimit) (noG : s.gens = #[])
    (obj : s.heap.get? a = some { cls := .type "list", data := .seq vs.toArray }) (room : Room k callerA) (F : ∀ base : Heap, K.In base → base.Ns mainGlobals mg → FnG P w K mg base k fa fd [x] sp)
    (bind : ∀ (s : Shared) (u : Value), BindsTo s fd ⟨[u], []⟩ [(x, u)]) {H : Hp} (only : Only H) (ask : sp [.ref a] H (fun v _ => v = .bl true) fun _ _ _ => False) (hok : HOk P w H s.heap)
    (mine : ∀ b, H b ≠ none → b = a) (outK : H a ≠ none → K.lookup a = none) : codeAny (model P w) callerA (.call (.ref fa) ⟨[.ref a], []⟩) (Told s) s := by
  have keep : ∀ {b : Addr} {o : Obj}, s.heap.get? b = some o → H b = none → (hidT s.heap H).get? b = some o := fun e z => hidT_get e z
  have isNs : ∀ {b : Addr} {m : Str → Option Value}, s.heap.Ns b m → (hidT s.heap H).Ns b m := by
    intro b m h
    obtain ⟨o, es, ep, e, dt, r⟩ := h
    refine ⟨o, es, ep, keep e ?_, dt, r⟩
    cases q : H b with
    | none => rfl
    | some u =>
      exfalso
      have z := mine b (by simp [q])
      subst z
      cases obj.symm.trans e
      cases (show Data.seq vs.toArray _ = Data.dict es ep from dt)
  have inB : K.In (hidT s.heap H) := fun b o e => keep (isIn b o e) (by
    cases q : H b with
    | none => rfl
    | some u =>
      exfalso
      have z := mine b (by simp [q])
      subst z
      cases (outK (by simp [q])).symm.trans e)
  obtain ⟨mc, l1, l2⟩ := lim
  have md : Mod K mg (hidT s.heap H) := ⟨inB, isNs nsG, ⟨mb, isNs nsB, blt⟩, mc, isNs l1, l2⟩
  have e0 : Env0 P w K mg (hidT s.heap H) callerA [] s H := {
    frames := rfl
    mod := md
    bs := fun b o e => of_hidT e
    bsz := Nat.le_of_eq (hidT_size _ _)
    funs := trivial
    frf := fun b m => (nomatch (show b ∈ ([] : List Addr) from m))
    hok := hok
    bare := .of_eq noG }
  refine codeAny_mono ((F _ inB (isNs nsG)).run callerA [] s H ⟨[.ref a], []⟩ [.ref a] [.ref a] _ _ room rfl e0 (bind s (.ref a)) (.cons rfl .nil) ask) fun r s' out => ?_
  cases r with
  | error _ => exact out.elim
  | ok fl =>
    cases fl with
    | next | brk | cont => exact out.elim
    | ret u =>
      obtain ⟨v, H1, os, bare, un, hok1, rv, q⟩ := out
      have q' : v = .bl true := q
      subst q'
      cases (show u = Value.bool true from rv)
      refine ⟨rfl, OldK.of_keep fun b o e => ?_, os, bare⟩
      cases z : H b with
      | none => exact un.keep b o e z (fun m => (nomatch (show b ∈ ([] : List Addr) from m))) (fun m => nomatch m)
      | some u =>
        rcases only b with y | ⟨ob, xs, y⟩
        · cases z.symm.trans y
        · obtain ⟨g1, _⟩ := hok b _ y
          obtain ⟨g2, _⟩ := hok1 b _ (un.frzs b ob _ y)
          cases e.symm.trans g1
          exact g2
theorem law_told (isIn : K.In s.heap) (nsG : s.heap.Ns mainGlobals mg) (nsB : s.heap.Ns builtinsNs mb) (blt : ∀ y : Str, y ≠ "__name__" → mb y = bootBuiltins y) (lim : s.heap.NoLimit) (noG : s.gens = #[])
    (obj : s.heap.get? a = some { cls := .type "list", data := .seq vs.toArray }) (intz : IntsAre vs ns) (len : ns.length ≤ sizeLine) (room : Room k callerA) (F : ∀ base : Heap, K.In base → base.Ns mainGlobals mg → FnG P w K mg base k fa fd [x] sp)
    (bind : ∀ (s : Shared) (u : Value), BindsTo s fd ⟨[u], []⟩ [(x, u)]) (ask : ∀ H : Hp, Only H → SqL K H a (ns.map V.int) → sp [.ref a] H (fun v _ => v = .bl true) fun _ _ _ => False) :
    codeAny (model P w) callerA (.call (.ref fa) ⟨[.ref a], []⟩) (Told s) s := by
  have rel := vals_ints intz
  cases hk : K.lookup a with
  | some o =>
    cases obj.symm.trans (isIn a o hk)
    have no : Only (fun _ => none) := fun _ => .inl rfl
    refine law_from isIn nsG nsB blt lim noG obj room F bind no (ask _ no ?_) (fun b u z => (nomatch (show (none : Option HO) = some u from z))) (fun b z => absurd rfl z) (fun z => absurd rfl z)
    exact .inr ⟨_, vs.toArray, _, hk, rfl, rfl, rfl, by rw [List.size_toArray, intz.length]; exact len, by simpa using rel⟩
  | none =>
    have on : Only (fun b => if b = a then some (.frz { cls := .type "list", data := .seq vs.toArray } (.lst (ns.map V.int))) else none) := fun b => by
      by_cases z : b = a
      · exact .inr ⟨_, _, if_pos z⟩
      · exact .inl (if_neg z)
    refine law_from isIn nsG nsB blt lim noG obj room F bind on (ask _ on (.inl (.inr ⟨_, if_pos rfl⟩))) (fun b u z => ?_) (fun b z => ?_) (fun _ => hk)
    · by_cases y : b = a
      · cases (if_pos y).symm.trans z
        subst y
        exact ⟨obj, by rw [List.length_map]; exact len, vs, _, rel, obj⟩
      · cases (if_neg y).symm.trans z
    · by_cases y : b = a
      · exact y
      · exact absurd (if_neg y) z
end
end L2
set_option Elab.async false
set_option linter.all false
set_option maxRecDepth 100000
set_option maxHeartbeats 4000000
/-! == and != of rows whose us may be compared by the text's own == -/
set_option Elab.async false
set_option linter.all false
set_option maxRecDepth 100000
set_option maxHeartbeats 4000000
namespace L2
open PySem PySem.Spec PyProof.Rows
/-! ### == and != with either answer, by the text's own == -/
/-- how two values compare by ==, by the abstract heap -/
abbrev Eqb := V → V → Hp → Bool → Prop
abbrev GrB (X : Cx) (pins : List (Addr × Obj)) (σ : St) (H : Hp) (s' : Shared) : Prop := ∃ H', Inv X pins σ H' s' ∧ Ext H H'
def EqB (X : Cx) (n : Nat) (D : Eqb) : Prop :=
  ∀ (A : Around) (pins : List (Addr × Obj)) (s : Shared) (σ : St) (H : Hp) (x y : V) (u v : Value) (b : Bool), Sub X n A → Inv X pins σ H s → RelV x u → RelV y v → D x y H b →
    wpAny (model X.prog X.w) A (eqBool u v) (fun r s' => r = b ∧ GrB X pins σ H s') X.xe s
def RcB (X : Cx) (n : Nat) (op : CmpOp) (D : Eqb) : Prop :=
  ∀ (A : Around) (pins : List (Addr × Obj)) (s : Shared) (σ : St) (H : Hp) (x y : V) (u v : Value) (b : Bool), Sub X n A → Inv X pins σ H s → RelV x u → RelV y v → D x y H b →
    wpAny (model X.prog X.w) A (richCompare op u v) (fun r s' => r = .bool b ∧ GrB X pins σ H s') X.xe s
section
variable {X : Cx} {n m : Nat} {D D' : Eqb}
theorem EqB.mono (h : EqB X n D) (hn : n ≤ m) : EqB X m D := fun A pins s σ H x y u v b sb => h A pins s σ H x y u v b (sb.mono hn)
theorem RcB.mono {op : CmpOp} (h : RcB X n op D) (hn : n ≤ m) : RcB X m op D := fun A pins s σ H x y u v b sb => h A pins s σ H x y u v b (sb.mono hn)
/-! an own == -/
/-- the class has an own ==, and not an own != -/
structure OwnC (K : PySem.W.Frag) (C f : Addr) : Prop where
  eq : PySem.W.findIn K (.ref C) "__eq__" = some (some (.ref f))
  ne : PySem.W.findIn K (.ref C) "__ne__" = some (some (.builtin "object.__ne__"))
  fn : PySem.W.isFn K (.ref f) = true
  ob : PySem.W.mroIn K C (.type "object") = some true
end
/-! ### the operators -/
end L2
set_option Elab.async false
set_option linter.all false
set_option maxRecDepth 100000
set_option maxHeartbeats 4000000
namespace L2
open PySem PySem.Spec PyProof.Rows
/-! ### a list, or a tuple taken alike -/
def SqB (K : PySem.W.Frag) (t : Bool) (H : Hp) (a : Addr) (xs : List V) : Prop := match t with
  | true => SqT K H a xs
  | false => SqL K H a xs
def ItB (K : PySem.W.Frag) (t : Bool) (a : Addr) : It := match t with
  | true => Itt K a
  | false => Itl K a
def iSeq (K : PySem.W.Frag) (tl : TE) : TI := fun σ H R => tl σ H fun x H1 => ∃ a t, x = .ref a ∧ (∃ xs, SqB K t H1 a xs) ∧ R (ItB K t a) H1
theorem pi_seq {X : Cx} {tg l : Expr} {tl : TE} (hl : PE X l tl) : PI X tg l (iSeq X.K tl) := by
  refine ⟨fun pins s σ H R I h => thn (hl.run pins s σ H _ I h) fun v s1 got => ?_⟩
  obtain ⟨x, H1, I1, r1, a, t, ex, ⟨xs, hq⟩, q⟩ := got
  subst ex
  cases r1
  have fo : ∀ b, b ∈ [s1.heap.objs.size] → FpOk X pins H1 b := fun b hb => by
    rw [List.mem_singleton.mp hb]
    exact I1.fpOk (Nat.le_refl _) (I1.hok.fresh (Nat.le_refl _))
  cases t with
  | false =>
    obtain ⟨us, rv, p, _⟩ := I1.list hq
    exact wpAny_pyIter_list p.isList ⟨_, _, _, _, H1, rfl, I1.kept (t' := s1.toks) fun b o e => Heap.get?_push_of_some _ e, turn_list a _, ⟨_, Heap.get?_push_size _ rfl, rfl, rfl⟩, fo, q⟩
  | true =>
    obtain ⟨us, rv, p, _⟩ := I1.tuple hq
    exact wpAny_pyIter_tuple (show s1.heap.IsTuple a us.toArray from p) ⟨_, _, _, _, H1, rfl, I1.kept (t' := s1.toks) fun b o e => Heap.get?_push_of_some _ e, turn_tuple a _, ⟨_, Heap.get?_push_size _ rfl, rfl, rfl⟩, fo, q⟩
/-! enumerate of a tuple -/
def IteT (K : PySem.W.Frag) (a : Addr) : It :=
  ⟨fun i H => ∃ (xs : List V) (x : V), SqT K H a xs ∧ xs[i]? = some x, fun i H v H' => ∃ T x, v = .ref T ∧ H T = none ∧ H' = upd H T (.tup [.int (i : Nat), x]) ∧ ∀ xs, SqT K H a xs → xs[i]? = some x, fun i H => ∃ xs : List V, SqT K H a xs ∧ xs.length = i⟩
theorem turn_enumT {P : Program} {w : World} {K : PySem.W.Frag} {elts : List Expr} {kk : Nat} {tpos : Pos} (a e it : Addr) :
    Turn P w K (.Tuple elts kk tpos) (IteT K a) [e, it] e (fun i h => (∃ old, IsEnum h e it ((i : Nat) : Int) old) ∧ h.IsTupleIter it a i ∧ e ≠ it ∧ a ≠ e ∧ a ≠ it) where
  mem := by simp
  obj := fun i h st b hb => by
    obtain ⟨⟨old, he⟩, ⟨o, ho, hc, dt⟩, _⟩ := st
    rcases (show b = e ∨ b = it by simpa using hb) with z | z
    · rw [z]
      exact ⟨_, he, fun v q => nomatch q⟩
    · rw [z]
      exact ⟨o, ho, fun v q => by rw [dt] at q; cases q⟩
  keep := fun i h h' st k => by
    obtain ⟨⟨old, he⟩, si, n1, n2, n3⟩ := st
    exact ⟨⟨old, k e (by simp) _ he⟩, si.at fun o q => k it (by simp) o q, n1, n2, n3⟩
  item := by
    intro X hP hw hK hc i pins s σ H E I hf st hg
    subst hP hw hK
    obtain ⟨⟨old, he⟩, si, n1, n2, n3⟩ := st
    obtain ⟨xs, x, hq, hx⟩ := hg
    obtain ⟨us, rv, p, _⟩ := I.tuple hq
    obtain ⟨u, hu, ru⟩ := rv.get hx
    have le : e < s.heap.objs.size := Heap.lt_size he
    have li : it < s.heap.objs.size := by obtain ⟨_, q, _⟩ := si; exact Heap.lt_size q
    have lt : i < us.toArray.size := by
      have := (List.getElem?_eq_some_iff.mp hu).1
      simpa using this
    refine wpAny_pyNext_enum_itemC (c := (i : Nat)) (Draws.tuple (prog := X.prog) (w := X.w) (A := X.A.in1) (I.ok.hd hc) it a n3 us.toArray) he ⟨si, (show s.heap.IsTuple a us.toArray from p)⟩ lt n1 (by simp [n1, Ne.symm n2])
      fun y h' tk hP ho st' hT hsz hk => ?_
    have ey : y = u := by
      have e1 : us[i]? = some y := by simpa using hP
      rw [hu] at e1
      exact (Option.some.inj e1).symm
    subst ey
    refine ⟨_, rfl, wpAny_letOwnedTupleGo_enum (s := { s with heap := h', toks := tk + 1 }) ho fun h2 he' sb => ?_⟩
    have hT2 : h2.get? s.heap.objs.size = some { cls := .type "tuple", data := .seq #[.int i tk, y] } := (sb.2 _ (Nat.ne_of_gt le)).trans hT
    have new : ObjOk X.prog X.w (upd H s.heap.objs.size (.tup [.int (i : Nat), x])) h2 s.heap.objs.size (.tup [.int (i : Nat), x]) :=
      ⟨by show 2 ≤ sizeLine; decide, [.int i tk, y], .cons ⟨_, rfl⟩ (.cons ru .nil), ⟨_, hT2, rfl, _, rfl⟩⟩
    have I1 : Inv X pins σ (upd H s.heap.objs.size (.tup [.int (i : Nat), x])) { s with heap := h2, toks := tk + 1 } :=
      I.turnedNew (t' := tk + 1) (ch := [e, it]) (fun b ob hb q => (sb.2 b (fun z => hb (by simp [z]))).trans (hk b ob (fun z => hb (by simp [z])) (fun z => hb (by simp [z])) q)) hf (Nat.le_refl _) new
    refine ⟨.ref s.heap.objs.size, _, I1, rfl, ⟨_, x, rfl, I.hok.fresh (Nat.le_refl _), rfl, fun ys ey => by rw [I.tuple_inj ey hq]; exact hx⟩, ⟨⟨y, ?_⟩, st'.1.at fun o q => (sb.2 it (Ne.symm n1)).trans q, n1, n2, n3⟩, fun b hb => ?_⟩
    · rw [show ((i + 1 : Nat) : Int) = (i : Int) + 1 by omega]
      exact he'
    · have lb : b < s.heap.objs.size := by
        rcases (show b = e ∨ b = it by simpa using hb) with z | z
        · rw [z]; exact le
        · rw [z]; exact li
      rw [upd_ne (Nat.ne_of_lt lb)]
      exact (hf b hb).1
  done := by
    intro X hP hw hK hc i pins s σ H E I hf st hg
    subst hP hw hK
    obtain ⟨⟨old, he⟩, si, n1, n2, n3⟩ := st
    obtain ⟨xs, hq, hx⟩ := hg
    obtain ⟨us, rv, p, _⟩ := I.tuple hq
    obtain ⟨f0, f1, f2, f3, f4, f5⟩ := hf it (by simp)
    have ln : us.toArray.size = i := by
      rw [← hx, rv.length]
      simp
    subst ln
    exact wpAny_pyNext_enum_endD (Draws.tuple (prog := X.prog) (w := X.w) (A := X.A.in1) (I.ok.hd hc) it a n3 us.toArray) he ⟨si, (show s.heap.IsTuple a us.toArray from p)⟩ fun h' eb => ⟨rfl, I.turned (t' := s.toks) (fun b o hb q => eb b o hb q) f0 f1 f3 f4 f5⟩
  self := fun A i s Q E st h => by
    obtain ⟨⟨_, he⟩, _⟩ := st
    exact wpAny_pyIter_enum he h
theorem meets_enumB {v : Value} {o : Obj} {G : Heap → Prop} (B : Begins v o G) : Meets (Builtin.«enumerate.__new__» ⟨[.type "enumerate", v], []⟩) (fun _ R s => G s.heap ∧
      R (.ok (.ret (.ref (s.heap.push o).objs.size))) { s with heap := (s.heap.push o).push { cls := .type "enumerate", data := .fields #[.none, .bool false, .ref s.heap.objs.size, rawInt 0, .none, .none] } }) :=
  .of_wp fun prog w A R s hh => by
    obtain ⟨hp, gs, dr, tks, os⟩ := s
    obtain ⟨g, hR⟩ := hh
    have sub1 := sub_enumerate
    have it1 : ∀ {A' : Around} {E : Value → Shared → Prop} {Q : Value → Shared → Prop}, Q (.ref hp.objs.size) ⟨hp.push o, gs, dr, tks, os⟩ → wpAny (model prog w) A' (pyIter v) Q E ⟨hp, gs, dr, tks, os⟩ :=
      fun q => B.iter prog w _ _ ⟨hp, gs, dr, tks, os⟩ _ g q
    wp_walk using it1
    refine wpAny_stack_any fun st => wpAny_pure ?_
    split
    · rename_i c _ _ _ _ _
      cases (c == Value.type "enumerate")
      · wp_walk using it1
        exact ⟨_, rfl, hR⟩
      · wp_walk using it1
        exact ⟨_, rfl, hR⟩
    · wp_walk using it1
      exact ⟨_, rfl, hR⟩
theorem call_enumB {prog : Program} {w : World} {A : Around} {E : Value → Shared → Prop} {s : Shared} {v : Value} {o : Obj} {G : Heap → Prop} {Q : Value → Shared → Prop} (B : Begins v o G) (g : G s.heap)
    (k : ∀ h', IsEnum h' (s.heap.objs.size + 1) s.heap.objs.size 0 .none → h'.get? s.heap.objs.size = some o → (∀ b o', s.heap.get? b = some o' → h'.get? b = some o') → Q (.ref (s.heap.objs.size + 1)) { s with heap := h' }) :
    wpAny (model prog w) A (call (.type "enumerate") [v]) Q E s := by
  have z1 : (s.heap.push o).objs.size = s.heap.objs.size + 1 := Heap.size_push ..
  have e1 : IsEnum ((s.heap.push o).push { cls := .type "enumerate", data := .fields #[.none, .bool false, .ref s.heap.objs.size, rawInt 0, .none, .none] }) (s.heap.objs.size + 1) s.heap.objs.size 0 .none := by
    have e := Heap.get?_push_size (s.heap.push o) (o := { cls := .type "enumerate", data := .fields #[.none, .bool false, .ref s.heap.objs.size, rawInt 0, .none, .none] }) rfl
    rw [z1] at e
    exact e
  refine callType_new F.called_enumerate (by decide) (F.typeCall_enumerate_1 _) (F.newCall_enumerate_1 _) (fun ob => F.args_object_init_2 ob _) F.entry_enumerate_new (meets_enumB B) ⟨g, ?_⟩
  show _ ∧ _
  rw [z1]
  exact ⟨⟨_, e1, rfl⟩, k _ e1 (Heap.get?_push_of_some _ (Heap.get?_push_size _ B.free)) fun b o' q => Heap.get?_push_of_some _ (Heap.get?_push_of_some _ q)⟩
/-- at each turn the number and the item in a new pair -/
def IeB (K : PySem.W.Frag) (t : Bool) (a : Addr) : It := match t with
  | true => IteT K a
  | false => Ite K a
def iEnumB (K : PySem.W.Frag) (ta : TA) : TI := fun σ H R => ta σ H fun vs H1 => ∃ a t xs, vs = [.ref a] ∧ SqB K t H1 a xs ∧ R (IeB K t a) H1
theorem pi_enumB {X : Cx} {e : Expr} {ta : TA} {p pos tpos : Pos} {elts : List Expr} {kk : Nat} (hg : Gl X "enumerate") (hm : X.mg "enumerate" = none) (ha : PA X [e] ta) (hs : starEach [e] X.env = [(false, eval e X.env)] := by rfl) :
    PI X (.Tuple elts kk tpos) (.Call (.Name "enumerate" p) [e] [] pos) (iEnumB X.K ta) := by
  refine ⟨fun pins s σ H R I h => Call_ (ld_blt I hg hm boot_enumerate (PyProof.Rows.callWith_type1 (thn (ha.run pos pins s σ H _ I h) fun us s1 got => ?_) hs rfl))⟩
  obtain ⟨vs, H1, I1, r1, a, t, xs, ex, hq, q⟩ := got
  subst ex
  cases r1 with
  | cons r rr =>
    cases rr
    cases r
    have fo : ∀ b ∈ [s1.heap.objs.size + 1, s1.heap.objs.size], FpOk X pins H1 b := fun b hb => by
      have le : s1.heap.objs.size ≤ b := by
        rcases (show b = s1.heap.objs.size + 1 ∨ b = s1.heap.objs.size by simpa using hb) with z | z
        · rw [z]; exact Nat.le_add_right _ _
        · rw [z]; exact Nat.le_refl _
      exact I1.fpOk le (I1.hok.fresh le)
    cases t with
    | false =>
      obtain ⟨us, rv, p', _⟩ := I1.list hq
      exact call_enumerate_list p'.isList fun h' he hit hsz hk => wpAny_pyIter_enum he ⟨_, _, _, _, H1, rfl, I1.kept (t' := s1.toks) hk, turn_enum a (s1.heap.objs.size + 1) s1.heap.objs.size, ⟨⟨.none, he⟩, hit, Nat.succ_ne_self _⟩, fo, q⟩
    | true =>
      obtain ⟨us, rv, p', _⟩ := I1.tuple hq
      have p2 : s1.heap.IsTuple a us.toArray := p'
      have la : a < s1.heap.objs.size := by obtain ⟨o, ho, _⟩ := p2; exact Heap.lt_size ho
      exact call_enumB (begins_tuple a us.toArray) p2 fun h' he ho hk => wpAny_pyIter_enum he ⟨_, _, _, _, H1, rfl, I1.kept (t' := s1.toks) hk, turn_enumT a (s1.heap.objs.size + 1) s1.heap.objs.size, ⟨⟨.none, he⟩, ⟨_, ho, rfl, rfl⟩, Nat.succ_ne_self _, Nat.ne_of_lt (Nat.lt_succ_of_lt la), Nat.ne_of_lt la⟩, fo, q⟩
section
variable {K : PySem.W.Frag} {a : Addr} {xs : List V} {t : Bool}
theorem SqB.up {H H' : Hp} (h : SqB K t H a xs) (s : Same H H') : SqB K t H' a xs := by
  cases t with
  | false => exact s.seq h
  | true => exact Evl.ex_t s h
theorem walk_B : Walk (ItB K t a) xs.length (fun H => SqB K t H a xs) (fun i H x H' => H' = H ∧ x = xs.getD i .non) := by
  cases t with
  | false => exact walk_list.mono (fun _ h => h) (fun i H x H' _ _ y => ⟨y.1, by rw [List.getD_eq_getElem?_getD, y.2]; rfl⟩)
  | true => exact walk_tup.mono (fun _ h => h) (fun i H x H' _ _ y => ⟨y.1, by rw [List.getD_eq_getElem?_getD, y.2]; rfl⟩)
theorem walk_eB : Walk (IeB K t a) xs.length (fun H => SqB K t H a xs) (fun i H v H' => ∃ T : Addr, v = .ref T ∧ H T = none ∧ H' = upd H T (.tup [.int (i : Nat), xs.getD i .non])) := by
  cases t with
  | false =>
    refine ⟨fun i H hi h => ⟨xs, _, h, List.getElem?_eq_getElem hi⟩, fun H h => ⟨xs, h, Nat.le_refl _⟩, fun i H v H' hi h y => ?_⟩
    obtain ⟨T, x, rfl, n, rfl, e⟩ := y
    refine ⟨T, rfl, n, ?_⟩
    rw [List.getD_eq_getElem?_getD, e _ h]
    rfl
  | true =>
    refine ⟨fun i H hi h => ⟨xs, _, h, List.getElem?_eq_getElem hi⟩, fun H h => ⟨xs, h, rfl⟩, fun i H v H' hi h y => ?_⟩
    obtain ⟨T, x, rfl, n, rfl, e⟩ := y
    refine ⟨T, rfl, n, ?_⟩
    rw [List.getD_eq_getElem?_getD, e _ h]
    rfl
end
end L2
set_option Elab.async false
set_option linter.all false
set_option maxRecDepth 100000
set_option maxHeartbeats 4000000
/-! what conditions are like -/
namespace L2
open PySem PySem.Spec PyProof.Rows TL Mi
/-- a tuple is not nested too deep, and its texts are texts -/
def shT (d : PyData) : Prop := ∀ ds, d = .tuple ds → SeqAt.shaped (.tuple ds) = true
/-- texts and rows within a thing are not too long, two levels deep -/
def szw (d : PyData) : Prop := ∀ ds, d = .tuple ds → ∀ e ∈ ds, szd e
def szc2 (d : PyData) : Prop := szw d ∧ ∀ a b, d = .tuple [a, b] → szw b
def sz0 : C0 → Prop
  | .ends ts => ts.length ≤ 50000 ∧ ∀ t ∈ ts, t.length ≤ 50000
  | .shape s => s.length ≤ 50000
  | _ => True
def szc : Cond → Prop
  | .pos c => sz0 c
  | .neg c => sz0 c
/-- texts in a condition are texts -/
def ow0 : C0 → Prop
  | .ends ts => ∀ t ∈ ts, okS t
  | _ => True
def owc : Cond → Prop
  | .pos c => ow0 c
  | .neg c => ow0 c
def sm0 (z : Str) : C0 → Prop
  | .runs m => 0 ≤ m ∧ m ≤ 2
  | .ends ts => ts.length ≤ 2 ∧ ∀ t ∈ ts, t.length ≤ 2 ∧ ∀ c ∈ tl t, c ∈ tl z
  | .least k => 0 ≤ k ∧ k ≤ 3
  | .shape s => s.length ≤ 4 ∧ ∀ c ∈ tl s, c = 118 ∨ c = 111
  | _ => True
def smc (z : Str) : Cond → Prop
  | .pos c => sm0 z c
  | .neg c => sm0 z c
def menu : List Str := ["ab", "abc", "ba", "cab", "abcd", "a", "voz"]
theorem menu_len : ∀ s ∈ menu, 0 < s.length ∧ s.length ≤ 4 := by decide +kernel
theorem menu_okS : ∀ s ∈ menu, okS s := by
  intro s hs c hc
  have h : ∀ s ∈ menu, ∀ c ∈ tl s, c < 1114112 := by decide +kernel
  exact h s hs c hc
theorem isPl2 (k v : PyData) : isPl (.tuple [k, v]) = (if inT ["runs", "least"] k = true then isNum v else if PyData.eqv k (.str "ends") = true then isTexts v else PyData.eqv k (.str "shape") && isTextOf v "vo") := rfl
theorem isCd2 (k v : PyData) : isCd (.tuple [k, v]) = (if PyData.eqv k (.str "not") = true then isPl v else isPl (.tuple [k, v])) := rfl
theorem isPl_enc {c : C0} (h : ok0 c) : isPl (enc0 c) = true := by
  cases c with
  | vowel => decide +kernel
  | double => decide +kernel
  | runs m =>
    show isPl (.tuple [.str "runs", .int m]) = true
    rw [isPl2, if_pos (by decide +kernel)]
    exact decide_eq_true h
  | least m =>
    show isPl (.tuple [.str "least", .int m]) = true
    rw [isPl2, if_pos (by decide +kernel)]
    exact decide_eq_true h
  | ends ts =>
    show isPl (.tuple [.str "ends", .tuple (ts.map .str)]) = true
    rw [isPl2, if_neg (by decide +kernel), if_pos (by decide +kernel)]
    show (ts.map PyData.str).all isStrD = true
    rw [List.all_map]
    exact List.all_eq_true.mpr fun _ _ => rfl
  | shape s =>
    show isPl (.tuple [.str "shape", .str s]) = true
    rw [isPl2, if_neg (by decide +kernel), if_neg (by decide +kernel)]
    refine Bool.and_eq_true_iff.mpr ⟨by decide +kernel, ?_⟩
    refine List.all_eq_true.mpr fun c hc => decide_eq_true ?_
    have e : tl ("vo" : Str) = [118, 111] := by decide +kernel
    rw [e]
    rcases h c hc with rfl | rfl <;> simp
theorem isCd_enc {c : Cond} (h : okc c) : isCd (enc c) = true := by
  cases c with
  | neg c =>
    show isCd (.tuple [.str "not", enc0 c]) = true
    rw [isCd2, if_pos (by decide +kernel)]
    exact isPl_enc h
  | pos c =>
    have h0 := isPl_enc h
    cases c with
    | vowel => exact h0
    | double => exact h0
    | runs m =>
      show isCd (.tuple [.str "runs", .int m]) = true
      rw [isCd2, if_neg (by decide +kernel)]
      exact h0
    | least m =>
      show isCd (.tuple [.str "least", .int m]) = true
      rw [isCd2, if_neg (by decide +kernel)]
      exact h0
    | ends ts =>
      show isCd (.tuple [.str "ends", .tuple (ts.map .str)]) = true
      rw [isCd2, if_neg (by decide +kernel)]
      exact h0
    | shape s =>
      show isCd (.tuple [.str "shape", .str s]) = true
      rw [isCd2, if_neg (by decide +kernel)]
      exact h0
/-- what a condition is like -/
structure Fit (c : Cond) : Prop where
  ok : okc c
  sz : szc c
  ow : owc c
  sh : shT (enc c)
  s2 : szc2 (enc c)
  cd : isCd (enc c) = true
theorem lay0_enc {c : C0} (hw : ow0 c) (hs : ∀ s, c = .shape s → okS s) : (enc0 c).canLay0 = true ∧ (enc0 c).depth ≤ 3 := by
  cases c with
  | vowel => exact ⟨by decide +kernel, by decide +kernel⟩
  | double => exact ⟨by decide +kernel, by decide +kernel⟩
  | runs m => exact ⟨by show (PyData.canLay0 (.str "runs") && true) = true; decide +kernel, by show max 0 (max 0 0) + 1 ≤ 3; decide⟩
  | least m => exact ⟨by show (PyData.canLay0 (.str "least") && true) = true; decide +kernel, by show max 0 (max 0 0) + 1 ≤ 3; decide⟩
  | ends ts =>
    refine ⟨?_, ?_⟩
    · show (PyData.canLay0 (.str "ends") && (PyData.canLayAll0 (ts.map .str) && true)) = true
      rw [lay_strs hw]
      decide +kernel
    · show max 0 (max (PyData.depthAll (ts.map .str) + 1) 0) + 1 ≤ 3
      rw [depth_strs]
      decide
  | shape s =>
    refine ⟨?_, by show max 0 (max 0 0) + 1 ≤ 3; decide⟩
    show (PyData.canLay0 (.str "shape") && (PyData.canLay0 (.str s) && true)) = true
    rw [(hs s rfl).lay]
    decide +kernel
theorem szE {c : C0} (hs : sz0 c) : szw (enc0 c) := by
  intro ds e x hx
  cases c with
  | vowel =>
    cases e
    rw [List.mem_singleton.mp hx]
    exact (by decide +kernel : ("vowel" : Str).length ≤ 50000)
  | double =>
    cases e
    rw [List.mem_singleton.mp hx]
    exact (by decide +kernel : ("double" : Str).length ≤ 50000)
  | runs m =>
    cases e
    rcases List.mem_cons.mp hx with rfl | hx
    · exact (by decide +kernel : ("runs" : Str).length ≤ 50000)
    · rw [List.mem_singleton.mp hx]
      trivial
  | least m =>
    cases e
    rcases List.mem_cons.mp hx with rfl | hx
    · exact (by decide +kernel : ("least" : Str).length ≤ 50000)
    · rw [List.mem_singleton.mp hx]
      trivial
  | ends ts =>
    cases e
    rcases List.mem_cons.mp hx with rfl | hx
    · exact (by decide +kernel : ("ends" : Str).length ≤ 50000)
    · rw [List.mem_singleton.mp hx]
      show (ts.map PyData.str).length ≤ 50000
      rw [List.length_map]
      exact hs.1
  | shape s =>
    cases e
    rcases List.mem_cons.mp hx with rfl | hx
    · exact (by decide +kernel : ("shape" : Str).length ≤ 50000)
    · rw [List.mem_singleton.mp hx]
      exact hs
theorem enl : ∀ c : C0, ∃ ds, enc0 c = .tuple ds ∧ ds.length ≤ 2 := by
  intro c
  cases c <;> exact ⟨_, rfl, by simp⟩
theorem fit_pos {c : C0} (o : ok0 c) (s : sz0 c) (ow : ow0 c) (sh : ∀ s, c = .shape s → okS s) : Fit (.pos c) := by
  have ly := lay0_enc ow sh
  refine { ok := o, sz := s, ow := ow, sh := fun ds e => ?_, s2 := ⟨szE s, fun a b e es eb x hx => ?_⟩, cd := isCd_enc (c := .pos c) o }
  · rw [← show enc0 c = .tuple ds from e]
    unfold SeqAt.shaped
    rw [ly.1, Bool.true_and, decide_eq_true_eq]
    omega
  · cases c with
    | ends ts =>
      cases e
      cases eb
      obtain ⟨t, ht, rfl⟩ := List.mem_map.mp hx
      exact s.2 t ht
    | runs m | least m | shape s => cases e; cases eb
    | vowel | double => cases e
theorem fit_neg {c : C0} (o : ok0 c) (s : sz0 c) (ow : ow0 c) (sh : ∀ s, c = .shape s → okS s) : Fit (.neg c) := by
  have ly := lay0_enc ow sh
  obtain ⟨es, ee, el⟩ := enl c
  refine { ok := o, sz := s, ow := ow, sh := fun ds e => ?_, s2 := ⟨fun ds e x hx => ?_, fun a b e es eb x hx => ?_⟩, cd := isCd_enc (c := .neg c) o }
  · cases e
    unfold SeqAt.shaped
    show (PyData.canLay0 (.str "not") && (PyData.canLay0 (enc0 c) && true) && decide (max 0 (max (PyData.depth (enc0 c)) 0) + 1 ≤ 64)) = true
    have h2 := ly.2
    rw [ly.1, decide_eq_true (show max 0 (max (PyData.depth (enc0 c)) 0) + 1 ≤ 64 by omega)]
    decide +kernel
  · cases e
    rcases List.mem_cons.mp hx with rfl | hx
    · exact (by decide +kernel : ("not" : Str).length ≤ 50000)
    · rw [List.mem_singleton.mp hx, ee]
      show es.length ≤ 50000
      omega
  · cases e
    exact szE s es eb x hx
theorem fit_of {z : Str} {c : Cond} (hz : okS z) (h : smc z c) : Fit c := by
  have h0 : ∀ {c : C0}, sm0 z c → ok0 c ∧ sz0 c ∧ ow0 c ∧ ∀ s, c = .shape s → okS s := by
    intro c h
    cases c with
    | vowel => exact ⟨trivial, trivial, trivial, fun _ e => nomatch e⟩
    | double => exact ⟨trivial, trivial, trivial, fun _ e => nomatch e⟩
    | runs m => exact ⟨h.1, trivial, trivial, fun _ e => nomatch e⟩
    | least m => exact ⟨h.1, trivial, trivial, fun _ e => nomatch e⟩
    | ends ts => exact ⟨trivial, ⟨by have := h.1; omega, fun t ht => by have := (h.2 t ht).1; omega⟩, fun t ht c hc => hz c ((h.2 t ht).2 c hc), fun _ e => nomatch e⟩
    | shape s => exact ⟨h.2, (by have := h.1; show s.length ≤ 50000; omega), trivial, fun s' e c hc => by cases e; rcases h.2 c hc with rfl | rfl <;> decide⟩
  cases c with
  | pos c =>
    obtain ⟨o, s, ow, sh⟩ := h0 h
    exact fit_pos o s ow sh
  | neg c =>
    obtain ⟨o, s, ow, sh⟩ := h0 h
    exact fit_neg o s ow sh
end L2
set_option Elab.async false
set_option linter.all false
set_option maxRecDepth 100000
set_option maxHeartbeats 4000000
/-! rules and steps as objects -/
namespace L2
open PySem PySem.Spec PyProof.Rows TL Mi
/-- an instance of the class at C with these attributes -/
structure RD where
  e : Str
  p : Str
  cs : List Cond
structure SD where
  rs : List RD
  mode : Str
def encs (cs : List Cond) : PyData := .tuple (cs.map enc)
def encR (r : RD) : PyData := .tuple [.str r.e, .str r.p, encs r.cs]
/-- the thing is a rule, and this one -/
def RuA (K : PySem.W.Frag) (C : Addr) (H : Hp) (v : V) (r : RD) : Prop := ∃ a dx fs t xs, v = .ref a ∧ H a = some (.ins C dx fs) ∧ fs.lookup ("_ending" : Str) = some (.str r.e) ∧ fs.lookup ("_put" : Str) = some (.str r.p) ∧
  fs.lookup ("_conditions" : Str) = some (.ref t) ∧ SqT K H t xs ∧ DpAll K H xs (r.cs.map enc)
inductive RuAll (K : PySem.W.Frag) (C : Addr) (H : Hp) : List V → List RD → Prop
  | nil : RuAll K C H [] []
  | cons {v : V} {r : RD} {vs : List V} {rs : List RD} : RuA K C H v r → RuAll K C H vs rs → RuAll K C H (v :: vs) (r :: rs)
def StA (K : PySem.W.Frag) (CS CR : Addr) (H : Hp) (v : V) (s : SD) : Prop := ∃ a dx fs t xs, v = .ref a ∧ H a = some (.ins CS dx fs) ∧ fs.lookup ("_rules" : Str) = some (.ref t) ∧ fs.lookup ("_mode" : Str) = some (.str s.mode) ∧ SqT K H t xs ∧ RuAll K CR H xs s.rs
section
variable {K : PySem.W.Frag} {C CS CR : Addr} {H H' : Hp} {v : V} {r : RD} {vs : List V} {rs : List RD} {s : SD}
theorem RuA.up (h : RuA K C H v r) (e : Same H H') : RuA K C H' v r := by
  obtain ⟨a, dx, fs, t, xs, rfl, h1, h2, h3, h4, h5, h6⟩ := h
  exact ⟨a, dx, fs, t, xs, rfl, e _ _ h1, h2, h3, h4, Evl.ex_t e h5, DpAll.up e h6⟩
theorem RuAll.up (h : RuAll K C H vs rs) (e : Same H H') : RuAll K C H' vs rs := by
  induction h with
  | nil => exact .nil
  | cons a _ ih => exact .cons (a.up e) ih
theorem RuAll.len (h : RuAll K C H vs rs) : vs.length = rs.length := by
  induction h with
  | nil => rfl
  | cons _ _ ih => exact congrArg (· + 1) ih
theorem RuAll.append {ws : List V} {ss : List RD} (h : RuAll K C H vs rs) (g : RuAll K C H ws ss) : RuAll K C H (vs ++ ws) (rs ++ ss) := by
  induction h with
  | nil => exact g
  | cons a _ ih => exact .cons a ih
theorem RuAll.get (h : RuAll K C H vs rs) {i : Nat} {x : V} (e : vs[i]? = some x) : ∃ r, rs[i]? = some r ∧ RuA K C H x r := by
  induction h generalizing i with
  | nil => simp at e
  | cons a _ ih =>
    cases i with
    | zero =>
      cases Option.some.inj e
      exact ⟨_, rfl, a⟩
    | succ i => exact ih e
theorem RuAll.reverse (h : RuAll K C H vs rs) : RuAll K C H vs.reverse rs.reverse := by
  induction h with
  | nil => exact .nil
  | cons a _ ih =>
    rw [List.reverse_cons, List.reverse_cons]
    exact ih.append (.cons a .nil)
theorem RuAll.take (h : RuAll K C H vs rs) (n : Nat) : RuAll K C H (vs.take n) (rs.take n) := by
  induction h generalizing n with
  | nil => rw [List.take_nil, List.take_nil]; exact .nil
  | cons a _ ih =>
    cases n with
    | zero => exact .nil
    | succ n => exact .cons a (ih n)
theorem RuA.ins (h : RuA K C H v r) : ∃ a dx fs, v = .ref a ∧ H a = some (.ins C dx fs) := by
  obtain ⟨a, dx, fs, t, xs, rfl, h1, _⟩ := h
  exact ⟨a, dx, fs, rfl, h1⟩
theorem StA.up (h : StA K CS CR H v s) (e : Same H H') : StA K CS CR H' v s := by
  obtain ⟨a, dx, fs, t, xs, rfl, h1, h2, h3, h4, h5⟩ := h
  exact ⟨a, dx, fs, t, xs, rfl, e _ _ h1, h2, h3, Evl.ex_t e h4, h5.up e⟩
/-! whether a thing is an instance of the class at C -/
def Ob (K : PySem.W.Frag) (C : Addr) (H : Hp) (x : V) (b : Bool) : Prop := ∃ t, TyX K H x t ∧ PySem.W.kitOne K t (.ref C) = some b
theorem kit_self {K : PySem.W.Frag} {C : Addr} : PySem.W.kitOne K (.ref C) (.ref C) = some true := by
  unfold PySem.W.kitOne
  rw [if_pos (by simp)]
theorem Ob.up {x : V} {b : Bool} (h : Ob K C H x b) (e : Same H H') (up : ∀ t, TyX K H x t → TyX K H' x t) : Ob K C H' x b := by
  obtain ⟨t, ty, k⟩ := h
  exact ⟨t, up t ty, k⟩
theorem TyX.up {x : V} {t : Value} (h : TyX K H x t) (e : Same H H') : TyX K H' x t := by
  cases h with
  | base b =>
    refine .base ?_
    cases b with
    | non => exact .non
    | bl x => exact .bl x
    | int i => exact .int i
    | str x => exact .str x
    | flt x => exact .flt x
    | lst h => exact .lst (e _ _ h)
    | frz h => exact .frz (e _ _ h)
    | tup h => exact .tup (e _ _ h)
    | dK h => exact .dK (e _ _ h)
    | dT h => exact .dT (e _ _ h)
    | ins h a b c d f => exact .ins (e _ _ h) a b c d f
  | byt b => exact .byt b
  | set h => exact .set (e _ _ h)
  | kList h c => exact .kList h c
  | kTuple h c => exact .kTuple h c
  | kDict h c => exact .kDict h c
  | fTuple h => exact .fTuple (e _ _ h)
  | fDict h => exact .fDict (e _ _ h)
theorem ins_ty {a dx : Addr} {fs : List (Str × V)} (c : C8.InsC K C) (h : H a = some (.ins C dx fs)) : TyX K H (.ref a) (.ref C) := .base (.ins h c.cl c.ha c.hn c.htk c.hm)
theorem ob_ins {a dx : Addr} {fs : List (Str × V)} (c : C8.InsC K C) (h : H a = some (.ins C dx fs)) : Ob K C H (.ref a) true := ⟨_, ins_ty c h, kit_self⟩
theorem SqB.ty {a : Addr} {xs : List V} {t : Bool} (h : SqB K t H a xs) : TyX K H (.ref a) (.type (if t then "tuple" else "list")) := by
  cases t with
  | false => exact SqL.ty h
  | true => exact SqT.ty h
end
/-! reading -/
section
variable {K : PySem.W.Frag} {σ : St} {H : Hp} {ta tb te : TE} {Q : VK} {t : TA} {f : Str} {D : Ends} {tv : TE} {x y : V}
def fldR (K : PySem.W.Frag) (f : Str) (x : V) (H : Hp) (Q : VK) : Prop := ∃ a C dx fs v, x = .ref a ∧ H a = some (.ins C dx fs) ∧ Cls K C ∧ NoAttr K C f ∧ fs.lookup f = some v ∧ Q v H
theorem k_fld (k : ta σ H fun x H1 => fldR K f x H1 Q) : tFld K ta f σ H Q := k
theorem k_fldR {a C dx : Addr} {fs : List (Str × V)} {v : V} (h : H a = some (.ins C dx fs)) (c : Cls K C) (n : NoAttr K C f) (l : fs.lookup f = some v) (k : Q v H) : fldR K f (.ref a) H Q := ⟨a, C, dx, fs, v, rfl, h, c, n, l, k⟩
def propR (C : Addr) (sp : Sp) (dvs : List V) (E : XK) (x : V) (H : Hp) (Q : VK) : Prop := ∃ a dx fs, x = .ref a ∧ H a = some (.ins C dx fs) ∧ sp (.ref a :: dvs) H Q E
theorem k_prop {C : Addr} {sp : Sp} {dvs : List V} {E : XK} (k : ta σ H fun x H1 => propR C sp dvs E x H1 Q) : tProp C sp dvs E ta σ H Q := k
theorem k_isiX {x : V} {c : V} {t u : Value} {b : Bool} (h : TyX K H x t) (cv : ClsV c u) (e : PySem.W.kitOne K t u = some b) (k : Q (.bl b) H) : rIsi K [x, c] H Q := ⟨x, c, t, u, b, rfl, cv, h, e, k⟩
theorem k_ob {x : V} {C : Addr} {b : Bool} (h : Ob K C H x b) (k : Q (.bl b) H) : rIsi K [x, .ref C] H Q := by
  obtain ⟨t, ty, e⟩ := h
  exact k_isiX ty (.own C) e k
theorem k_isiT2 {x : V} {tp : Addr} {ns : List String} {t : Value} {b : Bool} (h : TyX K H x t) (ht : H tp = some (.tup (ns.map V.ty))) (e : PySem.W.kitAny K t (ns.map Value.type) = some b) (k : Q (.bl b) H) : rIsiT K [x, .ref tp] H Q := by
  refine ⟨x, tp, _, t, ns.map Value.type, b, rfl, ht, ?_, h, e, k⟩
  clear ht e
  induction ns with
  | nil => exact .nil
  | cons n r ih => exact .cons (.ty n) ih
def onEB (K : PySem.W.Frag) (vs : List V) (H : Hp) (R : It → Hp → Prop) : Prop := ∃ a t xs, vs = [.ref a] ∧ SqB K t H a xs ∧ R (IeB K t a) H
theorem k_forEB {g : TG} {tb : TS} (k : t σ H fun v H1 => onEB K v H1 (forOn g tb D σ)) : tFor (iEnumB K t) g tb D σ H := k
theorem k_onEB {a : Addr} {xs : List V} {b : Bool} {R : It → Hp → Prop} (h : SqB K b H a xs) (k : R (IeB K b a) H) : onEB K [.ref a] H R := ⟨a, b, xs, rfl, h, k⟩
def onSB (K : PySem.W.Frag) (v : V) (H : Hp) (R : It → Hp → Prop) : Prop := ∃ a t, v = .ref a ∧ (∃ xs, SqB K t H a xs) ∧ R (ItB K t a) H
theorem k_forSB {g : TG} {tb : TS} (k : ta σ H fun v H1 => onSB K v H1 (forOn g tb D σ)) : tFor (iSeq K ta) g tb D σ H := k
theorem k_lcSB {g : TG} {tt : TT} {te : TE} {vs : List Nat} (k : ta σ H fun v H1 => onSB K v H1 (lcOn g tt te vs σ Q)) : tLc (iSeq K ta) g tt te vs σ H Q := k
theorem k_onSB {a : Addr} {xs : List V} {b : Bool} {R : It → Hp → Prop} (h : SqB K b H a xs) (k : R (ItB K b a) H) : onSB K (.ref a) H R := ⟨a, b, rfl, ⟨xs, h⟩, k⟩
end
section
variable {X : Cx} (K : PySem.W.Frag)
theorem isiTK (h : X.K = K := by rfl) : CallR X (.builtin "isinstance") (rIsiT K) := by subst h; exact call_isiT
theorem seqK {tg l : Expr} {tl : TE} (hl : PE X l tl) (h : X.K = K := by rfl) : PI X tg l (iSeq K tl) := by subst h; exact pi_seq hl
theorem enumK {e : Expr} {ta : TA} {p pos tpos : Pos} {elts : List Expr} {kk : Nat} (hg : Gl X "enumerate") (hm : X.mg "enumerate" = none) (ha : PA X [e] ta) (h : X.K = K := by rfl) (hs : starEach [e] X.env = [(false, eval e X.env)] := by rfl) :
    PI X (.Tuple elts kk tpos) (.Call (.Name "enumerate" p) [e] [] pos) (iEnumB K ta) := by subst h; exact pi_enumB hg hm ha hs
end
end L2
set_option Elab.async false
set_option linter.all false
set_option maxRecDepth 100000
set_option maxHeartbeats 4000000
namespace L2
open PySem PySem.Spec PyProof.Rows TL Mi
/-! more rules with the written part said outright -/
def rNotInT (K : PySem.W.Frag) : R2 := fun x y H Q => ∃ d ds, Dp K H x d ∧ Dp K H y (.tuple ds) ∧ SeqAt.shaped d = true ∧ SeqAt.shaped (.tuple ds) = true ∧ Q (.bl (!ds.any fun z => PyData.eqv z d)) H
theorem rv_notInTD {K : PySem.W.Frag} {H : Hp} {d : PyData} {ds : List PyData} {x y : V} (h1 : Dp K H x d) (h2 : Dp K H y (.tuple ds)) (s1 : SeqAt.shaped d = true) (s2 : SeqAt.shaped (.tuple ds) = true) : RV0 (rNotInT K) x y H (.bl (!ds.any fun z => PyData.eqv z d)) := fun _ q => ⟨d, ds, h1, h2, s1, s2, q⟩
section
variable {X : Cx} (K : PySem.W.Frag)
theorem notInTK {k : Nat} (hr : Room k X.A) (h : X.K = K := by rfl) : OpR X (compareOp .NotIn) (rNotInT K) := by
  subst h
  intro pins s σ H x y v u Q I rx ry h
  obtain ⟨d, ds, hd, he, sd, se, q⟩ := h
  obtain ⟨as, r1⟩ := Dp.reads I d x v hd rx
  obtain ⟨bs, r2⟩ := Dp.reads I (.tuple ds) y u he ry
  exact SeqAt.notIn_tuple_reads r2 r1 (SeqAt.canLay_of_shaped se) (SeqAt.canLay_of_shaped sd) (room_in_shaped sd (hu65 hr)) ⟨.bl _, H, I, rfl, q⟩
theorem notInSK (h : X.K = K := by rfl) : OpR X (compareOp .NotIn) (rIn K true) := by subst h; exact op_notIn_seq
end
section
variable {K : PySem.W.Frag} {σ : St} {H : Hp} {Q : VK}
theorem flat_strsO (ts : List Str) : (ts.map V.str).all flatV = true := by
  rw [List.all_map]
  exact List.all_eq_true.mpr fun _ _ => rfl
theorem k_inS {z : Str} {ts : List Str} {p : Addr} {n : Bool} (h : SqL K H p (ts.map V.str)) (k : Q (.bl (if n then !(ts.any fun t => t == z) else ts.any fun t => t == z)) H) : rIn K n (.str z) (.ref p) H Q := by
  refine ⟨p, _, rfl, .inl h, rfl, flat_strsO ts, ?_⟩
  have e : inV (.str z) (ts.map V.str) = ts.any fun t => t == z := by
    unfold inV
    rw [List.any_map]
    rfl
  rw [e]
  exact k
/-! what stands at an object that is being made -/
def fldP (K : PySem.W.Frag) (f : Str) (y x : V) (R : Hp → Prop) (H : Hp) : Prop := ∃ a C dx fs, x = .ref a ∧ H a = some (.ins C dx fs) ∧ Cls K C ∧ NoAttr K C f ∧ fs.length < 1000 ∧ R (upd H a (.ins C dx (putF f y fs)))
theorem k_sfld {ta tv : TE} {f : Str} {D : Ends} (k : tv σ H fun y H1 => ta σ H1 fun x H2 => fldP K f y x (D.nx σ) H2) : sFld K ta tv f D σ H := k
theorem k_fldP {f : Str} {y : V} {R : Hp → Prop} {a C dx : Addr} {fs : List (Str × V)} (h : H a = some (.ins C dx fs)) (c : Cls K C) (n : NoAttr K C f) (l : fs.length ≤ 100) (k : R (upd H a (.ins C dx (putF f y fs)))) : fldP K f y (.ref a) R H := ⟨a, C, dx, fs, rfl, h, c, n, by omega, k⟩
theorem k_tupB {a : Addr} {t : Bool} {xs : List V} (h : SqB K t H a xs) (k : ∀ l H', Same H H' → SqT K H' l xs → Q (.ref l) H') : rTupOf K [.ref a] H Q := by
  cases t with
  | false => exact ⟨a, xs, rfl, .inl ⟨h, fun l hl => k l _ (same_new hl) (Evl.st_of upd_same)⟩⟩
  | true => exact ⟨a, xs, rfl, .inr ⟨h, k a H (Same.refl H) h⟩⟩
/-- a new object, and its dict -/
theorem made_up {H H' : Hp} {x dx C : Addr} (h1 : H x = none) (h2 : H dx = none) (ne : dx ≠ x) (g : Gr [x] (upd (upd H dx (.own x)) x (.ins C dx [])) H') : Same H H' := fun a o e => by
  have n1 : a ≠ x := ne_of_none e h1
  have n2 : a ≠ dx := ne_of_none e h2
  refine g a o (by simpa using n1) ?_
  rw [upd_ne n1, upd_ne n2]
  exact e
theorem made_same {H : Hp} {x dx C : Addr} (h1 : H x = none) (h2 : H dx = none) (ne : dx ≠ x) : Same H (upd (upd H dx (.own x)) x (.ins C dx [])) := fun a o e => by
  rw [upd_ne (ne_of_none e h1), upd_ne (ne_of_none e h2)]
  exact e
/-! stores at instances leave data -/
def isIns : HO → Bool
  | .ins _ _ _ => true
  | _ => false
def SamD (H H' : Hp) : Prop := ∀ b o, H b = some o → isIns o = false → H' b = some o
theorem SamD.mut {H : Hp} {a : Addr} {o o' : HO} (h : H a = some o) (i : isIns o = true) : SamD H (upd H a o') := fun b u e z => by
  have ne : b ≠ a := fun q => by
    rw [q, h] at e
    cases Option.some.inj e
    rw [i] at z
    cases z
  rw [upd_ne ne]
  exact e
theorem SamD.of {H H' : Hp} (s : Same H H') : SamD H H' := fun b o e _ => s b o e
theorem SamD.trans {H H1 H2 : Hp} (a : SamD H H1) (b : SamD H1 H2) : SamD H H2 := fun x o e i => b x o (a x o e i) i
theorem SqT.upD {H H' : Hp} {a : Addr} {xs : List V} (h : SqT K H a xs) (s : SamD H H') : SqT K H' a xs :=
  h.elim (fun h => .inl (h.elim (fun h => .inl (s _ _ h rfl)) fun ⟨o, h⟩ => .inr ⟨o, s _ _ h rfl⟩)) fun h => .inr h
theorem SqL.upD {H H' : Hp} {a : Addr} {xs : List V} (h : SqL K H a xs) (s : SamD H H') : SqL K H' a xs :=
  h.elim (fun h => .inl (h.elim (fun h => .inl (s _ _ h rfl)) fun ⟨o, h⟩ => .inr ⟨o, s _ _ h rfl⟩)) fun h => .inr h
theorem SqB.upD {H H' : Hp} {a : Addr} {xs : List V} {t : Bool} (h : SqB K t H a xs) (s : SamD H H') : SqB K t H' a xs := by
  cases t with
  | false => exact SqL.upD h s
  | true => exact SqT.upD h s
mutual
theorem Dp.upD {H H' : Hp} (s : SamD H H') : ∀ {v : V} {d : PyData}, Dp K H v d → Dp K H' v d
  | _, _, .non => .non
  | _, _, .bl b => .bl b
  | _, _, .int i => .int i
  | _, _, .str x => .str x
  | _, _, .lst h a => .lst (SqL.upD h s) (DpAll.upD s a)
  | _, _, .tup h a => .tup (SqT.upD h s) (DpAll.upD s a)
theorem DpAll.upD {H H' : Hp} (s : SamD H H') : ∀ {vs : List V} {ds : List PyData}, DpAll K H vs ds → DpAll K H' vs ds
  | _, _, .nil => .nil
  | _, _, .cons h t => .cons (Dp.upD s h) (DpAll.upD s t)
end
theorem putF_ne {f g : Str} {v x : V} {r : List (Str × V)} (h : ¬ g = f) : putF f v ((g, x) :: r) = (g, x) :: putF f v r := if_neg h
theorem look_ne {f g : Str} {x : V} {r : List (Str × V)} (h : ¬ f = g) : ((g, x) :: r).lookup f = r.lookup f := by
  rw [List.lookup_cons]
  have : (f == g) = false := by simpa using h
  rw [this]
theorem look_eq {f : Str} {x : V} {r : List (Str × V)} : ((f, x) :: r).lookup f = some x := by
  rw [List.lookup_cons]
  simp
abbrev rF1 (e : Str) : List (Str × V) := [("_ending", .str e)]
abbrev rF2 (e p : Str) : List (Str × V) := [("_ending", .str e), ("_put", .str p)]
abbrev rF3 (e p : Str) (l : Addr) : List (Str × V) := [("_ending", .str e), ("_put", .str p), ("_conditions", .ref l)]
theorem put_rF1 (e : Str) : putF "_ending" (.str e) [] = rF1 e := rfl
theorem put_rF2 (e p : Str) : putF "_put" (.str p) (rF1 e) = rF2 e p := by
  show putF "_put" (.str p) [("_ending", .str e)] = _
  rw [putF_ne (by decide +kernel)]
  rfl
theorem put_rF3 (e p : Str) (l : Addr) : putF "_conditions" (.ref l) (rF2 e p) = rF3 e p l := by
  show putF "_conditions" (.ref l) [("_ending", .str e), ("_put", .str p)] = _
  rw [putF_ne (by decide +kernel), putF_ne (by decide +kernel)]
  rfl
theorem look_rF (e p : Str) (l : Addr) : (rF3 e p l).lookup ("_ending" : Str) = some (.str e) ∧ (rF3 e p l).lookup ("_put" : Str) = some (.str p) ∧ (rF3 e p l).lookup ("_conditions" : Str) = some (.ref l) := by
  refine ⟨look_eq, ?_, ?_⟩
  · show List.lookup _ (_ :: _) = _
    rw [look_ne (by decide +kernel)]
    exact look_eq
  · show List.lookup _ (_ :: _ :: _) = _
    rw [look_ne (by decide +kernel), look_ne (by decide +kernel)]
    exact look_eq
/-! calls of classes -/
def madeR (C : Addr) (sp : Sp) (dvs : List V) (E : XK) (vs : List V) (H : Hp) (Q : VK) : Prop := ∀ x dx, H x = none → H dx = none → dx ≠ x → sp (.ref x :: (vs ++ dvs)) (upd (upd H dx (.own x)) x (.ins C dx [])) (fun v H2 => v = .non ∧ Q (.ref x) H2) E
theorem k_make {C : Addr} {sp : Sp} {dvs : List V} {E : XK} {t : TA} (k : t σ H fun vs H1 => madeR C sp dvs E vs H1 Q) : tMake C sp dvs E t σ H Q := k
def madeK (C : Addr) (n m : Nat) (sp : Sp) (gV : List V → List V → List V) (E : XK) (vs zs : List V) (H : Hp) (Q : VK) : Prop := vs.length = n ∧ zs.length = m ∧ ∀ x dx, H x = none → H dx = none → dx ≠ x → sp (gV (.ref x :: vs) zs) (upd (upd H dx (.own x)) x (.ins C dx [])) (fun v H2 => v = .non ∧ Q (.ref x) H2) E
theorem k_makeK {C : Addr} {n m : Nat} {sp : Sp} {gV : List V → List V → List V} {E : XK} {t tk : TA} (k : t σ H fun vs H1 => tk σ H1 fun zs H2 => madeK C n m sp gV E vs zs H2 Q) : tMakeK C n m sp gV E t tk σ H Q := k
/-! an exception made of what is read -/
def mkR (C : Addr) (sp : Sp) (dvs : List V) (vs : List V) (H1 : Hp) (Q : XK) : Prop := vs.length ≤ 1000 ∧ ∀ a, H1 a = none → sp (.ref a :: (vs ++ dvs)) (upd H1 a (exo a C none))
  (fun v H2 => v = .non ∧ ∃ (d : Addr) (fs : List (Str × V)), H2 a = some (exo a C (some d)) ∧ H2 d = some (exd d fs) ∧ H1 d = none ∧ Q (.ref C) (some d) (upd (del H2 a) d (.xd fs))) fun _ _ _ => False
theorem k_mkO {C : Addr} {sp : Sp} {dvs : List V} {t : TA} {Q : XK} (k : t σ H fun vs H1 => mkR C sp dvs vs H1 Q) : tMkO C sp dvs t σ H Q := k
theorem k_mkR {C : Addr} {f : Str} {v : V} {Q : XK} (q : ∀ H' dd, Same H H' → H' dd = some (.xd [(f, v)]) → Q (.ref C) (some dd) H') : mkR C (spInit C f) [] [v] H Q := mkO_ok q
/-! two rules compared -/
theorem Ob.same {C : Addr} {H H' : Hp} {x : V} {b : Bool} (h : Ob K C H x b) (e : Same H H') : Ob K C H' x b := h.up e fun _ t => t.up e
end
section
variable {K : PySem.W.Frag} {H H' : Hp} {C D : Addr} {v : V} {r : RD} {vs : List V} {rs : List RD}
/-- a store at an object that is no rule leaves rules -/
theorem RuA.mut {a dx : Addr} {fs : List (Str × V)} {o : HO} (h : RuA K C H v r) (ha : H a = some (.ins D dx fs)) (no : fs.lookup ("_ending" : Str) = none) : RuA K C (upd H a o) v r := by
  obtain ⟨b, dy, gs, t, xs, rfl, h1, h2, h3, h4, h5, h6⟩ := h
  have ne : b ≠ a := fun q => by
    subst q
    cases ha.symm.trans h1
    rw [no] at h2
    cases h2
  exact ⟨b, dy, gs, t, xs, rfl, by rw [upd_ne ne]; exact h1, h2, h3, h4, SqT.upD h5 (SamD.mut ha rfl), DpAll.upD (SamD.mut ha rfl) h6⟩
theorem RuAll.mut {a dx : Addr} {fs : List (Str × V)} {o : HO} (h : RuAll K C H vs rs) (ha : H a = some (.ins D dx fs)) (no : fs.lookup ("_ending" : Str) = none) : RuAll K C (upd H a o) vs rs := by
  induction h with
  | nil => exact .nil
  | cons a _ ih => exact .cons (a.mut ha no) ih
/-! comparing rows of rules -/
def nul : RD := ⟨"", "", []⟩
/-! two steps compared -/
abbrev sF1 (l : Addr) : List (Str × V) := [("_rules", .ref l)]
abbrev sF2 (l : Addr) (m : Str) : List (Str × V) := [("_rules", .ref l), ("_mode", .str m)]
theorem put_sF1 (l : Addr) : putF "_rules" (.ref l) [] = sF1 l := rfl
theorem put_sF2 (l : Addr) (m : Str) : putF "_mode" (.str m) (sF1 l) = sF2 l m := by
  show putF "_mode" (.str m) [("_rules", .ref l)] = _
  rw [putF_ne (by decide +kernel)]
  rfl
theorem look_sF (l : Addr) (m : Str) : (sF2 l m).lookup ("_rules" : Str) = some (.ref l) ∧ (sF2 l m).lookup ("_mode" : Str) = some (.str m) := by
  refine ⟨look_eq, ?_⟩
  show List.lookup _ (_ :: _) = _
  rw [look_ne (by decide +kernel)]
  exact look_eq
theorem no_sF1 (l : Addr) : (sF1 l).lookup ("_ending" : Str) = none := by
  show List.lookup _ (_ :: _) = _
  rw [look_ne (by decide +kernel)]
  rfl
end
end L2
set_option Elab.async false
set_option linter.all false
set_option maxRecDepth 100000
set_option maxHeartbeats 4000000
namespace L2
open PySem PySem.Spec PyProof.Rows TL Mi
/-! data without lists does not lean on a list -/
mutual
def noLst : PyData → Bool
  | .list _ => false
  | .tuple ds => noLstA ds
  | _ => true
def noLstA : List PyData → Bool
  | [] => true
  | d :: ds => noLst d && noLstA ds
end
theorem noLstA_all : ∀ {ds : List PyData}, (∀ d ∈ ds, noLst d = true) → noLstA ds = true
  | [], _ => by simp [noLstA]
  | d :: ds, h => by
    simp only [noLstA, Bool.and_eq_true]
    exact ⟨h d (by simp), noLstA_all fun x hx => h x (by simp [hx])⟩
section
variable {K : PySem.W.Frag} {H : Hp} {S : List Addr} {D : Addr} {ys : List V}
theorem hd_cons {a : Addr} {o : HO} (hD : H D = some (.lst ys)) (h : Hd S H a = some o) (no : ∀ zs, o ≠ .lst zs) : Hd (D :: S) H a = some o := by
  by_cases m : a ∈ S
  · rw [hd_in m] at h
    cases h
  · rw [hd_out m] at h
    have ne : a ≠ D := fun e => by
      subst e
      rw [hD] at h
      exact no _ (Option.some.inj h).symm
    rw [hd_out (by simp [ne, m])]
    exact h
theorem SqT.avoid {a : Addr} {xs : List V} (hD : H D = some (.lst ys)) (h : SqT K (Hd S H) a xs) : SqT K (Hd (D :: S) H) a xs :=
  h.elim (fun h => .inl (h.elim (fun h => .inl (hd_cons hD h (fun _ z => nomatch z))) fun ⟨o, h⟩ => .inr ⟨o, hd_cons hD h (fun _ z => nomatch z)⟩)) fun h => .inr h
mutual
theorem Dp.avoid (hD : H D = some (.lst ys)) : ∀ {v : V} {d : PyData}, Dp K (Hd S H) v d → noLst d = true → Dp K (Hd (D :: S) H) v d
  | _, _, .non, _ => .non
  | _, _, .bl b, _ => .bl b
  | _, _, .int i, _ => .int i
  | _, _, .str x, _ => .str x
  | _, _, .lst h a, n => by simp [noLst] at n
  | _, _, .tup h a, n => .tup (SqT.avoid hD h) (DpAll.avoid hD a (by simpa [noLst] using n))
theorem DpAll.avoid (hD : H D = some (.lst ys)) : ∀ {vs : List V} {ds : List PyData}, DpAll K (Hd S H) vs ds → noLstA ds = true → DpAll K (Hd (D :: S) H) vs ds
  | _, _, .nil, _ => .nil
  | _, _, .cons h t, n => by
    simp only [noLstA, Bool.and_eq_true] at n
    exact .cons (Dp.avoid hD h n.1) (DpAll.avoid hD t n.2)
end
theorem hd_less : Same (Hd (D :: S) H) (Hd S H) := fun a o e => by
  by_cases m : a ∈ D :: S
  · rw [hd_in m] at e
    cases e
  · rw [hd_out m] at e
    rw [hd_out fun y => m (List.mem_cons_of_mem _ y)]
    exact e
theorem DqAll.less1 {vs : List V} {ds : List PyData} (h : DqAll K (D :: S) H vs ds) : DqAll K S H vs ds := DpAll.up hd_less h
theorem Dq.less1 {v : V} {d : PyData} (h : Dq K (D :: S) H v d) : Dq K S H v d := Dp.up hd_less h
theorem Dq.avoid {v : V} {d : PyData} (h : Dq K S H v d) (hD : H D = some (.lst ys)) (n : noLst d = true) : Dq K (D :: S) H v d := Dp.avoid hD h n
end
theorem noLst_strs : ∀ ts : List Str, noLstA (ts.map .str) = true := fun ts => noLstA_all fun d hd => by
  obtain ⟨t, _, rfl⟩ := List.mem_map.mp hd
  simp [noLst]
theorem noLst_enc0 : ∀ c : C0, noLst (enc0 c) = true := by
  intro c
  cases c with
  | ends ts => simp [enc0, noLst, noLstA, noLst_strs]
  | _ => simp [enc0, noLst, noLstA]
theorem noLst_enc : ∀ c : Cond, noLst (enc c) = true := by
  intro c
  cases c with
  | pos c => exact noLst_enc0 c
  | neg c => simp [enc, noLst, noLstA, noLst_enc0]
theorem noLst_encs (cs : List Cond) : noLst (encs cs) = true := by
  unfold encs
  simp only [noLst]
  exact noLstA_all fun d hd => by
    obtain ⟨c, _, rfl⟩ := List.mem_map.mp hd
    exact noLst_enc c
theorem noLst_encR (r : RD) : noLst (encR r) = true := by
  simp [encR, noLst, noLstA, noLst_encs]
/-! shapes of drawn rules -/
section
variable {K : PySem.W.Frag} {σ : St} {H : Hp} {te : TE} {Q : VK}
theorem k_appV {i j : Nat} {a : Addr} {xs : List V} {y : V} (v : σ[i]? = some (some (.ref a))) (vy : σ[j]? = some (some y)) (e : H a = some (.lst xs)) (l : xs.length ≤ 100000) (k : Q .non (upd H a (.lst (xs ++ [y])))) : tBM K "list" rAppend (tVar i) (tCons (tVar j) tNil) σ H Q :=
  ⟨.ref a, v, .inl ⟨rfl, xs, Evl.sq_of e⟩, y, vy, a, xs, y, rfl, rfl, e, Nat.lt_of_le_of_lt l (by decide), k⟩
end
section
variable {σ : St} {H : Hp} {D : Ends}
def parR (i j : Nat) (σ : St) (R : St → Hp → Prop) (vs : List V) (H : Hp) : Prop := ∃ v w, vs = [v, w] ∧ R ((σ.set i (some v)).set j (some w)) H
theorem k_par {i j : Nat} {t : TA} (k : t σ H (parR i j σ D.nx)) : tPar i j t D σ H := k
theorem k_parR {i j : Nat} {v w : V} {R : St → Hp → Prop} (k : R ((σ.set i (some v)).set j (some w)) H) : parR i j σ R [v, w] H := ⟨v, w, rfl, k⟩
end
/-! a step as data -/
def encS (s : SD) : PyData := .tuple [.list (s.rs.map encR), .str s.mode]
/-! rules beside a list that is being made -/
section
variable {K : PySem.W.Frag} {H H' : Hp} {S : List Addr} {D C CS CR : Addr} {ys : List V} {v : V} {r : RD} {vs : List V} {rs : List RD} {s : SD}
theorem hd_nil : Same H (Hd [] H) := fun a o e => by rw [hd_out (by simp)]; exact e
theorem noLst_conds (cs : List Cond) : noLstA (cs.map enc) = true := noLstA_all fun d hd => by
  obtain ⟨c, _, rfl⟩ := List.mem_map.mp hd
  exact noLst_enc c
theorem RuA.avoid (h : RuA K C (Hd S H) v r) (hD : H D = some (.lst ys)) : RuA K C (Hd (D :: S) H) v r := by
  obtain ⟨a, dx, fs, t, xs, rfl, h1, h2, h3, h4, h5, h6⟩ := h
  exact ⟨a, dx, fs, t, xs, rfl, hd_cons hD h1 (fun _ z => nomatch z), h2, h3, h4, SqT.avoid hD h5, DpAll.avoid hD h6 (noLst_conds _)⟩
theorem RuAll.avoid (h : RuAll K C (Hd S H) vs rs) (hD : H D = some (.lst ys)) : RuAll K C (Hd (D :: S) H) vs rs := by
  induction h with
  | nil => exact .nil
  | cons a _ ih => exact .cons (a.avoid hD) ih
theorem StA.avoid (h : StA K CS CR (Hd S H) v s) (hD : H D = some (.lst ys)) : StA K CS CR (Hd (D :: S) H) v s := by
  obtain ⟨a, dx, fs, t, xs, rfl, h1, h2, h3, h4, h5⟩ := h
  exact ⟨a, dx, fs, t, xs, rfl, hd_cons hD h1 (fun _ z => nomatch z), h2, h3, SqT.avoid hD h4, h5.avoid hD⟩
theorem RuA.d1 (h : RuA K C H v r) (hD : H D = some (.lst ys)) : RuA K C (Hd [D] H) v r := (h.up hd_nil).avoid hD
end
end L2
set_option Elab.async false
set_option linter.all false
set_option maxRecDepth 100000
set_option maxHeartbeats 4000000
namespace L2
open PySem PySem.Spec PyProof.Rows TL Mi
/-! written things that are told -/
section
variable {K : PySem.W.Frag} {H : Hp} {Q : VK} {a b : Addr} {xs ys vs : List V}
theorem k_newLG (hl : vs.length ≤ 100000) (k : ∀ p H', Same H H' → H p = none → H' p = some (.lst vs) → Q (.ref p) H') : newL vs H Q := ⟨Evl.sz_of hl, fun p hp => k p _ (same_new hp) hp upd_same⟩
theorem k_newTG (hl : vs.length ≤ 100000) (k : ∀ p H', Same H H' → H p = none → H' p = some (.tup vs) → Q (.ref p) H') : newT vs H Q := ⟨Evl.sz_of hl, fun p hp => k p _ (same_new hp) hp upd_same⟩
theorem k_catG (h1 : H a = some (.lst xs)) (h2 : H b = some (.lst ys)) (hl : xs.length + ys.length ≤ 100000) (k : ∀ p H', Same H H' → H p = none → H' p = some (.lst (xs ++ ys)) → Q (.ref p) H') : rAddA K (.ref a) (.ref b) H Q :=
  k_cat h1 h2 hl fun p hp => k p _ (same_new hp) hp upd_same
end
def okB (x : Str) : Bool := (tl x).all fun c => decide (c < 1114112)
theorem okB_ok {x : Str} (h : okB x = true) : okS x := fun c hc => of_decide_eq_true (List.all_eq_true.mp h c hc)
theorem DuAll.take {H : Hp} {vs : List V} {ds : List PyData} (h : DuAll H vs ds) (n : Nat) : DuAll H (vs.take n) (ds.take n) := by
  induction n generalizing vs ds with
  | zero => exact .nil
  | succ n ih =>
    cases h with
    | nil => exact .nil
    | cons h t => exact .cons h (ih t)
end L2
set_option Elab.async false
set_option linter.all false
set_option maxRecDepth 100000
set_option maxHeartbeats 4000000
namespace L2
open PySem PySem.Spec PyProof.Rows
end L2
set_option Elab.async false
set_option linter.all false
set_option maxRecDepth 100000
set_option maxHeartbeats 4000000
namespace L2
open PySem PySem.Spec PyProof.Rows
/-! str(a bool) -/
/-! rows of the very same objects -/
end L2
namespace L2
open PySem PySem.Spec PyProof.Rows
section
variable {K : PySem.W.Frag} {H : Hp} {Q : VK} {a : Addr} {xs : List V}
theorem k_eqD {x y : V} {d e : PyData} (hd : Dp K H x d) (he : Dp K H y e) (sd : SeqAt.shaped d = true) (se : SeqAt.shaped e = true) (k : Q (.bl (PyData.eqv d e)) H) : rEqA K x y H Q := rv_eqD hd he sd se Q k
end
end L2
set_option Elab.async false
set_option linter.all false
set_option maxRecDepth 100000
set_option maxHeartbeats 4000000
namespace GE
open PySem PySem.SeqAt
open AutoSeq1 (wpAny_loadPart')
open MeetsSeq MeetsSeq2 MeetsSeq3 SeqRoads2
theorem list_extend_tup (l : Addr) (items : Array Value) (n : Nat) (b : Addr) (items2 : Array Value) (n2 : Nat) (dd : Option Addr) (sl : Array (Option Value)) (hs0 : ¬(!items.isEmpty && Builtin.List.listTooLong (items.size + items2.size)) = true) (hs1 : items.size ≤ sizeLine) (hs2 : items.size + items2.size ≤ sizeLine + 1) :
    Meets (Builtin.«list.extend» ⟨[.ref l, .ref b], []⟩) (fun _ R s => s.heap.get? l = some { cls := .type "list", dict := none, data := .seq items n, slots := #[] } ∧ s.heap.get? b = some { cls := .type "tuple", dict := dd, data := .seq items2 n2, slots := sl } ∧ R (.ok (.ret Value.none)) { s with heap := s.heap.update l (Obj.mapSeq fun x => x ++ items2), toks := s.toks }) :=
  .of_wp fun prog w A R s h => by
    obtain ⟨hp, g, d, tk, os⟩ := s
    obtain ⟨hl, hb, h⟩ := h
    have f1 := AutoSeq1.idx_int
    have f2 := AutoSeq1.sub_tuple_tuple
    have f3 := AutoSeq1.sub_list_list
    have f4 := AutoSeq1.sub_tuple_list
    have f5 := AutoSeq1.sub_list_tuple
    have hz' : (items ++ items2).size ≤ sizeLine + 1 := by
      rw [Array.size_append]
      exact hs2
    wp_walk using (wpAny_updateSeq hl rfl (hz := hs1) (_hz' := hz')), wpAny_loadPart' hl, wpAny_loadPart' hb
    exact ⟨_, rfl, h⟩
end GE
namespace L2
open PySem PySem.Spec PyProof.Rows
/-! list.extend with a list or a tuple -/
def rExtA (K : PySem.W.Frag) : V → List V → Hp → VK → Prop := fun x vs H Q => ∃ l b xs zs, x = .ref l ∧ vs = [.ref b] ∧ H l = some (.lst xs) ∧ (H b = some (.lst zs) ∨ SqT K H b zs) ∧ xs.length + zs.length ≤ sizeLine ∧ Q .non (upd H l (.lst (xs ++ zs)))
section
variable {X : Cx}
theorem mt_extA : MtM X "list.extend" (rExtA X.K) := by
  intro pins s σ H x vs v us Q I rx rv h
  obtain ⟨l, b, xs, zs, rfl, rfl, hH, hB | hB, hz, q⟩ := h
  · exact mt_extend pins s σ H _ _ _ _ Q I rx rv ⟨l, b, xs, zs, rfl, rfl, hH, hB, hz, q⟩
  · cases rx
    obtain ⟨u, rfl, ru⟩ := rv.one
    cases ru
    obtain ⟨z, its, n, r, hl, e⟩ := I.lstM hH
    obtain ⟨its2, r2, ⟨⟨k2, d2, t2, sl2⟩, o2, c2, n2, q2⟩, z2⟩ := I.tuple hB
    simp only at c2 q2
    subst c2 q2
    have h2 := r2.length
    have hsz : its.toArray.size + its2.toArray.size ≤ sizeLine := by rw [List.size_toArray, List.size_toArray]; omega
    have hlong : ¬ (!its.toArray.isEmpty && Builtin.List.listTooLong (its.toArray.size + its2.toArray.size)) = true := by
      rw [notLongL hsz, Bool.and_false]
      exact Bool.false_ne_true
    refine call_meets PySem.F.slot_list_extend ⟨_, e, rfl⟩ PySem.F.entry_list_extend (PySem.F.args_list_extend_2 _ _)
      (GE.list_extend_tup l its.toArray n b its2.toArray n2 d2 sl2 hlong (by rw [List.size_toArray]; omega) (by omega)) ⟨e, o2, ?_⟩
    refine ⟨.non, _, I.lset (its' := its ++ its2) hH e (by simp) (r.append r2) ?_, rfl, q⟩
    rw [List.length_append]
    omega
theorem extK (K : PySem.W.Frag) {o e : Expr} {to te : TE} {apos cpos : Pos} (ho : PE X o to) (he : PE X e te) (h : X.K = K := by rfl) (hbase : attributeBase o "extend" X.env (eval o X.env) = eval o X.env := by rfl)
    (hfew : ((backTo cpos (starEach [e] X.env)).all (fun x => !x.1) && (backToKw cpos (keywordEach [] X.env)).all (fun x => x.1.isSome)
      && decide ([e].length + ([] : List Keyword).length + (if ([] : List Keyword).isEmpty then 0 else 1) < 30)) = true := by rfl)
    (hline : (apos.endLine == cpos.line) = true := by rfl) (hs : starEach [e] X.env = (false, eval e X.env) :: starEach [] X.env := by rfl) (hplain : (backTo cpos (starEach [] X.env)).any (·.1) = false := by rfl) :
    PE X (.Call (.Attribute o "extend" apos) [e] [] cpos) (tBM K "list" (rExtA K) to (tCons te tNil)) := by
  subst h
  exact pe_bm PySem.F.plainAttrs_list PySem.F.slot_list_extend PySem.F.type_list_extend mt_extA ho (pa_cons he pa_nil hs) hbase hfew hline hs hplain
end
section
variable {K : PySem.W.Frag} {H : Hp} {Q : VK}
theorem rExtG {a b : Addr} {xs zs : List V} (e : H a = some (.lst xs)) (hb : H b = some (.lst zs) ∨ SqT K H b zs) (l : xs.length + zs.length ≤ 100000) (k : ∀ H', Gr [a] H H' → H' a = some (.lst (xs ++ zs)) → Q .non H') : rExtA K (.ref a) [.ref b] H Q :=
  ⟨a, b, xs, zs, rfl, rfl, e, hb, Nat.le_trans l (by decide), k _ (Gr.mut (by simp)) upd_same⟩
end
end L2
set_option Elab.async false
set_option linter.all false
set_option maxRecDepth 100000
set_option maxHeartbeats 4000000
namespace L2
open PySem PySem.Spec PyProof.Rows
section
variable {K : PySem.W.Frag} {σ : St} {H : Hp} {Q : VK} {g : TG} {tt : TT} {te : TE} {vs : List Nat} {t : TA}
theorem k_lcEB (k : t σ H fun v H1 => onEB K v H1 (lcOn g tt te vs σ Q)) : tLc (iEnumB K t) g tt te vs σ H Q := k
variable {J : It} {n : Nat} {G : Hp → Prop} {Y : Nat → Hp → V → Hp → Prop}
/-- a comprehension with any target -/
theorem lc_goG (w : Walk J n G Y) (Iv : Addr → Nat → Hp → Prop) (h0 : ∀ D, H D = none → Iv D 0 (upd H D (.lst []))) (hG : ∀ D i H', i ≤ n → Iv D i H' → G H')
    (hs : ∀ D i x H1 H2, i < n → Iv D i H1 → Y i H1 x H2 → g x (wipe σ vs) H2 fun σ2 H2 => wipe σ2 vs = wipe σ vs ∧ tt σ2 H2 fun b H4 => if b = true then te σ2 H4 fun y H5 => addTo D H5 y (Iv D (i + 1)) else Iv D (i + 1) H4)
    (hd : ∀ D H', Iv D n H' → Q (.ref D) H') : lcOn g tt te vs σ Q J H := fun D hD =>
  lc_it w (Iv D) (h0 D hD) (hG D) (fun i x H1 H2 hi p y => hs D i x H1 H2 hi p y) (hd D)
end
end L2
set_option Elab.async false
set_option linter.all false
set_option maxRecDepth 100000
set_option maxHeartbeats 4000000
namespace SX
open PySem PySem.Spec PyProof.Rows
def sgn1 (c : Nat) : Str := ⟨#[c]⟩
/-- the unlike signs, the last ones first -/
def du : List Nat → List Nat → List Nat
  | sg, [] => sg
  | sg, c :: r => du (if sg.contains c then sg else c :: sg) r
def inS (sg : List Nat) (k : Str) : Bool := sg.any fun c => decide (k = sgn1 c)
theorem sgn1_inj {c d : Nat} (h : sgn1 c = sgn1 d) : c = d := by
  have q2 : [c] = [d] := congrArg (fun y : Str => y.cps.toList) h
  exact (List.cons.inj q2).1
theorem inS_sing {sg : List Nat} {c : Nat} : inS sg (sgn1 c) = sg.contains c := by
  unfold inS
  rw [Bool.eq_iff_iff, List.any_eq_true, List.contains_iff_exists_mem_beq]
  constructor
  · rintro ⟨d, hd, e⟩
    exact ⟨d, hd, by rw [sgn1_inj (of_decide_eq_true e)]; simp⟩
  · rintro ⟨d, hd, e⟩
    exact ⟨d, hd, by rw [eq_of_beq e]; simp⟩
theorem drop_at {x : Str} {i c : Nat} (hc : x.cps[i]? = some c) : x.cps.toList.drop i = c :: x.cps.toList.drop (i + 1) := by
  have hc' : x.cps.toList[i]? = some (c : Nat) := by
    rw [Array.getElem?_toList]
    exact hc
  obtain ⟨h1, h2⟩ := List.getElem?_eq_some_iff.mp hc'; rw [List.drop_eq_getElem_cons h1, h2]
section
variable {pg : Program} {w : World} {A : Around} {R : Result → Shared → Prop} {I : Addr} {fp wr : List Addr} {G : Array GenState → Array GenState → Prop} {n : Nat} {P : Nat → Value → Prop} {St : Nat → Shared → Prop}
theorem loopX (W : WalksS pg w A.in1 I fp wr G n P St) (S : Addr) (nf : S ∉ fp) (x : Str) (len0 : x.cps.size = n) (hb : n + 1 < scanBound)
    (val0 : ∀ i v, P i v → ∃ c t, x.cps[i]? = some c ∧ v = .str (sgn1 c) t) :
    ∀ (k i : Nat) (s : Shared) (sg : List Nat), n - i = k → i ≤ n → St i s → sg.length ≤ i →
      s.heap.SetOf (PySem.strKind pg w) S (inS sg) sg.length →
      (∀ s', Moved (S :: wr) G s s' → s'.heap.SetOf (PySem.strKind pg w) S (inS (du sg (x.cps.toList.drop i))) (du sg (x.cps.toList.drop i)).length → R (.ok (.ret .none)) s') →
      codeAny (model pg w) A (.builtin "set.update.loop" ⟨[.ref S, .ref I], []⟩) R s := by
  have nw : S ∉ wr := fun h => nf (W.sub _ h)
  have sub0 : ∀ b ∈ wr, b ∈ S :: wr := fun b hb => List.mem_cons_of_mem _ hb
  intro k
  induction k with
  | zero =>
    intro i s sg ek le0 st0 ha sS fin
    have hin : i = n := by omega
    subst hin
    refine codeAny_builtin PyProof.Rows.F.entry_set_update_loop ?_; rw [Around.under_plainId PyProof.Rows.F.plain_set_update_loop _]
    show wpAny _ A.in1 (pyNext (.ref I) >>= _) _ _ s; refine wpAny_bind (W.done s _ _ st0 fun s' mv => ?_)
    show wpAny _ A.in1 (ret Value.none) _ _ s'; have hd : x.cps.toList.drop i = [] := List.drop_of_length_le (by rw [Array.length_toList]; omega)
    rw [hd] at fin
    exact wpAny_pure (fin s' (mv.mono sub0) (by
      obtain ⟨o, es, ep, t, ho, rs0⟩ := sS
      exact ⟨o, es, ep, t, mv.heap S _ nw ho, rs0⟩))
  | succ k ih =>
    intro i s sg ek le0 st0 ha sS fin
    have lt1 : i < n := by omega
    refine codeAny_builtin PyProof.Rows.F.entry_set_update_loop ?_; rw [Around.under_plainId PyProof.Rows.F.plain_set_update_loop _]
    show wpAny _ A.in1 (pyNext (.ref I) >>= _) _ _ s; refine wpAny_bind (W.item i s _ _ lt1 st0 fun v s' pv st0' mv => ?_)
    obtain ⟨c, t, hc, rfl⟩ := val0 i v pv
    have hd := drop_at hc
    have sS' : s'.heap.SetOf (PySem.strKind pg w) S (inS sg) sg.length := by
      obtain ⟨o, es, ep, tb, ho, rs0⟩ := sS
      exact ⟨o, es, ep, tb, mv.heap S _ nw ho, rs0⟩
    show wpAny _ A.in1 (holding [Value.str (sgn1 c) t] (setAdd S (.str (sgn1 c) t)) >>= _) _ _ s'
    refine wpAny_bind (wpAny_holding ?_); unfold setAdd
    refine wpAny_holding ?_
    refine wpAny_bind ((PySem.strKind pg w).pyHash (k := sgn1 c) (strKind_is _ _ _ _) ?_)
    refine wpAny_setAddHashed_of (knd := PySem.strKind pg w) (s := { s' with toks := s'.toks + 1 }) (strKind_is _ _ _ _) rfl sS' (by omega) fun h' kp hS2 => ?_
    have hSi : h'.SetOf (PySem.strKind pg w) S (inS (if sg.contains c then sg else c :: sg)) (if sg.contains c then sg else c :: sg).length := by
      refine SetOf_congr hS2 (fun k' => ?_) ?_
      · show (inS sg k' || decide (k' = sgn1 c)) = _
        by_cases hm2 : sg.contains c = true
        · rw [if_pos hm2]
          by_cases e : k' = sgn1 c
          · subst e
            rw [inS_sing, hm2]
            rfl
          · simp [e]
        · rw [if_neg hm2]
          show _ = (decide (k' = sgn1 c) || inS sg k')
          rw [Bool.or_comm]
      · show (if inS sg (sgn1 c) = true then sg.length else sg.length + 1) = _
        rw [inS_sing]
        by_cases hm2 : sg.contains c = true
        · rw [if_pos hm2, if_pos hm2]
        · rw [if_neg hm2, if_neg hm2, List.length_cons]
    refine wpAny_pure ⟨plainId_quiet PyProof.Rows.F.plain_set_update_loop _, ih (i + 1) _ (if sg.contains c then sg else c :: sg) (by omega) lt1 (W.frame _ s' _ _ st0' (Nat.le_succ _) fun b hb o e => ?_) ?_ hSi fun s'' hm'' hS'' => ?_⟩
    · rw [kp.2 b (fun h : b = S => nf (by rw [← h]; exact hb))]; exact e
    · split
      · omega
      · rw [List.length_cons]; omega
    · rw [hd] at fin
      refine fin s'' (Moved.trans W.gtrans ((mv.mono sub0).then_heap (Nat.le_succ _) fun b o hb e => ?_) hm'') hS''
      rw [kp.2 b (fun h : b = S => hb (by rw [h]; exact List.mem_cons_self))]; exact e
end
section
variable {pg : Program} {w : World} {A : Around} {E : Value → Shared → Prop} {s : Shared}
set_option maxHeartbeats 3200000 in
theorem call_set_text {x : Str} {t : Tok} {Q : Value → Shared → Prop} (cal : A.handled = none) (hz : x.cps.size + 1 < scanBound)
    (h : ∀ (h' : Heap) (tk0 : Nat), h'.SetOf (PySem.strKind pg w) s.heap.objs.size (inS (du [] x.cps.toList)) (du [] x.cps.toList).length →
      (∀ b o, b < s.heap.objs.size → s.heap.get? b = some o → h'.get? b = some o) → Q (.ref s.heap.objs.size) { s with heap := h', toks := tk0 }) :
    wpAny (model pg w) A (call (.type "set") [.str x t]) Q E s := by
  obtain ⟨c, tl, mro0⟩ := PySem.F.called_set.mro
  have made0 := PySem.F.called_set.made
  have sub0 := PySem.F.called_set.sub
  refine wpAny_call (codeAny_of_tree ?_); show wpAny _ _ (callAny (.type "set") _) _ _ _
  refine wpAny_pure ⟨Code.quiet_builtin _ (by decide +kernel), codeAny_builtin PySem.F.entry_type_call ?_⟩; rw [Around.under_plain (weight_type_call_type "set" [.str x t] []) rfl]
  have h1 := PySem.F.called_set.notType; have h2 := PySem.F.called_set.canCreate
  have ct0 := PySem.F.typeCall_set_1 (.str x t)
  (repeat (any_goals (first | assumption | wp_step)))
  refine codeAny_mono (code_set_new_1 (.str x t) (E := E) (Q₁ := fun obj s₁ => ∃ ld : Bool, obj = .ref s.heap.objs.size ∧ s₁ = { s with heap := s.heap.push { cls := .type "set", dict := none, data := .set #[] 0 (.fresh 0 0 ld) } }) fun ld => ⟨ld, rfl, rfl⟩) fun r s₁ rr => ?_
  cases r with
  | error e => exact rr
  | ok fl =>
    cases fl with
    | ret obj =>
      obtain ⟨ld, rfl, rfl⟩ := rr
      have sS : (s.heap.push { cls := .type "set", dict := none, data := .set #[] 0 (.fresh 0 0 ld) }).get? s.heap.objs.size = some { cls := .type "set", dict := none, data := .set #[] 0 (.fresh 0 0 ld) } := Heap.get?_push_size _ rfl
      have tT : Shared.TypeIs { s with heap := s.heap.push { cls := .type "set", dict := none, data := .set #[] 0 (.fresh 0 0 ld) } } (.ref s.heap.objs.size) "set" := ⟨_, sS, rfl⟩
      have li0 := PySem.F.called_set.init.lookup
      have bi0 := PySem.F.called_set.init.bind (.ref s.heap.objs.size)
      (repeat (any_goals (first | assumption | wp_step)))
      refine codeAny_mono (codeAny_call_builtin (R := wants (fun r s₂ => r = .none ∧ ∃ h' tk0, s₂ = { s with heap := h', toks := tk0 } ∧
          h'.SetOf (PySem.strKind pg w) s.heap.objs.size (inS (du [] x.cps.toList)) (du [] x.cps.toList).length ∧
          (∀ b o, b < s.heap.objs.size → s.heap.get? b = some o → h'.get? b = some o)) E) PySem.F.called_set.init.plain PySem.F.entry_set_init (check_set_init_1 tT ?_)) fun r₂ s₂ hr₂ => ?_
      · unfold Builtin.«set.__init__» noKeywords Builtin.Frozenset.updateFrom
        have hts : ∀ (pr : Program) (ww : World) (A' : Around) (E' : Value → Shared → Prop) (s' : Shared) (Q' : Bool → Shared → Prop), Q' false s' → wpAny (model pr ww) A' (Builtin.Frozenset.isAnySet (.str x t)) Q' E' s' := fun pr ww A' E' s' Q' hq => L2.Fz.anySet hq
        generalize hPI : pyIter = PI
        generalize hAS : Builtin.Frozenset.isAnySet = AS at hts
        wp_walk using (hts _ _ _ _ _ _)
        subst hPI
        refine wpAny_pyIter_str fun o St wk st0 => ?_
        refine wpAny_bind (wpAny_runValue ?_); have cal3 : A.in1.in1.in1.handled = none := by simp [cal]
        have len0 : (s.heap.push { cls := .type "set", dict := none, data := .set #[] 0 (.fresh 0 0 ld) }).objs.size = s.heap.objs.size + 1 := Heap.size_push _ _
        have nf : s.heap.objs.size ∉ [(s.heap.push { cls := .type "set", dict := none, data := .set #[] 0 (.fresh 0 0 ld) }).objs.size] := by
          rw [len0]; simp only [List.mem_singleton]
          exact Nat.ne_of_lt (Nat.lt_succ_self _)
        refine loopX ((wk _ cal3).toS) s.heap.objs.size nf x rfl hz (fun i v hv => hv) (x.cps.size - 0) 0 _ [] (by omega) (Nat.zero_le _) st0 (Nat.le_refl _) ?hS0 ?fin
        case hS0 =>
          have got0 : ((s.heap.push { cls := .type "set", dict := none, data := .set #[] 0 (.fresh 0 0 ld) }).push o).get? s.heap.objs.size
              = some { cls := .type "set", dict := none, data := .set #[] 0 (.fresh 0 0 ld) } := Heap.get?_push_of_some _ sS
          exact PyProof.Rows.SetOf_congr ((PyProof.Rows.setObjOf_fresh (knd := PySem.strKind pg w) ld).setOf got0 (by unfold scanBound; omega)) (fun _ => rfl) rfl
        case fin =>
          intro s' mv sS'
          obtain ⟨h', g', d', tk0', os'⟩ := s'
          have g0 : g' = s.gens := mv.gens
          have d0 : d' = s.drawn := mv.drawn
          have o0 : os' = s.os := mv.os
          subst g0; subst d0; subst o0
          show wpAny _ _ _ _ _ _
          refine wpAny_pure ?_
          show wpAny _ _ (ret Value.none) _ _ _; refine wpAny_pure ⟨rfl, h', tk0', rfl, sS', fun b o' hb e => ?_⟩
          have nb1 : b ≠ s.heap.objs.size := Nat.ne_of_lt hb
          have nb2 : b ≠ (s.heap.push { cls := .type "set", dict := none, data := .set #[] 0 (.fresh 0 0 ld) }).objs.size := by
            rw [len0]; exact Nat.ne_of_lt (Nat.lt_succ_of_lt hb)
          exact mv.heap b o' (by simp only [List.mem_cons, List.mem_singleton, List.not_mem_nil, or_false, not_or]; exact ⟨nb1, nb2⟩) (Heap.get?_push_of_some _ (Heap.get?_push_of_some _ e))
      · cases r₂ with
        | error e => exact hr₂
        | ok fl₂ =>
          cases fl₂ with
          | ret r =>
            obtain ⟨rfl, h', tk0, rfl, sS', ek'⟩ := hr₂
            (repeat (any_goals (first | assumption | wp_step)))
            exact h _ _ sS' ek'
          | _ => exact hr₂.elim
    | _ => exact rr.elim
end
end SX
namespace L2
open PySem PySem.Spec PyProof.Rows
/-- len(set(x)), x a text -/
def nuq (z : Str) : Nat := (SX.du [] z.cps.toList).length
theorem du_len : ∀ (l sg : List Nat), (SX.du sg l).length ≤ sg.length + l.length
  | [], sg => by show sg.length ≤ sg.length + 0; omega
  | c :: r, sg => by
    have h := du_len r (if sg.contains c then sg else c :: sg)
    have h2 : (if sg.contains c then sg else c :: sg).length ≤ sg.length + 1 := by
      split
      · omega
      · rw [List.length_cons]; omega
    show (SX.du (if sg.contains c then sg else c :: sg) r).length ≤ _
    rw [List.length_cons]
    omega
def tLenSetX (ta : TE) : TE := fun σ H Q => ta σ H fun x H1 => ∃ z : Str, x = .str z ∧ z.cps.size ≤ 4000 ∧ Q (.int (nuq z : Nat)) H1
section
variable {X : Cx}
theorem pe_lenSetX {a : Expr} {ta : TE} {p p2 q pos : Pos} (hc : X.calm = true) (gg : Gl X "len") (mv : X.mg "len" = none) (gg2 : Gl X "set") (hm2 : X.mg "set" = none) (ha : PE X a ta)
    (na : starEach [a] X.env = (false, eval a X.env) :: starEach [] X.env := by rfl) : PE X (.Call (.Name "len" p) [.Call (.Name "set" p2) [a] [] q] [] pos) (tLenSetX ta) := by
  refine ⟨fun pn s σ H Q I h => ?_⟩
  refine Call_ (ld_blt I gg mv boot_len ?_)
  refine PyProof.Rows.callWith_builtin1 (PyProof.Rows.args_cons ?_ rfl) rfl rfl; refine Call_ (ld_blt I gg2 hm2 boot_set ?_)
  refine PyProof.Rows.callWith_type1 (PyProof.Rows.args_cons (thn (ha.run pn s σ H _ I h) fun v s1 ⟨x, H1, I1, r1, q1⟩ => PyProof.Rows.args_nil ?_) na) na rfl
  obtain ⟨z, rfl, hz, q1⟩ := q1
  obtain ⟨t, rfl⟩ := r1
  refine SX.call_set_text (I1.ok.hd hc) (by unfold scanBound; omega) fun h' tk0 sS ek => ?_
  refine PyProof.Rows.args_nil ?_; have hdl : (SX.du [] z.cps.toList).length ≤ 4000 := by
    have h1 := du_len z.cps.toList []
    have h2 : z.cps.toList.length = z.cps.size := Array.length_toList
    rw [List.length_nil] at h1
    omega
  obtain ⟨o, es, ep, t, ho, ex0, hd, _, _, _, ff0, en0⟩ := sS
  have I2 : Inv X pn σ H1 { s1 with heap := h', toks := tk0 } := I1.kept fun b o e => ek b o (Heap.lt_size e) e
  refine call_len_set ho ex0 hd ff0 (by rw [en0]; omega) ⟨.int (nuq z : Nat), H1, I2.tok _, ⟨_, by rw [en0]; rfl⟩, q1⟩
/-- max(ns, default=d) -/
def rMaxDef (K : PySem.W.Frag) : List V → List V → Hp → VK → Prop := fun vs zs H Q => ∃ (a : Addr) (ns : List Int) (d : Int), vs = [V.ref a] ∧ zs = [.int d] ∧ SqL K H a (ns.map V.int) ∧ (ns = [] → Q (.int d) H) ∧ ∀ m, m ∈ ns → (∀ y, y ∈ ns → y ≤ m) → Q (.int m) H
theorem maxI : ∀ (ys : List Int) (y : Int), PySem.W.maxOf y ys ∈ y :: ys ∧ ∀ z, z ∈ y :: ys → z ≤ PySem.W.maxOf y ys
  | [], y => ⟨List.mem_cons_self, fun z hz => by cases hz with
    | head => exact Int.le_refl _
    | tail _ h => cases h⟩
  | x :: r, y => by
    have e : PySem.W.maxOf y (x :: r) = PySem.W.maxOf (if decide (y < x) = true then x else y) r := rfl
    rw [e]
    obtain ⟨h1, h2⟩ := maxI r (if decide (y < x) = true then x else y)
    by_cases c : y < x
    · rw [if_pos (decide_eq_true c)] at h1 h2 ⊢
      refine ⟨List.mem_cons_of_mem _ h1, fun z hz => ?_⟩
      have hx := h2 x List.mem_cons_self
      cases hz with
      | head => omega
      | tail _ hz => exact h2 z hz
    · rw [if_neg (by simpa using c)] at h1 h2 ⊢
      refine ⟨?_, fun z hz => ?_⟩
      · rcases List.mem_cons.mp h1 with h | h
        · rw [h]; exact List.mem_cons.mpr (.inl rfl)
        · exact List.mem_cons_of_mem _ (List.mem_cons_of_mem _ h)
      · have hy := h2 y List.mem_cons_self
        cases hz with
        | head => exact hy
        | tail _ hz => cases hz with
          | head => omega
          | tail _ hz => exact h2 z (List.mem_cons_of_mem _ hz)
theorem cr_maxDef (hc : X.calm = true) (hu : X.A.units + 1 < cLine) : CallRK X (.builtin "max") [Str.ofString "default"] (rMaxDef X.K) := by
  intro pn s σ H vs zs us ws Q I r rz h
  obtain ⟨a, ns, d, rfl, rfl, hs, q0, q1⟩ := h
  obtain ⟨is0, rv0, hl, _⟩ := I.list hs
  obtain ⟨w1, rfl, t, rfl⟩ := vals1 rz
  rw [Vals.ref1 r]
  refine PySem.W.max_list_datum_default (α := Int) (xs := ns) (I.ok.hd hc) hl.isList (PySem.W.HoldAll.of_ints rv0.ints) hu (fun e h' tk0 ek => ⟨.int d, H, I.kept ek, ⟨t, rfl⟩, q0 e⟩) fun y ys i v h' tk0 e le0 hv ek => ?_
  obtain ⟨h1, h2⟩ := maxI ys y
  subst e
  obtain ⟨u, rfl⟩ := PySem.W.int_of_holds hv
  exact ⟨.int _, H, I.kept ek, ⟨u, rfl⟩, q1 _ h1 h2⟩
end
end L2
set_option Elab.async false
set_option linter.all false
set_option maxRecDepth 100000
set_option maxHeartbeats 4000000
namespace DX
open PySem PySem.W PySem.Calls PyProof.Rows PyProof.V PySem.Spec
/-- keys as data: a text, None, a tuple of one text -/
inductive KeyD (P : Program) (w : World) (h : Heap) : Value → PyData → Prop where
  | str (x : Str) (t : Tok) (k : PyData.strOk x = true) : KeyD P w h (.str x t) (.str x)
  | non : KeyD P w h .none .none
  | tup {a : Addr} {x : Str} (k : PyData.strOk x = true) (e : IsTupleKey (strKind P w) h [x] a) : KeyD P w h (.ref a) (.tuple [.str x])
theorem pgetL {α β : Type} {F : α → β → Prop} : ∀ {l₁ : List α} {l₂ : List β} {j : Nat} {x : α}, Paired F l₁ l₂ → l₁[j]? = some x → ∃ y, l₂[j]? = some y ∧ F x y
  | _, _, _, _, Paired.nil, h => by simp at h
  | _, _, 0, x, Paired.cons (b := y) f _, h => by
    rw [List.getElem?_cons_zero] at h
    cases h
    exact ⟨y, rfl, f⟩
  | _, _, j + 1, _, Paired.cons _ t, h => by
    simp only [List.getElem?_cons_succ] at h; obtain ⟨y, h1, h2⟩ := pgetL (j := j) t h; exact ⟨y, (by rw [List.getElem?_cons_succ]; exact h1), h2⟩
section
variable {P : Program} {w : World} {A : Around} {E : Value → Shared → Prop} {s : Shared} {h h' : Heap} {u v : Value} {d e : PyData}
theorem KeyD.keeps {p : Addr} {o : Obj} {es : Array DictEntry} {eo : Nat} (k : KeyD P w h v d) (out0 : h.get? p = some o) (hd : o.data = .dict es eo) (ss0 : Heap.SameBut p h h') : KeyD P w h' v d := by
  cases k with
  | str x t k => exact .str x t k
  | non => exact .non
  | tup k e => exact .tup k (e.keeps out0 hd ss0)
theorem lay_str (x : Str) (k : PyData.strOk x = true) : (PyData.str x).canLay0 = true := SeqAt.canLay_of_shaped (by simp [SeqAt.shaped, PyData.canLay0, PyData.depth, k])
theorem lay_tup (x : Str) (k : PyData.strOk x = true) : (PyData.tuple [.str x]).canLay0 = true := SeqAt.canLay_of_shaped (by simp [SeqAt.shaped, PyData.canLay0, PyData.canLayAll0, PyData.depth, PyData.depthAll, k])
theorem lay_non : (PyData.none).canLay0 = true := SeqAt.canLay_of_shaped (by simp [SeqAt.shaped, PyData.canLay0, PyData.depth])
theorem KeyD.reads (k : KeyD P w h v d) : ∃ as, Reads h v d as ∧ d.canLay0 = true ∧ d.depth ≤ 1 := by
  cases k with
  | str x t k => exact ⟨_, .str x t, lay_str x k, by simp [PyData.depth]⟩
  | non => exact ⟨_, .none, lay_non, by simp [PyData.depth]⟩
  | @tup a x k e =>
    obtain ⟨o, items, n, out0, hc, hd, wi⟩ := e
    obtain ⟨l⟩ := items
    cases wi with
    | cons keep0 ht =>
      cases ht
      rename_i u
      obtain ⟨t, rfl⟩ := Value.isStrOf_shape keep0
      exact ⟨_, .tuple out0 hc hd (.cons (.str x t) .nil), lay_tup x k, by simp [PyData.depth, PyData.depthAll]⟩
theorem KeyD.ne (k : KeyD P w h u d) (l : KeyD P w h v e) (nn0 : PyData.eqv d e = false) : (u == v) = false := by
  obtain ⟨as, ra, ca, da⟩ := k.reads
  obtain ⟨bs, rb, cb, db⟩ := l.reads
  cases hb : (u == v) with
  | false => rfl
  | true =>
    have e1 := eq_of_beq hb
    subst e1
    have e2 := SeqAt.Reads.unique _ _ _ _ _ ca ra rb
    rw [← e2, SeqAt.eqv_refl _ ca] at nn0
    cases nn0
end
end DX
namespace L2
open PySem PySem.Spec PyProof.Rows
/-- a dict of any keys, as it stands in the raw heap -/
def DXo (d : Addr) (es : Array DictEntry) (eo : Nat) : HO := .ext fun h => DT.Raw h d es eo ∧ (d == sysModules) = false
/-- the keys of such dicts as data -/
inductive KDt (K : PySem.W.Frag) (H : Hp) : V → PyData → Prop where
  | str (x : Str) (k : PyData.strOk x = true) : KDt K H (.str x) (.str x)
  | non : KDt K H .non .none
  | tup {a : Addr} {x : Str} (k : PyData.strOk x = true) (e : SqT K H a [.str x]) : KDt K H (.ref a) (.tuple [.str x])
def ents (es : Array DictEntry) : List (Value × Value) := es.toList.map fun e => (e.key, e.val)
/-- {k: v, ..}: of ints and texts, locked; or of unlike keys of any kind -/
def tDispX (K : PySem.W.Frag) (trs : List (TE × TE)) : TE := fun σ H Q => ∀ p, H p = none → tPairs trs σ (upd H p (.dK [])) fun ps H2 => H2 p = some (.dK []) ∧
  ((∃ prs : List (Key × V), ps = prs.map (fun kv => (kV kv.1, kv.2)) ∧ prs.length ≤ 15 ∧ ∀ od, Q (.ref p) (upd H2 p (.frz od (.dK (mergeK [] prs))))) ∨
   (∃ ds : List PyData, Paired (KDt K H2) (ps.map (·.1)) ds ∧ ds.Pairwise (fun a b => PyData.eqv a b = false) ∧ ∀ es eo, VV ps (ents es) → Q (.ref p) (upd H2 p (DXo p es eo))))
section
variable {X : Cx} {pn : List (Addr × Obj)} {σ : St} {H : Hp} {s : Shared}
/-- the pairs of such a dict -/
def Itx (d : Addr) (es : Array DictEntry) (eo : Nat) (ps : List (V × V)) : It :=
  ⟨fun i H => H d = some (DXo d es eo) ∧ i < ps.length, fun i H v H' => ∃ (T : Addr) (x y : V), v = .ref T ∧ ps[i]? = some (x, y) ∧ H T = none ∧ H' = upd H T (.tup [x, y]), fun i H => H d = some (DXo d es eo) ∧ ps.length ≤ i⟩
theorem dxo_at {d : Addr} {es : Array DictEntry} {eo : Nat} (I : Inv X pn σ H s) (h : H d = some (DXo d es eo)) : DT.Raw s.heap d es eo := (I.hok d _ h).1.1
theorem dxo_sm {d : Addr} {es : Array DictEntry} {eo : Nat} (I : Inv X pn σ H s) (h : H d = some (DXo d es eo)) : (d == sysModules) = false := (I.hok d _ h).1.2
theorem vv_get {ps : List (V × V)} {es : Array DictEntry} (r : VV ps (ents es)) {i : Nat} {x y : V} (h : ps[i]? = some (x, y)) : ∃ lt : i < es.size, RelV x es[i].key ∧ RelV y es[i].val := by
  obtain ⟨q, hq, r1, r2⟩ := DX.pgetL r h
  unfold ents at hq
  rw [List.getElem?_map, Array.getElem?_toList] at hq
  cases hit : es[i]? with
  | none => rw [hit] at hq; cases hq
  | some e =>
    rw [hit] at hq
    obtain ⟨lt, e2⟩ := Array.getElem?_eq_some_iff.mp hit
    cases hq
    exact ⟨lt, by rw [e2]; exact r1, by rw [e2]; exact r2⟩
theorem vv_len {ps : List (V × V)} {es : Array DictEntry} (r : VV ps (ents es)) : ps.length = es.size := by
  have h := Paired.length r
  unfold ents at h
  rw [List.length_map, Array.length_toList] at h
  exact h
theorem turn_itemsX {P : Program} {w : World} {K : PySem.W.Frag} {elts : List Expr} {kk : Nat} {tpos : Pos} {d : Addr} {es : Array DictEntry} {eo : Nat} {ps : List (V × V)} (it : Addr) (r : VV ps (ents es)) :
    Turn P w K (.Tuple elts kk tpos) (Itx d es eo ps) [it] it (fun i h => ∃ k0 v0, IsItemIter h it d i es.size eo k0 v0) where
  mem := by simp
  obj := fun i h st b hb => by
    have e : b = it := (by simpa using hb)
    subst e
    obtain ⟨k0, v0, e⟩ := st; exact ⟨_, e, fun v z => nomatch z⟩
  keep := fun i h h' st k => let ⟨k0, v0, e⟩ := st; ⟨k0, v0, k it (by simp) _ e⟩
  item := by
    intro X hP hw hK hc i pn s σ H E I fp0 st hg
    subst hP hw hK
    obtain ⟨hd, wi⟩ := hg
    have mm := dxo_at I hd
    obtain ⟨⟨k, v⟩, ekv⟩ : ∃ p, ps[i]? = some p := ⟨ps[i], List.getElem?_eq_getElem wi⟩
    obtain ⟨lt, rlk, rv⟩ := vv_get r ekv
    obtain ⟨k0, v0, hit⟩ := st
    have below : it < s.heap.objs.size := Heap.lt_size hit
    refine DT.nextI hit mm lt fun h' out0 at0 fit keep0 => ?_
    refine ⟨_, rfl, wpAny_letOwnedTupleGo_items (s := { s with heap := h' }) out0 fun h'' hit' same1 => ?_⟩
    have hT2 : h''.get? s.heap.objs.size = some { cls := .type "tuple", data := .seq #[es[i].key, es[i].val] } := (same1.2 _ (Nat.ne_of_gt below)).trans at0
    have new : ObjOk X.prog X.w (upd H s.heap.objs.size (.tup [k, v])) h'' s.heap.objs.size (.tup [k, v]) :=
      ⟨by show 2 ≤ sizeLine; decide, [es[i].key, es[i].val], .cons rlk (.cons rv .nil), ⟨_, hT2, rfl, _, rfl⟩⟩
    have I1 : Inv X pn σ (upd H s.heap.objs.size (.tup [k, v])) { s with heap := h'' } :=
      I.turnedNew (t' := s.toks) (ch := [it]) (fun b ob hb e => (same1.2 b (by simpa using hb)).trans (keep0 b ob (by simpa using hb) e)) fp0 (Nat.le_refl _) new
    refine ⟨.ref s.heap.objs.size, _, I1, rfl, ⟨_, k, v, rfl, ekv, I.hok.fresh (Nat.le_refl _), rfl⟩, ⟨es[i].key, es[i].val, hit'⟩, fun b hb => ?_⟩
    have e : b = it := (by simpa using hb)
    rw [e, upd_ne (Nat.ne_of_lt below)]
    exact (fp0 it (by simp)).1
  done := by
    intro X hP hw hK hc i pn s σ H E I fp0 st hg
    subst hP hw hK
    obtain ⟨hd, wi⟩ := hg
    have mm := dxo_at I hd
    obtain ⟨y0, y1, y2, y3, y4, y5⟩ := fp0 it (by simp)
    obtain ⟨k0, v0, hit⟩ := st
    rw [vv_len r] at wi
    exact DT.endI (I.ok.hd hc) hit mm wi fun h' eb => ⟨rfl, I.turned (t' := s.toks) (fun b ob hb e => eb b ob hb e) y0 y1 y3 y4 y5⟩
  self := fun A i s Q E st h => let ⟨_, _, is⟩ := st; PySem.W.kcp_self is h
/-- d.items() of a locked dict of ints and texts, or of one of any keys -/
def iItemsX (td : TE) : TI := fun σ H R => td σ H fun x H1 => ∃ d, x = .ref d ∧ ((∃ o prs, H1 d = some (.frz o (.dK prs)) ∧ R (Iti d o prs) H1) ∨ ∃ es eo ps, H1 d = some (DXo d es eo) ∧ VV ps (ents es) ∧ R (Itx d es eo ps) H1)
theorem pi_itemsX {e : Expr} {td : TE} {apos cpos : Pos} {elts : List Expr} {kk : Nat} {tpos : Pos} (hit : PE X e td) (base0 : attributeBase e "items" X.env (eval e X.env) = eval e X.env := by rfl) (line0 : (apos.endLine == cpos.line) = true := by rfl) :
    PI X (.Tuple elts kk tpos) (.Call (.Attribute e "items" apos) [] [] cpos) (iItemsX td) := by
  refine ⟨fun pn s σ H R I h => ?_⟩
  refine wpAny_Call_method (T := "dict") (id := "dict.items") base0 rfl line0 F.plainAttrs_dict F.slot_dict_items F.type_dict_items (thn (hit.run pn s σ H _ I h) fun u s1 ⟨x, H1, I1, rx, d, ex, hh⟩ => ?_)
  subst ex
  obtain rfl : u = Value.ref d := rx; have I2 : Inv X pn σ H1 { s1 with heap := s1.heap.push { cls := .type "dict_items", data := .fields #[.ref d] } } := I1.kept (t' := s1.toks) fun b ob q => Heap.get?_push_of_some _ q
  rcases hh with ⟨o, prs, hd, q⟩ | ⟨es, eo, ps, hd, r, q⟩
  · obtain ⟨ss0, gd0, xx0, es, eo, vs, dt0, sz0, kv, mm⟩ := I1.frzK hd
    have len0 : prs.length = vs.length := Paired.length kv
    refine ⟨mm.dictOf.typeIs, mm.dictOf.mapOf.noDict, ?_⟩
    have fin : wpAny (model X.prog X.w) X.A (pyIter (.ref s1.heap.objs.size)) (PIE X pn σ (.Tuple elts kk tpos) R) X.xe { s1 with heap := s1.heap.push { cls := .type "dict_items", data := .fields #[.ref d] } } := by
      refine wpAny_pyIter_items (d := d) (knd := mixKind X.prog X.w) ⟨_, Heap.get?_push_size _ rfl, rfl, rfl⟩ (mm.push _) (pi_one (tk := s1.toks) I2 _ (turn_items _ dt0) ⟨.none, .none, ?_⟩ q)
      rw [len0]; exact Heap.get?_push_size _ rfl
    show wpAny _ _ (callWith cpos (.builtin "dict.items") [.ref d] [] []) _ X.xe s1; exact method_meetsIn F.slot_dict_items F.entry_dict_items rfl (PySem.evalArgs_none ⟨rfl, mm.dictOf.typeIs, F.args_dict_items_1 _, _, meets_dict_items (mixKind X.prog X.w) d ss0, ⟨vs, mm.dictOf⟩, fin⟩)
  · have mm := dxo_at I1 hd
    obtain ⟨o, out0, xx0, dt0⟩ := id mm
    have ss0 := dxo_sm I1 hd
    have fin : wpAny (model X.prog X.w) X.A (pyIter (.ref s1.heap.objs.size)) (PIE X pn σ (.Tuple elts kk tpos) R) X.xe { s1 with heap := s1.heap.push { cls := .type "dict_items", data := .fields #[.ref d] } } := by
      refine DT.iterI (d := d) (es := es) (ep := eo) ⟨_, Heap.get?_push_size _ rfl, rfl, rfl⟩ (mm.push _) (pi_one (tk := s1.toks) I2 _ (turn_itemsX _ r) ⟨.none, .none, ?_⟩ q); exact Heap.get?_push_size _ rfl
    refine ⟨mm.typeIs, fun a e => by cases e; exact ⟨o, out0, xx0.2.1⟩, ?_⟩
    show wpAny _ _ (callWith cpos (.builtin "dict.items") [.ref d] [] []) _ X.xe s1; exact method_meetsIn F.slot_dict_items F.entry_dict_items rfl (PySem.evalArgs_none ⟨rfl, mm.typeIs, F.args_dict_items_1 _, _, DT.meetsItems (es := es) (ep := eo) ss0, ⟨mm, fin⟩⟩)
/-- isinstance(x, C) of such a dict too -/
def rIsiX (K : PySem.W.Frag) : List V → Hp → VK → Prop := fun xs H Q => rIsi K xs H Q ∨ ∃ (a : Addr) (es : Array DictEntry) (eo : Nat) (n : String) (b : Bool), xs = [.ref a, .ty n] ∧ H a = some (DXo a es eo) ∧ PySem.W.kitOne K (.type "dict") (.type n) = some b ∧ Q (.bl b) H
theorem call_isiX : CallR X (.builtin "isinstance") (rIsiX X.K) := by
  intro pn s σ H xs us Q I r h
  rcases h with h | ⟨a, es, eo, n, b, rfl, ha, e, q⟩
  · exact call_isi pn s σ H xs us Q I r h
  · obtain ⟨u1, u2, rfl, r1, r2⟩ := vals2 r
    cases (id r1 : u1 = Value.ref a)
    cases (show u2 = Value.type n from r2)
    exact PySem.W.kia_one PySem.W.kitx_dict I.kIn (dxo_at I ha).typeIs e (fun z => nomatch z) fun tk => ⟨.bl b, H, I.tok tk, rfl, q⟩
theorem isiXK {K : PySem.W.Frag} (h : X.K = K := by rfl) : CallR X (.builtin "isinstance") (rIsiX K) := by subst h; exact call_isiX
end
end L2
set_option Elab.async false
set_option linter.all false
set_option maxRecDepth 100000
set_option maxHeartbeats 4000000
namespace L2
open PySem PySem.Spec PyProof.Rows
/-- the view d.values() -/
def valsO (p a : Addr) : HO := .ext fun h => h.IsValuesView p a
def tVals (td : TE) : TE := fun σ H Q => td σ H fun x H1 => ∃ (a : Addr) (kvs : List (Key × V)), x = .ref a ∧ Rd H1 a (.dK kvs) ∧ ∀ p, H1 p = none → Q (.ref p) (upd H1 p (valsO p a))
def tDNewF : TE := fun _ H Q => ∀ p od, H p = none → Q (.ref p) (upd H p (.frz od (.dK [])))
section
variable {X : Cx} {pos : Pos}
theorem valsO_ok {P : Program} {w : World} {H : Hp} {h : Heap} {p d : Addr} (e : h.get? p = some { cls := .type "dict_values", data := .fields #[.ref d] }) : ObjOk P w H h p (valsO p d) :=
  ⟨⟨_, e, rfl, rfl⟩, ⟨_, e⟩, fun h1 h2 x k => let ⟨o, at_, r⟩ := x; ⟨o, k o at_, r⟩⟩
theorem pe_vals {e : Expr} {td : TE} {apos cpos : Pos} (he : PE X e td) (base0 : attributeBase e "values" X.env (eval e X.env) = eval e X.env := by rfl) (line0 : (apos.endLine == cpos.line) = true := by rfl) :
    PE X (.Call (.Attribute e "values" apos) [] [] cpos) (tVals td) := by
  refine ⟨fun pn s σ H Q I h => ?_⟩
  refine wpAny_Call_method (T := "dict") (id := "dict.values") base0 rfl line0 F.plainAttrs_dict F.slot_dict_values F.type_dict_values (thn (he.run pn s σ H _ I h) fun u s1 ⟨x, H1, I1, rx, d, kvs, ex, hd, q⟩ => ?_)
  subst ex
  obtain rfl : u = Value.ref d := rx; obtain ⟨z, low, vw2, rl, dct⟩ := dk_rd I1.hok hd
  refine ⟨dct.typeIs, dct.mapOf.noDict, ?_⟩
  have fresh0 : H1 s1.heap.objs.size = none := I1.hok.fresh (Nat.le_refl _)
  show wpAny _ _ (callWith cpos (.builtin "dict.values") [.ref d] [] []) _ X.xe s1; exact method_meetsIn F.slot_dict_values F.entry_dict_values rfl (PySem.evalArgs_none ⟨rfl, dct.typeIs, F.args_dict_values_1 _, _, meets_dict_values (mixKind X.prog X.w) d low, ⟨vw2, dct⟩,
    ⟨.ref s1.heap.objs.size, upd H1 s1.heap.objs.size (valsO s1.heap.objs.size d), I1.laid (t' := s1.toks) (fun _ _ q => Heap.get?_push_of_some _ q) (Nat.le_refl _) (valsO_ok (Heap.get?_push_size _ rfl)), rfl, q _ fresh0⟩⟩)
theorem kv_snd : ∀ {kvs : List (Key × V)} {vw2 : List (Key × Value)}, KV kvs vw2 → Vals (kvs.map Prod.snd) (vw2.map Prod.snd)
  | _, _, .nil => .nil
  | _, _, .cons h t => .cons h.2 (kv_snd t)
theorem cr_listV (hcalm : X.calm = true) : CallR X (.type "list") (fun xs H Q => ∃ (p a : Addr) (kvs : List (Key × V)), xs = [.ref p] ∧ H p = some (valsO p a) ∧ Rd H a (.dK kvs) ∧ ∀ q, H q = none → Q (.ref q) (upd H q (.lst (kvs.map Prod.snd)))) := by
  intro pn s σ H xs us Q I r q
  obtain ⟨p, a, kvs, ex, hp, hd, q⟩ := q
  subst ex
  obtain ⟨u, eu, rx⟩ := vals1 r
  subst eu
  cases rx
  obtain ⟨z, low, vw2, rl, dct⟩ := dk_rd I.hok hd
  obtain ⟨ep, at0⟩ := dct.dictAt
  have vw : s.heap.IsValuesView p a := (I.hok p _ hp).1
  refine PySem.W.kdl_call (PySem.W.kdl_values (knd := mixKind X.prog X.w) (kvs := vw2) (ep := ep)) (I.ok.hd hcalm) ⟨vw, at0⟩ (by rw [← rl.length]; exact z) fun h' tk got c' keep0 new0 ga => ?_
  have vw : Vals (kvs.map Prod.snd) got.toList := by
    have ea : got.toList = vw2.map Prod.snd := by
      apply List.ext_getElem?
      intro j
      rw [Array.getElem?_toList, List.getElem?_map]
      cases hj : got[j]? with
      | none =>
        have h1 := Array.getElem?_eq_none_iff.mp hj
        rw [List.getElem?_eq_none (by have := ga.1; omega)]
        rfl
      | some v =>
        obtain ⟨k, keep0⟩ := ga.2 j v hj
        rw [keep0]
        rfl
    rw [ea]
    exact kv_snd rl
  refine ⟨.ref s.heap.objs.size, upd H s.heap.objs.size (.lst (kvs.map Prod.snd)), I.laid (t' := tk) keep0 (Nat.le_refl _)
    (show ObjOk X.prog X.w _ _ _ (.lst (kvs.map Prod.snd)) from ⟨by rw [List.length_map]; exact z, got.toList, c', vw, by rw [Array.toArray_toList]; exact new0⟩), rfl, q _ (I.hok.fresh (Nat.le_refl _))⟩
theorem pe_dnewF : PE X (.Dict [] [] pos) tDNewF := by
  refine ⟨fun pn s σ H Q I h => wpAny_Dict_empty ?_⟩
  have I1 := I.laid (a := s.heap.objs.size) (o := .dK []) (t' := s.toks) (h' := s.heap.push { cls := .type "dict", data := .dict #[] }) (fun _ _ q => Heap.get?_push_of_some _ q) (Nat.le_refl _) (dk_empty s.heap I.big)
  obtain ⟨od, I2⟩ := I1.lock upd_same True.intro
  rw [upd_upd] at I2
  exact ⟨.ref s.heap.objs.size, _, I2, rfl, h _ _ (I.hok.fresh (Nat.le_refl _))⟩
end
section
variable {X : Cx} (K : PySem.W.Frag)
theorem lenSetK {a : Expr} {ta : TE} {p p2 q pos : Pos} (hg : Gl X "len") (hm : X.mg "len" = none) (hg2 : Gl X "set") (hm2 : X.mg "set" = none) (ha : PE X a ta) (hc : X.calm = true := by rfl)
    (na : starEach [a] X.env = (false, eval a X.env) :: starEach [] X.env := by rfl) : PE X (.Call (.Name "len" p) [.Call (.Name "set" p2) [a] [] q] [] pos) (tLenSetX ta) := pe_lenSetX hc hg hm hg2 hm2 ha na
theorem maxDefK {k : Nat} (hr : Room k X.A) (hc : X.calm = true := by rfl) (h : X.K = K := by rfl) : CallRK X (.builtin "max") [Str.ofString "default"] (rMaxDef K) := by
  subst h
  exact cr_maxDef hc (hu_of hr)
def rListD : List V → Hp → VK → Prop := fun xs H Q => ∃ (a : Addr) (kvs : List (Key × V)), xs = [.ref a] ∧ Rd H a (.dK kvs) ∧ ∀ p, H p = none → Q (.ref p) (upd H p (.lst (kvs.map fun kv => kV kv.1)))
theorem listDK (hc : X.calm = true := by rfl) : CallR X (.type "list") rListD := call_listD hc
def rListV : List V → Hp → VK → Prop := fun xs H Q => ∃ (p a : Addr) (kvs : List (Key × V)), xs = [.ref p] ∧ H p = some (valsO p a) ∧ Rd H a (.dK kvs) ∧ ∀ q, H q = none → Q (.ref q) (upd H q (.lst (kvs.map Prod.snd)))
theorem listVK (hc : X.calm = true := by rfl) : CallR X (.type "list") rListV := cr_listV hc
end
section
variable {K : PySem.W.Frag} {σ : St} {H : Hp} {ta tb te td : TE} {Q : VK} {t tk : TA}
theorem k_lenSetX (k : ta σ H fun x H1 => ∃ z : Str, x = .str z ∧ z.cps.size ≤ 4000 ∧ Q (.int (nuq z : Nat)) H1) : tLenSetX ta σ H Q := k
theorem k_ckw {r : List V → List V → Hp → VK → Prop} (k : t σ H fun vw2 H1 => tk σ H1 fun zs H2 => r vw2 zs H2 Q) : tCKw r t tk σ H Q := k
theorem k_maxDef {a : Addr} {ns : List Int} {d : Int} (hs : SqL K H a (ns.map V.int)) (k : ∀ m, (ns = [] ∧ m = d) ∨ (m ∈ ns ∧ ∀ y, y ∈ ns → y ≤ m) → Q (.int m) H) : rMaxDef K [.ref a] [.int d] H Q :=
  ⟨a, ns, d, rfl, rfl, hs, fun e => k d (.inl ⟨e, rfl⟩), fun m h1 h2 => k m (.inr ⟨h1, h2⟩)⟩
theorem k_vals (k : td σ H fun x H1 => ∃ (a : Addr) (kvs : List (Key × V)), x = .ref a ∧ Rd H1 a (.dK kvs) ∧ ∀ p, H1 p = none → Q (.ref p) (upd H1 p (valsO p a))) : tVals td σ H Q := k
theorem k_dnewF (k : ∀ p od, H p = none → Q (.ref p) (upd H p (.frz od (.dK [])))) : tDNewF σ H Q := k
theorem k_meth {C : Addr} {m : Str} {sp : Sp} {dvs : List V} {E : XK} (k : ta σ H fun x H1 => ∃ a dx fs, x = .ref a ∧ H1 a = some (.ins C dx fs) ∧ fs.lookup m = none ∧ t σ H1 fun vw2 H2 => sp (x :: (vw2 ++ dvs)) H2 Q E) : tMeth C m sp dvs E ta t σ H Q := k
end
end L2
set_option Elab.async false
set_option linter.all false
set_option maxRecDepth 100000
set_option maxHeartbeats 4000000
namespace L2
open PySem PySem.Spec PyProof.Rows
/-- a dict that can be walked by its items -/
def DI (H : Hp) (a : Addr) (ps : List (V × V)) : Prop := (∃ o kvs, H a = some (.frz o (.dK kvs)) ∧ ps = kvs.map fun kv => (kV kv.1, kv.2)) ∨ ∃ es ep, H a = some (DXo a es ep) ∧ VV ps (ents es)
def onIX (v : V) (H : Hp) (R : It → Hp → Prop) : Prop := ∃ d, v = .ref d ∧ ((∃ o kvs, H d = some (.frz o (.dK kvs)) ∧ R (Iti d o kvs) H) ∨ ∃ es ep ps, H d = some (DXo d es ep) ∧ VV ps (ents es) ∧ R (Itx d es ep ps) H)
def pN : V × V := (.non, .non)
section
variable {K : PySem.W.Frag} {σ : St} {H H' : Hp} {td : TE} {D : Ends} {a : Addr} {ps : List (V × V)} {g : TG} {tb : TS}
theorem DI.up (h : DI H a ps) (s : Same H H') : DI H' a ps := by
  rcases h with ⟨o, kvs, h, e⟩ | ⟨es, ep, h, r⟩
  · exact .inl ⟨o, kvs, s _ _ h, e⟩
  · exact .inr ⟨es, ep, s _ _ h, r⟩
theorem k_forIX (k : td σ H fun v H1 => onIX v H1 (forOn g tb D σ)) : tFor (iItemsX td) g tb D σ H := k
theorem DI.go {Rr : It → Hp → Prop} (h : DI H a ps) (k : ∀ (J : It) (G : Hp → Prop), Walk J ps.length G (fun i H v H' => ∃ T : Addr, v = .ref T ∧ H T = none ∧ H' = upd H T (.tup [(ps.getD i pN).1, (ps.getD i pN).2])) → (∀ H', Same H H' → G H') → Rr J H) : onIX (.ref a) H Rr := by
  rcases h with ⟨o, kvs, h, rfl⟩ | ⟨es, ep, h, r⟩
  · refine ⟨a, rfl, .inl ⟨o, kvs, h, k _ (fun H => H a = some (.frz o (.dK kvs))) ⟨fun i H hi h => ⟨h, by rw [List.length_map] at hi; exact hi⟩, fun H h => ⟨h, by rw [List.length_map]; exact Nat.le_refl _⟩, fun i H v H' hi h y => ?_⟩ fun H' s => s _ _ h⟩⟩
    obtain ⟨T, k, v, e, rfl, n, rfl⟩ := y
    refine ⟨T, rfl, n, ?_⟩
    have : (kvs.map fun kv => (kV kv.1, kv.2)).getD i pN = (kV k, v) := by rw [List.getD_eq_getElem?_getD, List.getElem?_map, e]; rfl
    rw [this]
  · refine ⟨a, rfl, .inr ⟨es, ep, ps, h, r, k _ (fun H => H a = some (DXo a es ep)) ⟨fun i H hi h => ⟨h, hi⟩, fun H h => ⟨h, Nat.le_refl _⟩, fun i H v H' hi h y => ?_⟩ fun H' s => s _ _ h⟩⟩
    obtain ⟨T, x, y, rfl, e, n, rfl⟩ := y
    refine ⟨T, rfl, n, ?_⟩
    have : ps.getD i pN = (x, y) := by rw [List.getD_eq_getElem?_getD, e]; rfl
    rw [this]
theorem DI.isi {n : String} {b : Bool} {Q : VK} (h : DI H a ps) (e : kitB "dict" n = some b) (k : Q (.bl b) H) : rIsiX K [.ref a, .ty n] H Q := by
  rcases h with ⟨o, kvs, h, _⟩ | ⟨es, ep, h, r⟩
  · exact .inl (k_isi (.fDict h) (kit_ty e) k)
  · exact .inr ⟨a, es, ep, n, b, rfl, h, kit_ty e, k⟩
end
end L2
namespace L2
open PySem PySem.Spec PyProof.Rows
end L2
set_option Elab.async false
set_option linter.all false
set_option maxRecDepth 100000
set_option maxHeartbeats 4000000
namespace L2
open PySem PySem.Spec PyProof.Rows
def parR3 (i j l : Nat) (σ : St) (R : St → Hp → Prop) (vs : List V) (H : Hp) : Prop := ∃ u v w, vs = [u, v, w] ∧ R (((σ.set i (some u)).set j (some v)).set l (some w)) H
section
variable {K : PySem.W.Frag} {σ : St} {H : Hp} {D : Ends}
theorem k_par3 {i j l : Nat} {t : TA} (k : t σ H (parR3 i j l σ D.nx)) : tPar3 i j l t D σ H := k
theorem k_par3R {i j l : Nat} {u v w : V} {R : St → Hp → Prop} (k : R (((σ.set i (some u)).set j (some v)).set l (some w)) H) : parR3 i j l σ R [u, v, w] H := ⟨u, v, w, rfl, k⟩
end
/-- dict(d), locked -/
def rDictF : List V → Hp → VK → Prop := fun xs H Q => ∃ (a : Addr) (kvs : List (Key × V)), xs = [.ref a] ∧ Rd H a (.dK kvs) ∧ ∀ p od, H p = none → Q (.ref p) (upd H p (.frz od (.dK kvs)))
theorem dictFK {X : Cx} : CallR X (.type "dict") rDictF := by
  intro pn s σ H xs us Q I r h
  obtain ⟨a, kvs, rfl, hd, q⟩ := h
  refine wpAny_mono (call_dictD pn s σ H _ us (fun v H' => ∃ p, v = .ref p ∧ H p = none ∧ H' = upd H p (.dK kvs)) I r ⟨a, kvs, rfl, hd, fun p hp => ⟨p, rfl, hp, rfl⟩⟩) (fun u s1 e => ?_) fun _ _ e => e
  obtain ⟨x, H1, I1, rx, p, rfl, hp, rfl⟩ := e
  obtain ⟨od, I2⟩ := I1.lock upd_same True.intro
  rw [upd_upd] at I2
  exact ⟨.ref p, _, I2, rx, q p od hp⟩
section
variable {K : PySem.W.Frag} {σ : St} {H : Hp} {ty td : TE} {Q : VK} {a : Addr} {xs : List V}
theorem k_din (k : ty σ H fun y H1 => td σ H1 fun x H2 => ∃ a o, x = .ref a ∧ DGet H2 a y o ∧ Q (.bl o.isSome) H2) : tDIn ty td σ H Q := k
end
section
variable {K : PySem.W.Frag} {σ : St} {H : Hp} {tk tv : TE} {trs : List (TE × TE)} {Q : VK}
theorem k_prn {QP : List (V × V) → Hp → Prop} (k : QP [] H) : tPairs [] σ H QP := k
theorem k_prs {QP : List (V × V) → Hp → Prop} (k : tk σ H fun x H1 => tv σ H1 fun y H2 => tPairs trs σ H2 fun ps H3 => QP ((x, y) :: ps) H3) : tPairs ((tk, tv) :: trs) σ H QP := k
theorem k_dispX (k : ∀ p, H p = none → tPairs trs σ (upd H p (.dK [])) fun ps H2 => H2 p = some (.dK []) ∧
  ((∃ kvs : List (Key × V), ps = kvs.map (fun kv => (kV kv.1, kv.2)) ∧ kvs.length ≤ 15 ∧ ∀ od, Q (.ref p) (upd H2 p (.frz od (.dK (mergeK [] kvs))))) ∨
   (∃ ds : List PyData, Paired (KDt K H2) (ps.map (·.1)) ds ∧ ds.Pairwise (fun a b => PyData.eqv a b = false) ∧ ∀ es ep, VV ps (ents es) → Q (.ref p) (upd H2 p (DXo p es ep))))) : tDispX K trs σ H Q := k
end
end L2
set_option Elab.async false
set_option linter.all false
set_option maxRecDepth 100000
set_option maxHeartbeats 4000000
namespace Mi
open PySem L2 TL
/-- the greatest one, 0 if there is none -/
def mx : List Int → Int
  | [] => 0
  | x :: r => if mx r < x then x else mx r
theorem mx_nn : ∀ l : List Int, 0 ≤ mx l
  | [] => Int.le_refl _
  | x :: r => by
    have h := mx_nn r
    show 0 ≤ if mx r < x then x else mx r
    split <;> omega
theorem mx_ge : ∀ (l : List Int) (x : Int), x ∈ l → x ≤ mx l
  | y :: r, x, h => by
    show x ≤ if mx r < y then y else mx r
    rcases List.mem_cons.mp h with rfl | h
    · split <;> omega
    · have := mx_ge r x h
      split <;> omega
theorem mx_in : ∀ l : List Int, mx l = 0 ∨ mx l ∈ l
  | [] => .inl rfl
  | x :: r => by
    show (if mx r < x then x else mx r) = 0 ∨ (if mx r < x then x else mx r) ∈ x :: r
    split
    · exact .inr List.mem_cons_self
    · rcases mx_in r with h | h
      · exact .inl h
      · exact .inr (List.mem_cons_of_mem _ h)
theorem mx_le {l : List Int} {b : Int} (hb : 0 ≤ b) (h : ∀ x ∈ l, x ≤ b) : mx l ≤ b := by
  rcases mx_in l with e | e
  · omega
  · exact h _ e
theorem mx_of {ns : List Int} {m : Int} (p : ∀ x ∈ ns, 0 ≤ x) (h : (ns = [] ∧ m = 0) ∨ (m ∈ ns ∧ ∀ y, y ∈ ns → y ≤ m)) : m = mx ns := by
  rcases h with ⟨rfl, rfl⟩ | ⟨h1, h2⟩
  · rfl
  · have a := mx_ge ns m h1
    have b := mx_le (p m h1) h2
    omega
def lens (xs : List Str) : List Int := xs.map fun x => (x.length : Int)
theorem lens_nn (xs : List Str) : ∀ x ∈ lens xs, 0 ≤ x := fun x hx => by
  obtain ⟨y, _, rfl⟩ := List.mem_map.mp hx
  omega
def isKd (k : Str) : C0 → Bool
  | .runs _ => decide (k = "runs")
  | .least _ => decide (k = "least")
  | _ => false
def numC : C0 → Int
  | .runs m => m
  | .least m => m
  | _ => 0
/-- how many last letters a condition looks at -/
def seenC : C0 → Int
  | .ends ts => mx (lens ts)
  | .shape x => x.length
  | .double => 2
  | .runs _ => 1
  | _ => 0
def numsK (k : Str) (cs : List C0) : List Int := (cs.filter (isKd k)).map numC
end Mi
set_option Elab.async false
set_option linter.all false
set_option maxRecDepth 100000
set_option maxHeartbeats 4000000
/-! the sight of a text -/
namespace Mi
open PySem L2 TL
def mn2 (i j : Int) : Int := if j < i then j else i
/-- the last letters -/
def sgT (x : Str) (c : Int) : Str := cutS x (some (if (x.length : Int) - c > 0 then (x.length : Int) - c else 0)) none
def sgV (W x : Str) : Bool := (tl x).any fun c => decide (c ∈ tl W)
def sgR (W x : Str) : Nat := runs (tl W) (tl x)
def sgO (W x : Str) (m k c : Int) : List V := [.str (sgT x c), .bl (sgV W x), .int (mn2 m (sgR W x)), .int (mn2 k x.length)]
theorem tl_sgT {x : Str} {c : Nat} : tl (sgT x c) = (tl x).drop (x.length - c) := by
  unfold sgT
  have e : (if (x.length : Int) - (c : Int) > 0 then (x.length : Int) - (c : Int) else 0) = ((x.length - c : Nat) : Int) := by
    split <;> omega
  rw [e, tl_cut_from (by omega)]
  exact tl_mk' _
theorem getLast_drop {l : List Nat} {n : Nat} (h : n < l.length) : (l.drop n).getLast? = l.getLast? := by
  rw [List.getLast?_drop, if_neg (by omega)]
end Mi
set_option Elab.async false
set_option linter.all false
set_option maxRecDepth 100000
set_option maxHeartbeats 4000000
/-! pieces of rows -/
namespace Mi
open PySem L2 TL
theorem flat_sub {α : Type} {l l' : List (List α)} (h : l.Sublist l') : l.flatten.Sublist l'.flatten := by
  induction h with
  | slnil => exact List.Sublist.refl _
  | cons a _ ih => exact ih.trans (List.sublist_append_right _ _)
  | cons_cons a _ ih => exact List.Sublist.append (List.Sublist.refl _) ih
end Mi
set_option Elab.async false
set_option linter.all false
set_option maxRecDepth 100000
set_option maxHeartbeats 4000000
namespace L2
open PySem PySem.Spec PyProof.Rows TL Mi
section
variable {X : Cx}
/-- a dict, locked from here on -/
def tLockD (td : TE) : TE := fun σ H Q => td σ H fun v H1 => ∃ (a : Addr) (kvs : List (Key × V)), v = .ref a ∧ H1 a = some (.dK kvs) ∧ ∀ od, Q (.ref a) (upd H1 a (.frz od (.dK kvs)))
theorem pe_lockD {e : Expr} {td : TE} (he : PE X e td) : PE X e (tLockD td) := by
  refine ⟨fun pins s σ H Q I h => ?_⟩
  refine wpAny_mono (he.run pins s σ H _ I h) (fun u s1 out => ?_) fun _ _ z => z
  obtain ⟨v, H1, I1, r, a, kvs, rfl, e1, q⟩ := out
  obtain ⟨od, I2⟩ := I1.lock e1 True.intro
  exact ⟨.ref a, _, I2, r, q od⟩
end
section
variable {K : PySem.W.Frag} {σ : St} {H : Hp} {Q : VK} {a : Addr}
theorem k_lockD {td : TE} (k : td σ H fun v H1 => ∃ (a : Addr) (kvs : List (Key × V)), v = .ref a ∧ H1 a = some (.dK kvs) ∧ ∀ od, Q (.ref a) (upd H1 a (.frz od (.dK kvs)))) : tLockD td σ H Q := k
end
end L2
namespace Mi
open PySem PySem.Spec PyProof.Rows L2 TL
theorem seenC_nn (c : C0) : 0 ≤ seenC c := by
  cases c with
  | ends ts => exact mx_nn _
  | shape x => exact Int.natCast_nonneg _
  | _ => simp only [seenC] <;> omega
end Mi
set_option Elab.async false
set_option linter.all false
set_option maxRecDepth 100000
set_option maxHeartbeats 4000000
namespace L2
open PySem PySem.Spec PyProof.Rows TL Mi
section
variable {K : PySem.W.Frag} {H : Hp} {Q : VK}
/-- a text, a bool, two numbers -/
def fo (t : Str) (b : Bool) (i j : Int) : List V := [.str t, .bl b, .int i, .int j]
def foD (t : Str) (b : Bool) (i j : Int) : PyData := .tuple [.str t, .bool b, .int i, .int j]
theorem fo_dp {a : Addr} {t : Str} {b : Bool} {i j : Int} (h : SqT K H a (fo t b i j)) : Dp K H (.ref a) (foD t b i j) := .tup h (.cons (.str t) (.cons (.bl b) (.cons (.int i) (.cons (.int j) .nil))))
end
end L2
set_option Elab.async false
set_option linter.all false
set_option maxRecDepth 100000
set_option maxHeartbeats 4000000
namespace L2
open PySem PySem.Spec PyProof.Rows TL Mi
def exK (es : List (Str × Str)) : List (Key × V) := es.map fun p => ((.inr p.1 : Key), V.str p.2)
theorem putK_ex (es : List (Str × Str)) (a b : Str) : ∃ es', putK (exK es) (.inr a) (.str b) = exK es' ∧ es'.length ≤ es.length + 1 ∧ ∀ p ∈ es', p ∈ es ∨ p = (a, b) := by
  unfold putK
  split
  · refine ⟨es.map fun p => if p.1 = a then (p.1, b) else p, ?_, by simp, fun p hp => ?_⟩
    · unfold exK
      rw [List.map_map, List.map_map]
      refine List.map_congr_left fun p _ => ?_
      show (if (Sum.inr p.1 : Key) = .inr a then _ else _) = _
      by_cases h : p.1 = a
      · rw [if_pos (congrArg _ h)]
        simp [h]
      · rw [if_neg (fun z => h (Sum.inr.inj z))]
        simp [h]
    · obtain ⟨q, hq, rfl⟩ := List.mem_map.mp hp
      by_cases h : q.1 = a
      · right
        simp [h]
      · left
        simpa [h] using hq
  · refine ⟨es ++ [(a, b)], by simp [exK], by simp, fun p hp => ?_⟩
    rcases List.mem_append.mp hp with h | h
    · exact .inl h
    · exact .inr (List.mem_singleton.mp h)
section
variable {σ : St} {H : Hp} {Q : VK} {D : Ends} {td ty tv : TE}
theorem k_dnewK (k : ∀ p, H p = none → Q (.ref p) (upd H p (.dK []))) : tDNewK σ H Q := k
theorem k_dput (k : tv σ H fun v H1 => td σ H1 fun x H2 => ty σ H2 fun y H3 => ∃ a H4, x = .ref a ∧ DPut H3 a y v H4 ∧ D.nx σ H4) : sDPut td ty tv D σ H := k
theorem put_ex {d : Addr} {es : List (Str × Str)} {a b : Str} (e : H d = some (.dK (exK es))) (l : es.length ≤ 1000) (k : ∀ es', es'.length ≤ es.length + 1 → (∀ p ∈ es', p ∈ es ∨ p = (a, b)) → D.nx σ (upd H d (.dK (exK es')))) : ∃ a' H4, V.ref d = .ref a' ∧ DPut H a' (.str a) (.str b) H4 ∧ D.nx σ H4 := by
  obtain ⟨es', e1, l1, m1⟩ := putK_ex es a b
  refine ⟨d, _, rfl, DPut.k (k := .inr a) e (by
    unfold exK
    rw [List.length_map]
    exact Nat.lt_of_le_of_lt l (by decide)), ?_⟩
  rw [e1]
  exact k es' l1 m1
end
end L2
set_option Elab.async false
set_option linter.all false
set_option maxRecDepth 100000
set_option maxHeartbeats 4000000
namespace L2
open PySem PySem.Spec PyProof.Rows TL Mi
end L2
set_option Elab.async false
set_option linter.all false
set_option maxRecDepth 100000
set_option maxHeartbeats 4000000
namespace Mi
open PySem PySem.Spec PyProof.Rows L2 TL
end Mi
set_option Elab.async false
set_option linter.all false
set_option maxRecDepth 100000
set_option maxHeartbeats 4000000
namespace L2
open PySem PySem.Spec PyProof.Rows TL
end L2
set_option Elab.async false
set_option linter.all false
set_option maxRecDepth 100000
set_option maxHeartbeats 4000000
namespace L2
open PySem PySem.Spec PyProof.Rows TL Mi
end L2
set_option Elab.async false
set_option linter.all false
set_option maxRecDepth 100000
set_option maxHeartbeats 4000000
/-! texts with the same sight: what conditions and steps say behind them -/
namespace Mi
open PySem L2 TL
/-- the last letters -/
def lst (x : List Nat) (c : Nat) : List Nat := x.drop (x.length - c)
theorem lst_len (x : List Nat) (c : Nat) : (lst x c).length = min c x.length := by
  unfold lst
  rw [List.length_drop]
  omega
theorem lst_lst (x : List Nat) {n c : Nat} (h : n ≤ c) : lst (lst x c) n = lst x n := by
  unfold lst
  rw [List.length_drop, List.drop_drop]
  congr 1
  omega
theorem lst_app_le (x r : List Nat) {n : Nat} (h : n ≤ r.length) : lst (x ++ r) n = lst r n := by
  unfold lst
  rw [List.length_append, List.drop_append, List.drop_eq_nil_of_le (by omega), List.nil_append]
  congr 1
  omega
theorem lst_app_ge (x r : List Nat) {n : Nat} (h : r.length ≤ n) : lst (x ++ r) n = lst x (n - r.length) ++ r := by
  unfold lst
  rw [List.length_append, List.drop_append_of_le_length (by omega)]
  congr 2
  omega
theorem lst_app {x y : List Nat} {c : Nat} (h : lst x c = lst y c) (r : List Nat) {n : Nat} (hn : n ≤ c) : lst (x ++ r) n = lst (y ++ r) n := by
  by_cases hr : n ≤ r.length
  · rw [lst_app_le x r hr, lst_app_le y r hr]
  · rw [lst_app_ge x r (by omega), lst_app_ge y r (by omega), ← lst_lst x (c := c) (by omega), ← lst_lst y (c := c) (by omega), h]
theorem suff_lst (e z : List Nat) : suff e z = decide (lst z e.length = e) := by
  unfold suff lst
  by_cases h : e.length ≤ z.length
  · rw [decide_eq_true h, Bool.true_and]
  · rw [decide_eq_false h, Bool.false_and, decide_eq_false]
    intro q
    have := congrArg List.length q
    rw [List.length_drop] at this
    omega
theorem suff_app {x y : List Nat} {c : Nat} (h : lst x c = lst y c) (e r : List Nat) (he : e.length ≤ c) : suff e (x ++ r) = suff e (y ++ r) := by
  rw [suff_lst, suff_lst, lst_app h r he]
theorem suff_row (x e r : List Nat) (he : e.length ≤ r.length) : suff e (x ++ r) = suff e r := by
  rw [suff_lst, suff_lst, lst_app_le x r he]
theorem kinds_app (vs x r : List Nat) : kinds vs (x ++ r) = kinds vs x ++ kinds vs r := by simp [kinds]
theorem kinds_lst (vs x : List Nat) (c : Nat) : lst (kinds vs x) c = kinds vs (lst x c) := by
  unfold lst
  rw [kinds_length]
  unfold kinds
  rw [List.map_drop]
theorem dbl_lst (vs z : List Nat) : dbl vs z = dbl vs (lst z 2) := by
  by_cases h : 2 ≤ z.length
  · have e : z = z.take (z.length - 2) ++ lst z 2 := (List.take_append_drop _ _).symm
    have l : (lst z 2).length = 2 := by rw [lst_len]; omega
    generalize lst z 2 = q at e l
    match q, l with
    | [b, a], _ =>
      rw [e]
      unfold dbl
      rw [List.reverse_append]
      rfl
  · have e : lst z 2 = z := by
      unfold lst
      rw [show z.length - 2 = 0 by omega]
      rfl
    rw [e]
theorem runs_app (vs : List Nat) : ∀ (x r : List Nat) (q : Nat), x.getLast? = some q → runs vs (x ++ r) = runs vs x + runs vs (q :: r)
  | [], _, _, h => by cases h
  | [a], r, q, h => by
    have e : a = q := by simpa using h
    subst e
    show runs vs (a :: r) = runs vs [a] + _
    simp [runs]
  | a :: b :: x, r, q, h => by
    have ih := runs_app vs (b :: x) r q (by simpa using h)
    simp only [List.cons_append] at ih ⊢
    simp only [runs]
    omega
theorem last_lst {x : List Nat} {c : Nat} (h : 0 < c) : (lst x c).getLast? = x.getLast? := by
  by_cases e : x = []
  · subst e
    simp [lst]
  · have : 0 < x.length := List.length_pos_iff.mpr e
    unfold lst
    exact getLast_drop (by omega)
/-- the same sight -/
structure Alike (vs : List Nat) (m k : Int) (c : Nat) (x y : List Nat) : Prop where
  t : lst x c = lst y c
  v : (x.any fun a => decide (a ∈ vs)) = y.any fun a => decide (a ∈ vs)
  r : mn2 m (runs vs x) = mn2 m (runs vs y)
  l : mn2 k x.length = mn2 k y.length
/-- a condition that the bounds know -/
def Known (m k : Int) (c : Nat) : C0 → Prop
  | .vowel => True
  | .runs n => n ≤ m ∧ 1 ≤ c
  | .ends ts => ∀ t ∈ ts, t.length ≤ c
  | .double => 2 ≤ c
  | .least n => n ≤ k
  | .shape s => s.length ≤ c
def KnownC (m k : Int) (c : Nat) : Cond → Prop
  | .pos a => Known m k c a
  | .neg a => Known m k c a
theorem mn2_add {m n i j : Int} {a : Int} (h : mn2 m i = mn2 m j) (hn : n ≤ m) (ha : 0 ≤ a) : (n ≤ i + a ↔ n ≤ j + a) := by
  unfold mn2 at h
  split at h <;> split at h <;> constructor <;> intro _ <;> omega
theorem met0_front {vs : List Nat} {m k : Int} {c : Nat} {x y : List Nat} (al : Alike vs m k c x y) {q : C0} (kn : Known m k c q) (r : List Nat) : met0 vs (x ++ r) q = met0 vs (y ++ r) q := by
  cases q with
  | vowel =>
    show ((x ++ r).any fun a => decide (a ∈ vs)) = (y ++ r).any fun a => decide (a ∈ vs)
    rw [List.any_append, List.any_append, al.v]
  | runs n =>
    show decide (n ≤ (runs vs (x ++ r) : Int)) = decide (n ≤ (runs vs (y ++ r) : Int))
    have hl : x.getLast? = y.getLast? := by
      rw [← last_lst (x := x) (c := c) kn.2, ← last_lst (x := y) (c := c) kn.2, al.t]
    cases e : x.getLast? with
    | none =>
      have e1 : x = [] := List.getLast?_eq_none_iff.mp e
      have e2 : y = [] := List.getLast?_eq_none_iff.mp (hl ▸ e)
      rw [e1, e2]
    | some a =>
      rw [runs_app vs x r a e, runs_app vs y r a (hl ▸ e)]
      push_cast
      exact decide_eq_decide.mpr (mn2_add al.r kn.1 (Int.natCast_nonneg _))
  | ends ts =>
    show (ts.any fun t => suff (tl t) (x ++ r)) = ts.any fun t => suff (tl t) (y ++ r)
    rw [Bool.eq_iff_iff, List.any_eq_true, List.any_eq_true]
    constructor
    · rintro ⟨t, ht, h⟩
      exact ⟨t, ht, by rw [← suff_app al.t (tl t) r (by rw [← len_tl]; exact kn t ht)]; exact h⟩
    · rintro ⟨t, ht, h⟩
      exact ⟨t, ht, by rw [suff_app al.t (tl t) r (by rw [← len_tl]; exact kn t ht)]; exact h⟩
  | double =>
    show dbl vs (x ++ r) = dbl vs (y ++ r)
    rw [dbl_lst, dbl_lst vs (y ++ r), lst_app al.t r kn]
  | least n =>
    show decide (n ≤ ((x ++ r).length : Int)) = decide (n ≤ ((y ++ r).length : Int))
    rw [List.length_append, List.length_append]
    push_cast
    exact decide_eq_decide.mpr (mn2_add al.l kn (Int.natCast_nonneg _))
  | shape s =>
    show suff (tl s) (kinds vs (x ++ r)) = suff (tl s) (kinds vs (y ++ r))
    rw [kinds_app, kinds_app]
    refine suff_app (c := c) ?_ _ _ (by rw [← len_tl]; exact kn)
    rw [kinds_lst, kinds_lst, al.t]
/-! steps -/
def endN (rs : List RD) (n : Nat) : List Nat := ((rs[n]?).map fun r => tl r.e).getD []
/-- the rules that stand -/
def stnd (rs : List RD) (z : List Nat) : List Nat := (List.range rs.length).filter fun n => suff (endN rs n) z
def lng (rs : List RD) : List Nat → List Nat → List Nat
  | acc, [] => acc
  | [], n :: r => lng rs [n] r
  | a :: acc, n :: r => if (endN rs a).length < (endN rs n).length then lng rs [n] r else lng rs (a :: acc) r
def tries (s : SD) (z : List Nat) : List Nat := if s.mode = "first" then stnd s.rs z else lng s.rs [] (stnd s.rs z)
def allMet (vs : List Nat) (rs : List RD) (n : Nat) (z : List Nat) : Bool := match rs[n]? with
  | some r => r.cs.all fun c => met vs (z.take (z.length - (tl r.e).length)) c
  | none => false
def stepF (vs : List Nat) (s : SD) (z : List Nat) : Option Nat × List Nat := match (tries s z).find? fun n => allMet vs s.rs n z with
  | some n => (some n, z.take (z.length - (endN s.rs n).length) ++ ((s.rs[n]?).map fun r => tl r.p).getD [])
  | none => (none, z)
theorem stnd_row {rs : List RD} {x w : List Nat} (h : ∀ r ∈ rs, (tl r.e).length ≤ w.length) : stnd rs (x ++ w) = stnd rs w := by
  unfold stnd
  refine List.filter_congr fun n hn => ?_
  have hn : n < rs.length := List.mem_range.mp hn
  unfold endN
  rw [List.getElem?_eq_getElem hn]
  exact suff_row x _ w (h _ (List.getElem_mem hn))
theorem tries_row {s : SD} {x w : List Nat} (h : ∀ r ∈ s.rs, (tl r.e).length ≤ w.length) : tries s (x ++ w) = tries s w := by
  unfold tries
  rw [stnd_row h]
theorem take_row (x w : List Nat) {n : Nat} (h : n ≤ w.length) : (x ++ w).take ((x ++ w).length - n) = x ++ w.take (w.length - n) := by
  rw [List.length_append, List.take_append, List.take_of_length_le (by omega)]
  congr 2
  omega
/-- a step behind a front: the front stays, and what is told behind it leans on the sight alone -/
theorem stepF_front {vs : List Nat} {m k : Int} {c : Nat} {x y : List Nat} (al : Alike vs m k c x y) {s : SD} {w : List Nat} {M : Nat} (hM : ∀ r ∈ s.rs, (tl r.e).length ≤ M) (hw : M ≤ w.length) (hk : ∀ r ∈ s.rs, ∀ q ∈ r.cs, KnownC m k c q) :
    ∃ n w', stepF vs s (x ++ w) = (n, x ++ w') ∧ stepF vs s (y ++ w) = (n, y ++ w') ∧ w.length ≤ w'.length + M := by
  have hl : ∀ r ∈ s.rs, (tl r.e).length ≤ w.length := fun r hr => Nat.le_trans (hM r hr) hw
  have am : ∀ n, allMet vs s.rs n (x ++ w) = allMet vs s.rs n (y ++ w) := by
    intro n
    unfold allMet
    cases e : s.rs[n]? with
    | none => rfl
    | some r =>
      have hr := List.mem_of_getElem? e
      show (r.cs.all fun c => met vs ((x ++ w).take ((x ++ w).length - (tl r.e).length)) c) = r.cs.all fun c => met vs ((y ++ w).take ((y ++ w).length - (tl r.e).length)) c
      rw [take_row x w (hl r hr), take_row y w (hl r hr)]
      rw [Bool.eq_iff_iff, List.all_eq_true, List.all_eq_true]
      have one : ∀ q ∈ r.cs, met vs (x ++ w.take (w.length - (tl r.e).length)) q = met vs (y ++ w.take (w.length - (tl r.e).length)) q := fun q hq => by
        have kq := hk r hr q hq
        cases q with
        | pos a => exact met0_front al kq _
        | neg a => exact congrArg (!·) (met0_front al kq _)
      exact ⟨fun h q hq => (one q hq) ▸ h q hq, fun h q hq => (one q hq).symm ▸ h q hq⟩
  unfold stepF
  rw [tries_row hl, tries_row hl]
  have ef : (fun n => allMet vs s.rs n (x ++ w)) = fun n => allMet vs s.rs n (y ++ w) := funext am
  rw [ef]
  cases e : (tries s w).find? fun n => allMet vs s.rs n (y ++ w) with
  | none => exact ⟨none, w, rfl, rfl, by omega⟩
  | some n =>
    have hn : ∃ r, s.rs[n]? = some r := by
      have := List.find?_some e
      unfold allMet at this
      cases q : s.rs[n]? with
      | none => rw [q] at this; cases this
      | some r => exact ⟨r, rfl⟩
    obtain ⟨r, hr⟩ := hn
    have el : (endN s.rs n).length ≤ w.length := by
      unfold endN
      rw [hr]
      exact hl r (List.mem_of_getElem? hr)
    have em : (endN s.rs n).length ≤ M := by
      unfold endN
      rw [hr]
      exact hM r (List.mem_of_getElem? hr)
    refine ⟨some n, w.take (w.length - (endN s.rs n).length) ++ ((s.rs[n]?).map fun r => tl r.p).getD [], ?_, ?_, ?_⟩
    · show (some n, _) = _
      rw [take_row x w el, List.append_assoc]
    · show (some n, _) = _
      rw [take_row y w el, List.append_assoc]
    · rw [List.length_append, List.length_take]
      omega
/-- all steps -/
def stemF (vs : List Nat) : List SD → List Nat → List Nat
  | [], z => z
  | s :: ss, z => stemF vs ss (stepF vs s z).2
def dSum (ss : List SD) : Int := (ss.map fun s => mx (lens (s.rs.map fun r => r.e))).sum
theorem dSum_nn : ∀ ss, 0 ≤ dSum ss
  | [] => Int.le_refl _
  | s :: ss => by
    have h1 := dSum_nn ss
    have h2 := mx_nn (lens (s.rs.map fun r => r.e))
    show 0 ≤ (mx (lens (s.rs.map fun r => r.e)) :: ss.map fun s => mx (lens (s.rs.map fun r => r.e))).sum
    rw [List.sum_cons]
    unfold dSum at h1
    omega
/-- behind texts with one sight the same row is brought to the same -/
theorem stemF_front {vs : List Nat} {m k : Int} {c : Nat} {x y : List Nat} (al : Alike vs m k c x y) : ∀ (ss : List SD) (w : List Nat), (∀ s ∈ ss, ∀ r ∈ s.rs, ∀ q ∈ r.cs, KnownC m k c q) → dSum ss ≤ w.length →
    ∃ w', stemF vs ss (x ++ w) = x ++ w' ∧ stemF vs ss (y ++ w) = y ++ w'
  | [], w, _, _ => ⟨w, rfl, rfl⟩
  | s :: ss, w, hk, hd => by
    have nn := dSum_nn ss
    have m0 := mx_nn (lens (s.rs.map fun r => r.e))
    have e : dSum (s :: ss) = mx (lens (s.rs.map fun r => r.e)) + dSum ss := by
      unfold dSum
      rw [List.map_cons, List.sum_cons]
    obtain ⟨M, hM⟩ := Int.eq_ofNat_of_zero_le m0
    rw [e, hM] at hd
    have hr : ∀ r ∈ s.rs, (tl r.e).length ≤ M := fun r h => by
      have := mx_ge (lens (s.rs.map fun r => r.e)) (r.e.length : Int) (List.mem_map.mpr ⟨r.e, List.mem_map.mpr ⟨r, h, rfl⟩, rfl⟩)
      rw [← len_tl]
      omega
    obtain ⟨n, w1, h1, h2, h3⟩ := stepF_front al (s := s) (w := w) hr (by omega) (hk s List.mem_cons_self)
    obtain ⟨w2, h4, h5⟩ := stemF_front al ss w1 (fun t ht => hk t (List.mem_cons_of_mem _ ht)) (by omega)
    refine ⟨w2, ?_, ?_⟩
    · show stemF vs ss (stepF vs s (x ++ w)).2 = _
      rw [h1]
      exact h4
    · show stemF vs ss (stepF vs s (y ++ w)).2 = _
      rw [h2]
      exact h5
end Mi
set_option Elab.async false
set_option linter.all false
set_option maxRecDepth 100000
set_option maxHeartbeats 4000000
/-! dicts whose keys are tuples of texts, numbers and bools (True is the key 1) -/
namespace BX
open PySem PySem.W PySem.Calls PyProof.Rows PyProof.V PySem.Spec L2
/-- a bool as a number -/
def bInt (b : Bool) : Int := if b then 1 else 0
def bIs (k : Key) (v : Value) : Bool := match v with
  | .bool b => decide (k = .inl (bInt b))
  | v => keyIs k v
inductive Sh : Key → Value → Prop where
  | b (b : Bool) : Sh (.inl (bInt b)) (.bool b)
  | i (i : Int) (t : Tok) : Sh (.inl i) (.int i t)
  | s (x : Str) (t : Tok) : Sh (.inr x) (.str x t)
theorem sh_of {k : Key} {v : Value} (h : bIs k v = true) : Sh k v := by
  cases v with
  | bool b =>
    have e : k = .inl (bInt b) := of_decide_eq_true h
    rw [e]
    exact .b b
  | _ =>
    rcases keyIs_shape (show keyIs k _ = true from h) with ⟨i, t, rfl, e⟩ | ⟨x, t, rfl, e⟩ <;> cases e <;> first | exact .i _ _ | exact .s _ _
theorem bInt_inj : ∀ {a b : Bool}, bInt a = bInt b → a = b
  | true, true, _ => rfl
  | false, false, _ => rfl
  | true, false, h => nomatch h
  | false, true, h => nomatch h
section
variable {P : Program} {w : World} {A : Around} {E : Value → Shared → Prop} {s : Shared}
theorem hash_bool {b : Bool} {Q : Int → Shared → Prop} (h : Q (hashInt (bInt b)) { s with toks := s.toks + 1 }) : wpAny (model P w) A (pyHash (.bool b)) Q E s := by
  have range := rawHash_range (bInt b)
  unfold pyHash
  have low : [Value.bool b].any Value.onHeap = false := rfl
  refine wpAny_bind ?_
  rw [cRoomFor, if_neg (by rw [low]; exact Bool.false_ne_true)]
  refine wpAny_pure ?_
  refine wpAny_bind (wpAny_specialOf (PySem.typeIs_bool s b) PySem.F.slot_bool_hash.lookup ?_)
  show wpAny _ _ (if (some (Value.builtin "int.__hash__") == some Value.none) = true then _ else _) Q E s
  rw [if_neg (by rw [beq_builtin_none]; exact Bool.false_ne_true)]
  refine wpAny_bind (wpAny_specialOf (PySem.typeIs_bool s b) PySem.F.slot_bool_hash.lookup ?_)
  show wpAny _ _ (callSpecialIfBoundUnlessNone? (.bool b) "__hash__" _ >>= _) Q E s
  refine wpAny_bind (wpAny_callSpecialIfBoundUnlessNone?_slot (PySem.typeIs_bool s b) PySem.F.slot_bool_hash
    (wpAny_call_entry PySem.F.slot_bool_hash (PySem.typeIs_bool s b) entry_int_hash ?body (args_int_hash _)))
  case body =>
    have e : Builtin.«int.__hash__» ⟨[.bool b], []⟩ = (do ret (← mkInt (rawHash (bInt b)))) := by cases b <;> rfl
    rw [e]
    refine wpAny_ret_mkInt ?_
    show wpAny _ _ (if (decide (-(2 : Int) ^ 63 ≤ rawHash (bInt b)) && decide (rawHash (bInt b) < 2 ^ 63)) = true then _ else _) Q E _
    rw [if_pos (by rw [decide_eq_true range.1, decide_eq_true range.2]; rfl)]
    exact wpAny_pure h
def bKind (P : Program) (w : World) : PySem.KeyKind P w Key where
  is := bIs
  hash := keyH w
  inj := fun v a b ha hb => by
    have ha := sh_of ha
    have hb := sh_of hb
    cases ha <;> cases hb <;> rfl
  byValue := fun k v h => by
    have h := sh_of h
    cases h <;> rfl
  pyHash := fun hv h => by
    have hv := sh_of hv
    cases hv with
    | b b => exact hash_bool h
    | i i t => exact wpAny_pyHash_int h
    | s x t => exact wpAny_pyHash_str h
  eqBool := fun {A E s a b u v Q} hu hv h => by
    have hu := sh_of hu
    have hv := sh_of hv
    cases hu with
    | b x => cases hv with
      | b y =>
        refine SeqAt.EqAt.bool_bool x y P w E Q ?_
        have e : decide ((Sum.inl (bInt x) : Key) = .inl (bInt y)) = (x == y) := by cases x <;> cases y <;> rfl
        rw [← e]
        exact h
      | i y t =>
        refine SeqAt.EqAt.bool_int x y t P w E Q ?_
        rw [key_ll] at h
        exact h
      | s y t =>
        rw [key_lr] at h
        exact SeqAt.EqAt.bool_str x y t P w E Q h
    | i x t => cases hv with
      | b y =>
        refine SeqAt.EqAt.int_bool x t y P w E Q ?_
        rw [key_ll] at h
        exact h
      | i y u =>
        rw [key_ll] at h
        exact wpAny_eqBool_int h
      | s y u =>
        rw [key_lr] at h
        exact SeqAt.EqAt.int_str x t y u P w E Q h
    | s x t => cases hv with
      | b y =>
        rw [key_rl] at h
        exact SeqAt.EqAt.str_bool x t y P w E Q h
      | i y u =>
        rw [key_rl] at h
        exact SeqAt.EqAt.str_int x t y u P w E Q h
      | s y u =>
        rw [key_rr] at h
        exact wpAny_eqBool_str h
  «strs» := fun k x t v h => by
    have h := sh_of h
    cases h
    cases v <;> rfl
end
end BX
namespace L2
open PySem PySem.Spec PyProof.Rows BX
/-- a thing as a part of a key -/
def kB : V → Option Key
  | .bl b => some (.inl (bInt b))
  | .int i => some (.inl i)
  | .str x => some (.inr x)
  | _ => none
def kBs : List V → Option (List Key)
  | [] => some []
  | v :: vs => match kB v, kBs vs with
    | some k, some ks => some (k :: ks)
    | _, _ => none
abbrev XB := List Key × Addr × Value
/-- such a dict, by its own object -/
def DBo (P : Program) (w : World) (d : Addr) (xs : List XB) : HO := .ext fun h => (∃ o es ep, h.get? d = some o ∧ o.ExactDict ∧ o.data = .dict es ep ∧ es.toList = xs.map (entryOfKey (tupleKind (bKind P w)))) ∧ (xs.map (·.1)).Nodup ∧ (d == sysModules) = false
abbrev KB (H : Hp) : List (List Key × V) → List XB → Prop := Paired fun p q => p.1 = q.1 ∧ (∃ vs, H q.2.1 = some (.tup vs) ∧ kBs vs = some p.1) ∧ RelV p.2 q.2.2
/-- .. with what it holds -/
def DB (P : Program) (w : World) (H : Hp) (d : Addr) (kvs : List (List Key × V)) : Prop := ∃ xs, H d = some (DBo P w d xs) ∧ KB H kvs xs ∧ kvs.length ≤ 1000
theorem items_B {P : Program} {w : World} : ∀ {vs : List V} {ks : List Key} {us : List Value}, kBs vs = some ks → Vals vs us → ItemsAre (bKind P w) ks us
  | [], ks, _, h, r => by
    cases h
    cases r
    exact .nil
  | v :: vs, ks, _, h, r => by
    cases r with
    | @cons _ u _ us r0 r =>
      unfold kBs at h
      split at h
      · rename_i k ks' h1 h2
        cases h
        refine .cons ?_ (items_B h2 r)
        cases v with
        | bl b =>
          cases h1
          cases (show u = Value.bool b from r0)
          exact decide_eq_true rfl
        | int i =>
          cases h1
          obtain ⟨t, rfl⟩ := r0
          exact keyIs_int i t
        | str x =>
          cases h1
          obtain ⟨t, rfl⟩ := r0
          exact keyIs_str x t
        | _ => cases h1
      · cases h
theorem key_B {P : Program} {w : World} {H : Hp} {h : Heap} {a : Addr} {vs : List V} {ks : List Key} (ok : HOk P w H h) (e : H a = some (.tup vs)) (hk : kBs vs = some ks) : (tupleKind (bKind P w)).is h ks a := by
  obtain ⟨_, its, r, o, h1, h2, n, h3⟩ := (show ObjOk P w H h a (.tup vs) from ok a _ e)
  exact ⟨o, its.toArray, n, h1, h2, h3, by simpa using items_B hk r⟩
theorem dictOf_B {P : Program} {w : World} {H : Hp} {h : Heap} {d : Addr} {kvs : List (List Key × V)} {xs : List XB} (ok : HOk P w H h) (e : H d = some (DBo P w d xs)) (rel : KB H kvs xs) : h.DictOfH (tupleKind (bKind P w)) d xs ∧ (d == sysModules) = false := by
  obtain ⟨⟨⟨o, es, ep, h1, h2, h3, h4⟩, nd, sm⟩, _, _⟩ := (show ObjOk P w H h d (DBo P w d xs) from ok d _ e)
  refine ⟨⟨o, es, ep, h1, h2, h3, h4, fun x hx => ?_, nd⟩, sm⟩
  have all : ∀ {l : List (List Key × V)} {m : List XB}, KB H l m → ∀ x ∈ m, (tupleKind (bKind P w)).is h x.1 x.2.1 := by
    intro l m q
    induction q with
    | nil => intro x hx; exact nomatch hx
    | @cons p q ps qs hq t ih =>
      intro x hx
      rcases List.mem_cons.mp hx with e | hx
      · subst e
        obtain ⟨e1, ⟨vs, e2, e3⟩, _⟩ := hq
        rw [← e1]
        exact key_B ok e2 e3
      · exact ih x hx
  exact all rel x hx
theorem KB.val {H : Hp} {kvs : List (List Key × V)} {xs : List XB} (r : KB H kvs xs) (k : List Key) : RelO (valV kvs k) ((atKey xs k).map (·.2)) := by
  induction r with
  | nil => exact True.intro
  | @cons p q ps qs hd tl ih =>
    obtain ⟨same, _, rv⟩ := hd
    by_cases e : p.1 = k
    · have e' : q.1 = k := same.symm.trans e
      have found : atKey (q :: qs) k = some q.2 := by simp [atKey, List.find?_cons, e']
      rw [valV_pos e, found]
      exact rv
    · have e' : ¬ q.1 = k := fun z => e (same.trans z)
      have missed : atKey (q :: qs) k = atKey qs k := by simp [atKey, List.find?_cons, e']
      rw [valV_neg e, missed]
      exact ih
theorem KB.repl {H : Hp} {kvs : List (List Key × V)} {xs : List XB} (r : KB H kvs xs) (k : List Key) {y : V} {u : Value} (ry : RelV y u) :
    KB H (kvs.map fun kv => if kv.1 = k then (kv.1, y) else kv) (xs.map (putAt k u)) := by
  induction r with
  | nil => exact .nil
  | @cons p q ps qs hd tl ih =>
    rw [List.map_cons, List.map_cons]
    refine .cons ?_ ih
    obtain ⟨same, key, rv⟩ := hd
    unfold putAt
    by_cases e : p.1 = k
    · rw [if_pos e, if_pos (same.symm.trans e)]
      exact ⟨same, key, ry⟩
    · rw [if_neg e, if_neg (fun z => e (same.trans z))]
      exact ⟨same, key, rv⟩
theorem KB.put {H : Hp} {kvs : List (List Key × V)} {xs : List XB} (r : KB H kvs xs) {k : List Key} {vs : List V} {b : Addr} {y : V} {u : Value} (hb : H b = some (.tup vs)) (hk : kBs vs = some k) (ry : RelV y u) : KB H (putK kvs k y) (storedH xs k b u) := by
  have same : (kvs.any fun kv => decide (kv.1 = k)) = (atKey xs k).isSome := by rw [valV_any, (r.val k).isSome_eq, Option.isSome_map]
  unfold putK storedH
  rw [same]
  by_cases q : (atKey xs k).isSome = true
  · rw [if_pos q, if_pos q]
    exact r.repl k ry
  · rw [if_neg q, if_neg q]
    exact Paired.snoc r ⟨rfl, ⟨vs, hb, hk⟩, ry⟩
theorem KB.keeps {H H' : Hp} {kvs : List (List Key × V)} {xs : List XB} (r : KB H kvs xs) (ht : ∀ b ys, H b = some (.tup ys) → H' b = some (.tup ys)) : KB H' kvs xs :=
  Paired.mapP r fun _ _ z => ⟨z.1, let ⟨vs, e1, e2⟩ := z.2.1; ⟨vs, ht _ _ e1, e2⟩, z.2.2⟩
theorem DB.up {P : Program} {w : World} {H H' : Hp} {d : Addr} {kvs : List (List Key × V)} (h : DB P w H d kvs) (s : Same H H') : DB P w H' d kvs := by
  obtain ⟨xs, e, r, l⟩ := h
  exact ⟨xs, s _ _ e, r.keeps fun b ys q => s _ _ q, l⟩
def tDNewB (P : Program) (w : World) : TE := fun _ H Q => ∀ p H', H p = none → DB P w H' p [] → Same H H' → Q (.ref p) H'
theorem pe_dnewB {X : Cx} {pos : Pos} : PE X (.Dict [] [] pos) (tDNewB X.prog X.w) := ⟨fun pins s σ H Q I h => by
  have new := I.hok.fresh (Nat.le_refl s.heap.objs.size)
  have sm : (s.heap.objs.size == sysModules) = false := beq_eq_false_iff_ne.mpr (Ne.symm (Nat.ne_of_lt I.big))
  refine wpAny_Dict_empty ⟨.ref s.heap.objs.size, _, I.laid (a := s.heap.objs.size) (o := DBo X.prog X.w s.heap.objs.size []) (t' := s.toks) (fun _ _ q => Heap.get?_push_of_some _ q) (Nat.le_refl _) ?_, rfl, h _ _ new ⟨[], upd_same, .nil, by decide⟩ (fun a o e => ?_)⟩
  · exact ⟨⟨⟨_, #[], 0, Heap.get?_push_size _ rfl, ⟨rfl, rfl, rfl⟩, rfl, rfl⟩, List.nodup_nil, sm⟩, ⟨_, Heap.get?_push_size _ rfl⟩, fun h1 h2 x k => ⟨let ⟨⟨o, es, ep, e1, e2, e3, e4⟩, _, _⟩ := x; ⟨o, es, ep, k o e1, e2, e3, e4⟩, x.2⟩⟩
  · rw [upd_ne (ne_of_none e new)]
    exact e⟩
end L2
set_option Elab.async false
set_option linter.all false
set_option maxRecDepth 100000
set_option maxHeartbeats 4000000
/-! the greatest of three numbers; a text so many times -/
namespace L2
open PySem PySem.Spec PyProof.Rows TL
def rMulS : R2 := fun x y H Q => ∃ s n, x = .str s ∧ y = .int n ∧ MulOk s n ∧ Q (.str (PySem.Txt.mul s n)) H
section
variable {X : Cx}
theorem op_mulS : OpR X (binaryOp .Mult) rMulS := by
  intro pins s σ H x y v u Q I rx ry h
  obtain ⟨z, n, rfl, rfl, ok, q⟩ := h
  obtain ⟨t, rfl⟩ := rx
  obtain ⟨t2, rfl⟩ := ry
  exact SB.mul ok fun t' k => ⟨.str _, H, I.tok _, ⟨_, rfl⟩, q⟩
end
end L2
set_option Elab.async false
set_option linter.all false
set_option maxRecDepth 100000
set_option maxHeartbeats 4000000
/-! how many unlike texts stand in a list; dicts of text rows walked by their values; rows by setdefault; zip of two lists -/
namespace SL
open PySem PySem.Spec PyProof.Rows
/-- the unlike texts, the last ones first -/
def du : List Str → List Str → List Str
  | sg, [] => sg
  | sg, c :: r => du (if sg.contains c then sg else c :: sg) r
def inS (sg : List Str) (k : Str) : Bool := sg.contains k
theorem drop_at {xs : List Str} {i : Nat} {c : Str} (hc : xs[i]? = some c) : xs.drop i = c :: xs.drop (i + 1) := by
  obtain ⟨h1, h2⟩ := List.getElem?_eq_some_iff.mp hc
  rw [List.drop_eq_getElem_cons h1, h2]
section
variable {pg : Program} {w : World} {A : Around} {R : Result → Shared → Prop} {I : Addr} {fp wr : List Addr} {G : Array GenState → Array GenState → Prop} {n : Nat} {P : Nat → Value → Prop} {St : Nat → Shared → Prop}
theorem loopX (W : WalksS pg w A.in1 I fp wr G n P St) (S : Addr) (nf : S ∉ fp) (xs : List Str) (len0 : xs.length = n) (hb : n + 1 < scanBound)
    (val0 : ∀ i v, P i v → ∃ c t, xs[i]? = some c ∧ v = .str c t) :
    ∀ (k i : Nat) (s : Shared) (sg : List Str), n - i = k → i ≤ n → St i s → sg.length ≤ i →
      s.heap.SetOf (PySem.strKind pg w) S (inS sg) sg.length →
      (∀ s', Moved (S :: wr) G s s' → s'.heap.SetOf (PySem.strKind pg w) S (inS (du sg (xs.drop i))) (du sg (xs.drop i)).length → R (.ok (.ret .none)) s') →
      codeAny (model pg w) A (.builtin "set.update.loop" ⟨[.ref S, .ref I], []⟩) R s := by
  have nw : S ∉ wr := fun h => nf (W.sub _ h)
  have sub0 : ∀ b ∈ wr, b ∈ S :: wr := fun b hb => List.mem_cons_of_mem _ hb
  intro k
  induction k with
  | zero =>
    intro i s sg ek le0 st0 ha sS fin
    have hin : i = n := by omega
    subst hin
    refine codeAny_builtin PyProof.Rows.F.entry_set_update_loop ?_; rw [Around.under_plainId PyProof.Rows.F.plain_set_update_loop _]
    show wpAny _ A.in1 (pyNext (.ref I) >>= _) _ _ s; refine wpAny_bind (W.done s _ _ st0 fun s' mv => ?_)
    show wpAny _ A.in1 (ret Value.none) _ _ s'; have hd : xs.drop i = [] := List.drop_of_length_le (by omega)
    rw [hd] at fin
    exact wpAny_pure (fin s' (mv.mono sub0) (by
      obtain ⟨o, es, ep, t, ho, rs0⟩ := sS
      exact ⟨o, es, ep, t, mv.heap S _ nw ho, rs0⟩))
  | succ k ih =>
    intro i s sg ek le0 st0 ha sS fin
    have lt1 : i < n := by omega
    refine codeAny_builtin PyProof.Rows.F.entry_set_update_loop ?_; rw [Around.under_plainId PyProof.Rows.F.plain_set_update_loop _]
    show wpAny _ A.in1 (pyNext (.ref I) >>= _) _ _ s; refine wpAny_bind (W.item i s _ _ lt1 st0 fun v s' pv st0' mv => ?_)
    obtain ⟨c, t, hc, rfl⟩ := val0 i v pv
    have hd := drop_at hc
    have sS' : s'.heap.SetOf (PySem.strKind pg w) S (inS sg) sg.length := by
      obtain ⟨o, es, ep, tb, ho, rs0⟩ := sS
      exact ⟨o, es, ep, tb, mv.heap S _ nw ho, rs0⟩
    show wpAny _ A.in1 (holding [Value.str c t] (setAdd S (.str c t)) >>= _) _ _ s'
    refine wpAny_bind (wpAny_holding ?_); unfold setAdd
    refine wpAny_holding ?_
    refine wpAny_bind ((PySem.strKind pg w).pyHash (k := c) (strKind_is _ _ _ _) ?_)
    refine wpAny_setAddHashed_of (knd := PySem.strKind pg w) (s := { s' with toks := s'.toks + 1 }) (strKind_is _ _ _ _) rfl sS' (by omega) fun h' kp hS2 => ?_
    have hSi : h'.SetOf (PySem.strKind pg w) S (inS (if sg.contains c then sg else c :: sg)) (if sg.contains c then sg else c :: sg).length := by
      refine SetOf_congr hS2 (fun k' => ?_) ?_
      · show (inS sg k' || decide (k' = c)) = _
        by_cases hm2 : sg.contains c = true
        · rw [if_pos hm2]
          by_cases e : k' = c
          · subst e
            unfold inS
            rw [hm2]
            rfl
          · simp [e]
        · rw [if_neg hm2]
          unfold inS
          rw [List.contains_cons, Bool.or_comm]
          congr 1
      · show (if inS sg c = true then sg.length else sg.length + 1) = _
        unfold inS
        by_cases hm2 : sg.contains c = true
        · rw [if_pos hm2, if_pos hm2]
        · rw [if_neg hm2, if_neg hm2, List.length_cons]
    refine wpAny_pure ⟨plainId_quiet PyProof.Rows.F.plain_set_update_loop _, ih (i + 1) _ (if sg.contains c then sg else c :: sg) (by omega) lt1 (W.frame _ s' _ _ st0' (Nat.le_succ _) fun b hb o e => ?_) ?_ hSi fun s'' hm'' hS'' => ?_⟩
    · rw [kp.2 b (fun h : b = S => nf (by rw [← h]; exact hb))]; exact e
    · split
      · omega
      · rw [List.length_cons]; omega
    · rw [hd] at fin
      refine fin s'' (Moved.trans W.gtrans ((mv.mono sub0).then_heap (Nat.le_succ _) fun b o hb e => ?_) hm'') hS''
      rw [kp.2 b (fun h : b = S => hb (by rw [h]; exact List.mem_cons_self))]; exact e
end
section
variable {pg : Program} {w : World} {A : Around} {E : Value → Shared → Prop} {s : Shared}
set_option maxHeartbeats 3200000 in
theorem call_set_texts {l : Addr} {its : Array Value} {xs : List Str} {Q : Value → Shared → Prop} (cal : A.handled = none) (isl : s.heap.IsList l its) (are : PyProof.Rows.StrsAre its.toList xs) (hz : xs.length + 1 < scanBound)
    (h : ∀ (h' : Heap) (tk0 : Nat), h'.SetOf (PySem.strKind pg w) s.heap.objs.size (inS (du [] xs)) (du [] xs).length →
      (∀ b o, b < s.heap.objs.size → s.heap.get? b = some o → h'.get? b = some o) → Q (.ref s.heap.objs.size) { s with heap := h', toks := tk0 }) :
    wpAny (model pg w) A (call (.type "set") [.ref l]) Q E s := by
  obtain ⟨c, tl, mro0⟩ := PySem.F.called_set.mro
  have made0 := PySem.F.called_set.made
  have sub0 := PySem.F.called_set.sub
  refine wpAny_call (codeAny_of_tree ?_); show wpAny _ _ (callAny (.type "set") _) _ _ _
  refine wpAny_pure ⟨Code.quiet_builtin _ (by decide +kernel), codeAny_builtin PySem.F.entry_type_call ?_⟩; rw [Around.under_plain (weight_type_call_type "set" [.ref l] []) rfl]
  have h1 := PySem.F.called_set.notType; have h2 := PySem.F.called_set.canCreate
  have ct0 := PySem.F.typeCall_set_1 (.ref l)
  (repeat (any_goals (first | assumption | wp_step)))
  refine codeAny_mono (code_set_new_1 (.ref l) (E := E) (Q₁ := fun obj s₁ => ∃ ld : Bool, obj = .ref s.heap.objs.size ∧ s₁ = { s with heap := s.heap.push { cls := .type "set", dict := none, data := .set #[] 0 (.fresh 0 0 ld) } }) fun ld => ⟨ld, rfl, rfl⟩) fun r s₁ rr => ?_
  cases r with
  | error e => exact rr
  | ok fl =>
    cases fl with
    | ret obj =>
      obtain ⟨ld, rfl, rfl⟩ := rr
      have sS : (s.heap.push { cls := .type "set", dict := none, data := .set #[] 0 (.fresh 0 0 ld) }).get? s.heap.objs.size = some { cls := .type "set", dict := none, data := .set #[] 0 (.fresh 0 0 ld) } := Heap.get?_push_size _ rfl
      have tT : Shared.TypeIs { s with heap := s.heap.push { cls := .type "set", dict := none, data := .set #[] 0 (.fresh 0 0 ld) } } (.ref s.heap.objs.size) "set" := ⟨_, sS, rfl⟩
      have li0 := PySem.F.called_set.init.lookup
      have bi0 := PySem.F.called_set.init.bind (.ref s.heap.objs.size)
      (repeat (any_goals (first | assumption | wp_step)))
      refine codeAny_mono (codeAny_call_builtin (R := wants (fun r s₂ => r = .none ∧ ∃ h' tk0, s₂ = { s with heap := h', toks := tk0 } ∧
          h'.SetOf (PySem.strKind pg w) s.heap.objs.size (inS (du [] xs)) (du [] xs).length ∧
          (∀ b o, b < s.heap.objs.size → s.heap.get? b = some o → h'.get? b = some o)) E) PySem.F.called_set.init.plain PySem.F.entry_set_init (check_set_init_1 tT ?_)) fun r₂ s₂ hr₂ => ?_
      · obtain ⟨ob, at1, cls1, nl, dat1⟩ := isl
        obtain ⟨ocls, odict, odata, oslots⟩ := ob
        simp only at cls1 dat1
        subst cls1; subst dat1
        have at2 : (s.heap.push { cls := .type "set", dict := none, data := .set #[] 0 (.fresh 0 0 ld) }).get? l = some { cls := .type "list", dict := odict, data := .seq its nl, slots := oslots } := Heap.get?_push_of_some _ at1
        have no1 := PySem.F.sub_list_set
        have no2 := PySem.F.sub_list_frozenset
        have no3 : (Value.type "list" == Value.type "dict") = false := by decide
        have isl1 : (s.heap.push { cls := .type "set", dict := none, data := .set #[] 0 (.fresh 0 0 ld) }).IsList l its := ⟨_, at2, rfl, nl, rfl⟩
        unfold Builtin.«set.__init__» noKeywords Builtin.Frozenset.updateFrom
        generalize hPI : pyIter = PI
        wp_walk
        subst hPI
        refine wpAny_pyIter_list isl1 ?_
        refine wpAny_bind (wpAny_runValue ?_)
        have low : l < s.heap.objs.size := Heap.lt_size at1
        have cal3 : A.in1.in1.in1.handled = none := by simp [cal]
        have len0 : (s.heap.push { cls := .type "set", dict := none, data := .set #[] 0 (.fresh 0 0 ld) }).objs.size = s.heap.objs.size + 1 := Heap.size_push _ _
        have neI : l ≠ (s.heap.push { cls := .type "set", dict := none, data := .set #[] 0 (.fresh 0 0 ld) }).objs.size := by
          rw [len0]; exact Nat.ne_of_lt (Nat.lt_succ_of_lt low)
        have nf : s.heap.objs.size ∉ [(s.heap.push { cls := .type "set", dict := none, data := .set #[] 0 (.fresh 0 0 ld) }).objs.size, l] := by
          rw [len0]; simp only [List.mem_cons, List.mem_singleton, List.not_mem_nil, or_false, not_or]
          exact ⟨Nat.ne_of_lt (Nat.lt_succ_self _), Nat.ne_of_gt low⟩
        have lenx : xs.length = its.size := by rw [← StrsAre.len_eq are, Array.length_toList]
        have val1 : ∀ (i : Nat) (v : Value), its[i]? = some v → ∃ c t, xs[i]? = some c ∧ v = .str c t := fun i v hv => by
          obtain ⟨t, e⟩ := SS.strs_at are i v (by rw [Array.getElem?_toList]; exact hv)
          have lt0 : i < xs.length := by
            have := (Array.getElem?_eq_some_iff.mp hv).1
            omega
          refine ⟨xs[i], t, List.getElem?_eq_getElem lt0, ?_⟩
          rw [e, List.getD_eq_getElem?_getD, List.getElem?_eq_getElem lt0]
          rfl
        refine loopX ((Walks.list cal3 _ l neI its).toS) s.heap.objs.size nf xs lenx (by rw [← lenx]; exact hz) val1 (its.size - 0) 0 _ [] (by omega) (Nat.zero_le _) ⟨⟨_, Heap.get?_push_size _ rfl, rfl, rfl⟩, (isl1.push _)⟩ (Nat.le_refl _) ?hS0 ?fin
        case hS0 =>
          have got0 : ((s.heap.push { cls := .type "set", dict := none, data := .set #[] 0 (.fresh 0 0 ld) }).push { cls := .type "list_iterator", data := .fields #[.ref l, .int 0 0] }).get? s.heap.objs.size
              = some { cls := .type "set", dict := none, data := .set #[] 0 (.fresh 0 0 ld) } := Heap.get?_push_of_some _ sS
          exact PyProof.Rows.SetOf_congr ((PyProof.Rows.setObjOf_fresh (knd := PySem.strKind pg w) ld).setOf got0 (by unfold scanBound; omega)) (fun _ => rfl) rfl
        case fin =>
          intro s' mv sS'
          obtain ⟨h', g', d', tk0', os'⟩ := s'
          have g0 : g' = s.gens := mv.gens
          have d0 : d' = s.drawn := mv.drawn
          have o0 : os' = s.os := mv.os
          subst g0; subst d0; subst o0
          show wpAny _ _ _ _ _ _
          refine wpAny_pure ?_
          show wpAny _ _ (ret Value.none) _ _ _; refine wpAny_pure ⟨rfl, h', tk0', rfl, sS', fun b o' hb e => ?_⟩
          have nb1 : b ≠ s.heap.objs.size := Nat.ne_of_lt hb
          have nb2 : b ≠ (s.heap.push { cls := .type "set", dict := none, data := .set #[] 0 (.fresh 0 0 ld) }).objs.size := by
            rw [len0]; exact Nat.ne_of_lt (Nat.lt_succ_of_lt hb)
          exact mv.heap b o' (by simp only [List.mem_cons, List.mem_singleton, List.not_mem_nil, or_false, not_or]; exact ⟨nb1, nb2⟩) (Heap.get?_push_of_some _ (Heap.get?_push_of_some _ e))
      · cases r₂ with
        | error e => exact hr₂
        | ok fl₂ =>
          cases fl₂ with
          | ret r =>
            obtain ⟨rfl, h', tk0, rfl, sS', ek'⟩ := hr₂
            (repeat (any_goals (first | assumption | wp_step)))
            exact h _ _ sS' ek'
          | _ => exact hr₂.elim
    | _ => exact rr.elim
end
end SL
set_option Elab.async false
set_option linter.all false
set_option maxRecDepth 100000
set_option maxHeartbeats 4000000
namespace L2
open PySem PySem.Spec PyProof.Rows BX
/-- how many unlike texts -/
def nuL (xs : List Str) : Nat := (SL.du [] xs).length
theorem duL_len : ∀ (l sg : List Str), (SL.du sg l).length ≤ sg.length + l.length
  | [], sg => by show sg.length ≤ sg.length + 0; omega
  | c :: r, sg => by
    have h := duL_len r (if sg.contains c then sg else c :: sg)
    have h2 : (if sg.contains c then sg else c :: sg).length ≤ sg.length + 1 := by
      split
      · omega
      · rw [List.length_cons]
        omega
    show (SL.du (if sg.contains c then sg else c :: sg) r).length ≤ _
    rw [List.length_cons]
    omega
/-- all are the same -/
theorem nuL_same {x : Str} : ∀ {xs : List Str}, xs ≠ [] → (∀ y ∈ xs, y = x) → nuL xs = 1 := by
  have go : ∀ l : List Str, (∀ y ∈ l, y = x) → SL.du [x] l = [x] := by
    intro l
    induction l with
    | nil => intro _; rfl
    | cons c r ih =>
      intro h
      have e := h c List.mem_cons_self
      subst e
      show SL.du (if [c].contains c then [c] else [c, c]) r = _
      rw [if_pos (by simp)]
      exact ih fun y hy => h y (List.mem_cons_of_mem _ hy)
  intro xs ne h
  cases xs with
  | nil => exact absurd rfl ne
  | cons c r =>
    have e := h c List.mem_cons_self
    subst e
    show (SL.du (if ([] : List Str).contains c then [] else [c]) r).length = 1
    rw [if_neg (by simp), go r fun y hy => h y (List.mem_cons_of_mem _ hy)]
    rfl
def tLenSetL (K : PySem.W.Frag) (ta : TE) : TE := fun σ H Q => ta σ H fun x H1 => ∃ (l : Addr) (xs : List Str), x = .ref l ∧ SqL K H1 l (xs.map V.str) ∧ xs.length ≤ 4000 ∧ Q (.int (nuL xs : Nat)) H1
section
variable {X : Cx}
theorem pe_lenSetL {a : Expr} {ta : TE} {p p2 q pos : Pos} (hc : X.calm = true) (gg : Gl X "len") (mv : X.mg "len" = none) (gg2 : Gl X "set") (hm2 : X.mg "set" = none) (ha : PE X a ta)
    (na : starEach [a] X.env = (false, eval a X.env) :: starEach [] X.env := by rfl) : PE X (.Call (.Name "len" p) [.Call (.Name "set" p2) [a] [] q] [] pos) (tLenSetL X.K ta) := by
  refine ⟨fun pn s σ H Q I h => ?_⟩
  refine Call_ (ld_blt I gg mv boot_len ?_)
  refine PyProof.Rows.callWith_builtin1 (PyProof.Rows.args_cons ?_ rfl) rfl rfl; refine Call_ (ld_blt I gg2 hm2 boot_set ?_)
  refine PyProof.Rows.callWith_type1 (PyProof.Rows.args_cons (thn (ha.run pn s σ H _ I h) fun v s1 ⟨x, H1, I1, r1, q1⟩ => PyProof.Rows.args_nil ?_) na) na rfl
  obtain ⟨l, xs, rfl, sq, few, q1⟩ := q1
  cases r1
  obtain ⟨its, r, pl, hz⟩ := I1.list sq
  refine SL.call_set_texts (I1.ok.hd hc) pl.isList (by simpa using strsAre_of r) (by unfold scanBound; omega) fun h' tk0 sS ek => ?_
  refine PyProof.Rows.args_nil ?_; have hdl : (SL.du [] xs).length ≤ 4000 := by
    have h1 := duL_len xs []
    rw [List.length_nil] at h1
    omega
  obtain ⟨o, es, ep, t, ho, ex0, hd, _, _, _, ff0, en0⟩ := sS
  have I2 : Inv X pn σ H1 { s1 with heap := h', toks := tk0 } := I1.kept fun b o e => ek b o (Heap.lt_size e) e
  refine call_len_set ho ex0 hd ff0 (by rw [en0]; omega) ⟨.int (nuL xs : Nat), H1, I2.tok _, ⟨_, by rw [en0]; rfl⟩, q1⟩
end
theorem lenSetLK {X : Cx} (K : PySem.W.Frag) {a : Expr} {ta : TE} {p p2 q pos : Pos} (gg : Gl X "len") (mv : X.mg "len" = none) (gg2 : Gl X "set") (hm2 : X.mg "set" = none) (ha : PE X a ta) (hc : X.calm = true := by rfl) (hK : X.K = K := by rfl)
    (na : starEach [a] X.env = (false, eval a X.env) :: starEach [] X.env := by rfl) : PE X (.Call (.Name "len" p) [.Call (.Name "set" p2) [a] [] q] [] pos) (tLenSetL K ta) := by
  subst hK
  exact pe_lenSetL hc gg mv gg2 hm2 ha na
/-! ### d.setdefault(k, x) -/
def tSetDefB (P : Program) (w : World) (td ty tx : TE) : TE := fun σ H Q => td σ H fun x H1 => ∃ a kvs, x = .ref a ∧ DB P w H1 a kvs ∧ ty σ H1 fun y H2 => tx σ H2 fun z H3 => ∃ kvs b vs ks, DB P w H3 a kvs ∧ kvs.length ≤ 900 ∧ y = .ref b ∧ H3 b = some (.tup vs) ∧ kBs vs = some ks ∧
  (∀ r, valV kvs ks = some r → Q r H3) ∧ (valV kvs ks = none → ∀ H4, DB P w H4 a (putK kvs ks z) → (∀ c o, c ≠ a → H3 c = some o → H4 c = some o) → (∀ c, c ≠ a → H3 c = none → H4 c = none) → Q z H4)
theorem pe_setdefB {X : Cx} {o e f : Expr} {apos cpos : Pos} {td ty tx : TE} (hu : X.A.units + 1 < cLine) (ho : PE X o td) (he : PE X e ty) (hf : PE X f tx) (m : M2 X o "setdefault" apos e f cpos) :
    PE X (.Call (.Attribute o "setdefault" apos) [e, f] [] cpos) (tSetDefB X.prog X.w td ty tx) := by
  refine ⟨fun pins s σ H Q I h => ?_⟩
  refine wpAny_Call_method m.base m.few m.line PySem.F.plainAttrs_dict PySem.F.slot_dict_setdefault PySem.F.type_dict_setdefault (thn (ho.run pins s σ H _ I h) fun u s1 ⟨x, H1, I1, rx, a, kvs1, ex, ⟨xs1, ea, rel1, _⟩, q1⟩ => ?_)
  subst ex
  obtain rfl : u = Value.ref a := rx
  obtain ⟨dd1, _⟩ := dictOf_B I1.hok ea rel1
  refine ⟨dd1.typeIs, fun b q => ?_, ?_⟩
  · cases q
    obtain ⟨ob, _, _, z1, z2, _⟩ := dd1
    exact ⟨ob, z1, z2.2.1⟩
  rw [m.trees]
  refine Calls.callWith_builtin rfl (Calls.evalArgs_plain (Calls.spliced_cons (thn (he.run pins s1 σ H1 _ I1 q1) fun iv s2 ⟨y, H2, I2, ry, q2⟩ =>
    Calls.spliced_cons (thn (hf.run pins s2 σ H2 _ I2 q2) fun fv s3 ⟨z, H3, I3, rz, kvs, b, vs, ks, ⟨xs, eb, rel, lk⟩, few, ey, e1, e2, q3, q4⟩ => Calls.spliced_nil ?_))))
  subst ey
  cases (show iv = Value.ref b from ry)
  obtain ⟨dd, sm⟩ := dictOf_B I3.hok eb rel
  have fit : xs.length ≤ sizeLine := by
    rw [← Paired.length rel, sizeLine_eq]
    omega
  have rv := rel.val ks
  refine call_setdefault_heap (hsz := fit) (knd := tupleKind (bKind X.prog X.w)) (tupleKind_room_in1 hu) (key_B I3.hok e1 e2) sm dd (fun p hp => ?_) (fun hn h' dd' hs => ?_)
  · rw [hp] at rv
    cases hv : valV kvs ks with
    | none =>
      rw [hv] at rv
      exact rv.elim
    | some r =>
      rw [hv] at rv
      exact ⟨r, H3, I3.tok _, rv, q3 r hv⟩
  · rw [hn] at rv
    have hv : valV kvs ks = none := by
      cases hv : valV kvs ks with
      | none => rfl
      | some r =>
        rw [hv] at rv
        exact rv.elim
    obtain ⟨q, es, ep, hq, h2, h3, h4, _, h5⟩ := dd'
    have tups : ∀ c ys, H3 c = some (.tup ys) → upd H3 a (DBo X.prog X.w a (storedH xs ks b fv)) c = some (.tup ys) := fun c ys ec => by
      rw [upd_ne (ne_of ec eb (fun z => nomatch z))]
      exact ec
    refine ⟨z, _, d_write I3 (by rw [eb]; exact True.intro) hs ⟨q, hq⟩ (show ObjOk X.prog X.w _ h' a (DBo X.prog X.w a (storedH xs ks b fv)) from ⟨⟨⟨q, es, ep, hq, h2, h3, h4⟩, h5, sm⟩, ⟨q, hq⟩, fun g1 g2 x k => ⟨let ⟨⟨o, es, ep, k1, k2, k3, k4⟩, _, _⟩ := x; ⟨o, es, ep, k o k1, k2, k3, k4⟩, x.2⟩⟩), rz, ?_⟩
    refine q4 hv _ ⟨_, upd_same, (rel.put e1 e2 rz).keeps tups, ?_⟩ (fun c o hc ec => by rw [upd_ne hc]; exact ec) (fun c hc ec => by rw [upd_ne hc]; exact ec)
    have := length_putK kvs ks z
    omega
end L2
set_option Elab.async false
set_option linter.all false
set_option maxRecDepth 100000
set_option maxHeartbeats 4000000
namespace L2
open PySem PySem.Spec PyProof.Rows BX TL RZ
/-! ### for x in d.values() -/
def ItvB (d : Addr) (es : Array DictEntry) (eo : Nat) (vs : List V) : It :=
  ⟨fun i H => H d = some (DXo d es eo) ∧ i < vs.length, fun i H x H' => H' = H ∧ vs[i]? = some x, fun i H => H d = some (DXo d es eo) ∧ vs.length ≤ i⟩
theorem turn_valsX {P : Program} {w : World} {K : PySem.W.Frag} {tg : Expr} {d : Addr} {es : Array DictEntry} {eo : Nat} {vs : List V} (it : Addr) (r : Vals vs (es.toList.map (·.val))) :
    Turn P w K tg (ItvB d es eo vs) [it] it (fun i h => h.IsValIter it d i es.size eo) where
  mem := by simp
  obj := fun i h st b hb => by
    have e : b = it := (by simpa using hb)
    subst e
    obtain ⟨oi, at_, c, dd⟩ := st; exact ⟨oi, at_, fun v z => by rw [dd] at z; cases z⟩
  keep := fun i h h' st k => st.at fun oi e => k it (by simp) oi e
  item := by
    intro X hP hw hK hc i pn s σ H E I fp0 st hg
    subst hP hw hK
    obtain ⟨hd, wi⟩ := hg
    obtain ⟨y0, y1, y2, y3, y4, y5⟩ := fp0 it (by simp)
    have mm := dxo_at I hd
    obtain ⟨x, ex⟩ : ∃ x, vs[i]? = some x := ⟨vs[i], List.getElem?_eq_getElem wi⟩
    obtain ⟨u, eu, rx⟩ := r.get ex
    rw [List.getElem?_map, Array.getElem?_toList] at eu
    obtain ⟨en, hen, rfl⟩ := Option.map_eq_some_iff.mp eu
    obtain ⟨lt, een⟩ := Array.getElem?_eq_some_iff.mp hen
    refine wpAny_pyNext_values_item_raw st mm lt fun h' st' same1 => ?_
    have I1 : Inv X pn σ H { s with heap := h' } := I.turned (t' := s.toks) (fun b ob hb e => (same1.2 b hb).trans e) y0 y1 y3 y4 y5
    obtain ⟨oi, e, c, dd⟩ := id st'
    exact ⟨es[i].val, rfl, go_of (s := { s with heap := h' }) e c dd (by decide) ⟨x, H, I1, by rw [een]; exact rx, ⟨rfl, ex⟩, st', fun b hb => (fp0 b hb).1⟩⟩
  done := by
    intro X hP hw hK hc i pn s σ H E I fp0 st hg
    subst hP hw hK
    obtain ⟨hd, wi⟩ := hg
    obtain ⟨y0, y1, y2, y3, y4, y5⟩ := fp0 it (by simp)
    have mm := dxo_at I hd
    have len1 : vs.length = es.size := by rw [r.length, List.length_map, Array.length_toList]
    exact wpAny_pyNext_values_end_raw (I.ok.hd hc) st mm (by omega) fun h' eb => ⟨rfl, I.turned (t' := s.toks) (fun b ob hb e => eb b ob hb e) y0 y1 y3 y4 y5⟩
  self := fun A i s Q E st h => wpAny_pyIter_valiter st h
def iValsB (P : Program) (w : World) (td : TE) : TI := fun σ H R => td σ H fun x H1 => ∃ d kvs, x = .ref d ∧ DB P w H1 d kvs ∧ ∀ es eo, R (ItvB d es eo (kvs.map (·.2))) (upd H1 d (DXo d es eo))
theorem vals_B {P : Program} {w : World} {H : Hp} : ∀ {kvs : List (List Key × V)} {xs : List XB}, KB H kvs xs → Vals (kvs.map (·.2)) ((xs.map (entryOfKey (tupleKind (bKind P w)))).map (·.val))
  | _, _, .nil => .nil
  | _, _, .cons h t => .cons h.2.2 (vals_B t)
theorem pi_valuesB {X : Cx} {tg e : Expr} {td : TE} {apos cpos : Pos} (he : PE X e td) (base0 : attributeBase e "values" X.env (eval e X.env) = eval e X.env := by rfl) (line0 : (apos.endLine == cpos.line) = true := by rfl) :
    PI X tg (.Call (.Attribute e "values" apos) [] [] cpos) (iValsB X.prog X.w td) := by
  refine ⟨fun pn s σ H R I h => ?_⟩
  refine wpAny_Call_method (T := "dict") (id := "dict.values") base0 rfl line0 F.plainAttrs_dict F.slot_dict_values F.type_dict_values (thn (he.run pn s σ H _ I h) fun u s1 ⟨x, H1, I1, rx, d, kvs, ex, ⟨xs, ed, rel, lk⟩, q⟩ => ?_)
  subst ex
  obtain rfl : u = Value.ref d := rx
  obtain ⟨⟨⟨o, es, eo, at1, exd, dat1, ents1⟩, nd, sm⟩, _, _⟩ := (show ObjOk X.prog X.w H1 s1.heap d (DBo X.prog X.w d xs) from I1.hok d _ ed)
  have raw : s1.heap.DictRaw d es eo := ⟨o, at1, exd, dat1⟩
  have Ix : Inv X pn σ (upd H1 d (DXo d es eo)) s1 := d_write (t' := s1.toks) I1 (by rw [ed]; exact True.intro) (Heap.SameBut.refl _ _) ⟨o, at1⟩ (show ObjOk X.prog X.w _ s1.heap d (DXo d es eo) from ⟨⟨raw, sm⟩, ⟨o, at1⟩, fun h1 h2 x k => ⟨DT.Raw.at' x.1 k, x.2⟩⟩)
  have I2 : Inv X pn σ (upd H1 d (DXo d es eo)) { s1 with heap := s1.heap.push { cls := .type "dict_values", data := .fields #[.ref d] } } := Ix.kept (t' := s1.toks) fun b ob q => Heap.get?_push_of_some _ q
  have r : Vals (kvs.map (·.2)) (es.toList.map (·.val)) := by
    rw [ents1]
    exact vals_B rel
  have fin : wpAny (model X.prog X.w) X.A (pyIter (.ref s1.heap.objs.size)) (PIE X pn σ tg R) X.xe { s1 with heap := s1.heap.push { cls := .type "dict_values", data := .fields #[.ref d] } } := by
    refine wpAny_pyIter_values_raw (d := d) (es := es) (ep := eo) ⟨_, Heap.get?_push_size _ rfl, rfl, rfl⟩ ⟨o, Heap.get?_push_of_some _ at1, exd, dat1⟩ (pi_one (tk := s1.toks) I2 _ (turn_valsX _ r) ⟨_, Heap.get?_push_size _ rfl, rfl, ?_⟩ (q es eo))
    rfl
  refine ⟨raw.typeIs, fun a e => by cases e; exact ⟨o, at1, exd.2.1⟩, ?_⟩
  show wpAny _ _ (callWith cpos (.builtin "dict.values") [.ref d] [] []) _ X.xe s1
  exact method_meetsIn F.slot_dict_values F.entry_dict_values rfl (PySem.evalArgs_none ⟨rfl, raw.typeIs, F.args_dict_values_1 _, _, meets_dict_values_raw d sm, ⟨⟨es, eo, raw⟩, fin⟩⟩)
theorem walk_V {d : Addr} {es : Array DictEntry} {eo : Nat} {vs : List V} : Walk (ItvB d es eo vs) vs.length (fun H => H d = some (DXo d es eo)) (fun i H x H' => H' = H ∧ x = vs.getD i .non) :=
  ⟨fun i H hi g => ⟨g, hi⟩, fun H g => ⟨g, Nat.le_refl _⟩, fun i H x H' hi g y => ⟨y.1, by rw [List.getD_eq_getElem?_getD, y.2]; rfl⟩⟩
/-! ### zip of two lists -/
theorem walk_ZL {K : PySem.W.Frag} {a b : Addr} {xs ys : List V} (l : xs.length = ys.length) : Walk (Itz K a b) xs.length (fun H => SqL K H a xs ∧ SqL K H b ys) (fun i H v H' => ∃ T : Addr, v = .ref T ∧ H T = none ∧ H' = upd H T (.tup [xs.getD i .non, ys.getD i .non])) :=
  ⟨fun i H hi g => ⟨xs, ys, xs[i], ys[i], g.1, g.2, List.getElem?_eq_getElem hi, List.getElem?_eq_getElem (by omega)⟩, fun H g => ⟨xs, ys, g.1, g.2, .inl (Nat.le_refl _)⟩, fun i H v H' hi g y => by
    obtain ⟨T, x, y', rfl, hT, rfl, h1, h2⟩ := y
    refine ⟨T, rfl, hT, ?_⟩
    rw [List.getD_eq_getElem?_getD, List.getD_eq_getElem?_getD, h1 _ g.1, h2 _ g.2]
    rfl⟩
section
variable {K : PySem.W.Frag} {σ : St} {H : Hp} {g : TG} {tt : TT} {te td : TE} {vs : List Nat} {t : TA} {Q : VK} {tb : TS} {D : Ends} {P : Program} {w : World}
def onZL (K : PySem.W.Frag) (vs : List V) (H : Hp) (R : It → Hp → Prop) : Prop := ∃ a b xs ys, vs = [.ref a, .ref b] ∧ ((SqL K H a xs ∧ SqL K H b ys ∧ R (Itz K a b) H) ∨ (SqT K H a xs ∧ SqT K H b ys ∧ R (ItzT K a b) H))
theorem k_lcZL (k : t σ H fun v H1 => onZL K v H1 (lcOn g tt te vs σ Q)) : tLc (iZipA K t) g tt te vs σ H Q := k
theorem k_onZL {a b : Addr} {xs ys : List V} {R : It → Hp → Prop} (h1 : SqL K H a xs) (h2 : SqL K H b ys) (k : R (Itz K a b) H) : onZL K [.ref a, .ref b] H R := ⟨a, b, xs, ys, rfl, .inl ⟨h1, h2, k⟩⟩
def onVB (P : Program) (w : World) (v : V) (H : Hp) (R : It → Hp → Prop) : Prop := ∃ d kvs, v = .ref d ∧ DB P w H d kvs ∧ ∀ es eo, R (ItvB d es eo (kvs.map (·.2))) (upd H d (DXo d es eo))
theorem k_forVB (k : td σ H fun v H1 => onVB P w v H1 (forOn g tb D σ)) : tFor (iValsB P w td) g tb D σ H := k
theorem k_lenSetL (k : td σ H fun x H1 => ∃ (l : Addr) (xs : List Str), x = .ref l ∧ SqL K H1 l (xs.map V.str) ∧ xs.length ≤ 4000 ∧ Q (.int (nuL xs : Nat)) H1) : tLenSetL K td σ H Q := k
theorem k_setdefB {ty tx : TE} (k : td σ H fun x H1 => ∃ a kvs, x = .ref a ∧ DB P w H1 a kvs ∧ ty σ H1 fun y H2 => tx σ H2 fun z H3 => ∃ kvs b vs ks, DB P w H3 a kvs ∧ kvs.length ≤ 900 ∧ y = .ref b ∧ H3 b = some (.tup vs) ∧ kBs vs = some ks ∧
  (∀ r, valV kvs ks = some r → Q r H3) ∧ (valV kvs ks = none → ∀ H4, DB P w H4 a (putK kvs ks z) → (∀ c o, c ≠ a → H3 c = some o → H4 c = some o) → (∀ c, c ≠ a → H3 c = none → H4 c = none) → Q z H4)) : tSetDefB P w td ty tx σ H Q := k
end
/-- the loop's list -/
theorem zipAK {X : Cx} (K : PySem.W.Frag) {e e2 : Expr} {ta : TA} {p pos tpos : Pos} {elts : List Expr} {kk : Nat} (hg : Gl X "zip") (hm : X.mg "zip" = none) (ha : PA X [e, e2] ta) (hK : X.K = K := by rfl)
    (hs : starEach [e, e2] X.env = (false, eval e X.env) :: starEach [e2] X.env := by rfl) (hpl : (backTo pos (starEach [e2] X.env)).any (·.1) = false := by rfl) :
    PI X (.Tuple elts kk tpos) (.Call (.Name "zip" p) [e, e2] [] pos) (iZipA K ta) := by
  subst hK
  exact pi_zipA hg hm ha hs hpl
/-! ### a text so many times, any text -/
theorem mulOk {x : Str} {n : Nat} (h : x.length ≤ 1000) (hn : n ≤ 1000) : MulOk x (n : Int) := by
  refine ⟨?_, fun h1 h2 => ?_, fun h1 h2 => ?_⟩
  · rw [decide_eq_false (by omega), decide_eq_false (by omega)]
    rfl
  · have : (1000 : Int) ≤ (2 ^ 63 - 1) / n := by
      refine Int.le_ediv_of_mul_le (by omega) ?_
      omega
    omega
  · refine decide_eq_false ?_
    rw [sizeLine_eq, Int.toNat_natCast]
    have := Nat.mul_le_mul h hn
    omega
theorem tl_mulG {x : Str} {n : Nat} : tl (PySem.Txt.mul x (n : Int)) = (List.replicate n (tl x)).flatten := by
  have go : ∀ (n : Nat) (a : Array Nat), (List.foldl (fun x y => x ++ y) a (List.replicate n x.cps)).toList = a.toList ++ (List.replicate n (tl x)).flatten := by
    intro n
    induction n with
    | zero => intro a; simp
    | succ n ih =>
      intro a
      rw [List.replicate_succ, List.foldl_cons, ih, Array.toList_append, List.append_assoc, List.replicate_succ, List.flatten_cons]
  unfold PySem.Txt.mul
  split
  · rename_i h
    have e : n = 0 := by omega
    subst e
    rfl
  · split
    · rename_i h1 h2
      simp only [Bool.or_eq_true, beq_iff_eq] at h2
      rcases h2 with h2 | h2
      · have e : n = 1 := by omega
        subst e
        simp
      · have e0 : tl x = [] := by
          have : (tl x).length = 0 := by
            show x.cps.toList.length = 0
            rw [Array.length_toList]
            exact h2
          exact List.length_eq_zero_iff.mp this
        rw [e0]
        simp
    · have := go n #[]
      rw [Int.toNat_natCast]
      simpa using this
end L2
set_option Elab.async false
set_option linter.all false
set_option maxRecDepth 100000
set_option maxHeartbeats 4000000
namespace K91
open PySem PySem.Spec PyProof.Rows L2
theorem sc_is_list : FnScope ["thing"] ["thing"] (defScope s_is_list) := ⟨rfl, rfl, rfl, by decide +kernel, rfl, by decide +kernel, by decide +kernel⟩
theorem sc_is_number : FnScope ["thing"] ["thing"] (defScope s_is_number) := ⟨rfl, rfl, rfl, by decide +kernel, rfl, by decide +kernel, by decide +kernel⟩
theorem sc_is_text_of : FnScope ["thing", "letters", "letter"] ["thing", "letters"] (defScope s_is_text_of) := ⟨rfl, rfl, rfl, by decide +kernel, rfl, by decide +kernel, by decide +kernel⟩
theorem sc_is_choice_of : FnScope ["thing", "letters"] ["thing", "letters"] (defScope s_is_choice_of) := ⟨rfl, rfl, rfl, by decide +kernel, rfl, by decide +kernel, by decide +kernel⟩
theorem sc_is_word_of : FnScope ["thing", "letters"] ["thing", "letters"] (defScope s_is_word_of) := ⟨rfl, rfl, rfl, by decide +kernel, rfl, by decide +kernel, by decide +kernel⟩
theorem sc_check_letters : FnScope ["letters"] ["letters"] (defScope s_check_letters) := ⟨rfl, rfl, rfl, by decide +kernel, rfl, by decide +kernel, by decide +kernel⟩
theorem sc_check_vowels : FnScope ["vowels", "letters"] ["vowels", "letters"] (defScope s_check_vowels) := ⟨rfl, rfl, rfl, by decide +kernel, rfl, by decide +kernel, by decide +kernel⟩
theorem sc_check_text : FnScope ["text", "letters"] ["text", "letters"] (defScope s_check_text) := ⟨rfl, rfl, rfl, by decide +kernel, rfl, by decide +kernel, by decide +kernel⟩
theorem sc_is_condition : FnScope ["thing"] ["thing"] (defScope s_is_condition) := ⟨rfl, rfl, rfl, by decide +kernel, rfl, by decide +kernel, by decide +kernel⟩
theorem sc_is_met : FnScope ["condition", "rest", "vowels"] ["condition", "rest", "vowels"] (defScope s_is_met) := ⟨rfl, rfl, rfl, by decide +kernel, rfl, by decide +kernel, by decide +kernel⟩
theorem sc_plain_condition : FnScope ["condition"] ["condition"] (defScope s_plain_condition) := ⟨rfl, rfl, rfl, by decide +kernel, rfl, by decide +kernel, by decide +kernel⟩
theorem sc_has_vowel : FnScope ["text", "vowels", "vowel"] ["text", "vowels"] (defScope s_has_vowel) := ⟨rfl, rfl, rfl, by decide +kernel, rfl, by decide +kernel, by decide +kernel⟩
theorem sc_count_runs : FnScope ["text", "vowels", "count", "at"] ["text", "vowels"] (defScope s_count_runs) := ⟨rfl, rfl, rfl, by decide +kernel, rfl, by decide +kernel, by decide +kernel⟩
theorem sc_is_plain : FnScope ["thing", "kind", "value", "text"] ["thing"] (defScope s_is_plain) := ⟨rfl, rfl, rfl, by decide +kernel, rfl, by decide +kernel, by decide +kernel⟩
theorem sc_is_plain_met : FnScope ["condition", "rest", "vowels", "kind", "value", "text"] ["condition", "rest", "vowels"] (defScope s_is_plain_met) := ⟨rfl, rfl, rfl, by decide +kernel, rfl, by decide +kernel, by decide +kernel⟩
theorem sc_ends_double : FnScope ["rest", "vowels"] ["rest", "vowels"] (defScope s_ends_double) := ⟨rfl, rfl, rfl, by decide +kernel, rfl, by decide +kernel, by decide +kernel⟩
theorem sc_has_shape : FnScope ["rest", "shape", "vowels", "last", "letter", "sign"] ["rest", "shape", "vowels"] (defScope s_has_shape) := ⟨rfl, rfl, rfl, by decide +kernel, rfl, by decide +kernel, by decide +kernel⟩
theorem sc_bounds_of : FnScope ["steps", "exceptions", "plain", "step", "rule", "condition"] ["steps", "exceptions"] (defScope s_bounds_of) := ⟨rfl, rfl, rfl, by decide +kernel, rfl, by decide +kernel, by decide +kernel⟩
theorem sc_sight_of : FnScope ["text", "vowels", "bounds", "runs", "letters", "last"] ["text", "vowels", "bounds"] (defScope s_sight_of) := ⟨rfl, rfl, rfl, by decide +kernel, rfl, by decide +kernel, by decide +kernel⟩
theorem sc_plain_conditions : FnScope ["steps", "plain", "step", "rule", "condition"] ["steps"] (defScope s_plain_conditions) := ⟨rfl, rfl, rfl, by decide +kernel, rfl, by decide +kernel, by decide +kernel⟩
theorem sc_longest_measures : FnScope ["texts", "text"] ["texts"] (defScope s_longest_measures) := ⟨rfl, rfl, rfl, by decide +kernel, rfl, by decide +kernel, by decide +kernel⟩
theorem sc_greatest_number : FnScope ["plain", "kind", "condition"] ["plain", "kind"] (defScope s_greatest_number) := ⟨rfl, rfl, rfl, by decide +kernel, rfl, by decide +kernel, by decide +kernel⟩
theorem sc_letters_seen : FnScope ["condition", "kind"] ["condition"] (defScope s_letters_seen) := ⟨rfl, rfl, rfl, by decide +kernel, rfl, by decide +kernel, by decide +kernel⟩
theorem sc_check_mode : FnScope ["mode"] ["mode"] (defScope s_check_mode) := ⟨rfl, rfl, rfl, by decide +kernel, rfl, by decide +kernel, by decide +kernel⟩
theorem sc_texts_of_rule : FnScope ["rule", "texts", "condition", "plain"] ["rule"] (defScope s_texts_of_rule) := ⟨rfl, rfl, rfl, by decide +kernel, rfl, by decide +kernel, by decide +kernel⟩
theorem sc_rule_fits : FnScope ["rule", "letters", "text"] ["rule", "letters"] (defScope s_rule_fits) := ⟨rfl, rfl, rfl, by decide +kernel, rfl, by decide +kernel, by decide +kernel⟩
theorem sc_check_conditions : FnScope ["conditions", "place", "condition"] ["conditions"] (defScope s_check_conditions) := ⟨rfl, rfl, rfl, by decide +kernel, rfl, by decide +kernel, by decide +kernel⟩
theorem sc_check_rules : FnScope ["rules", "place", "rule"] ["rules"] (defScope s_check_rules) := ⟨rfl, rfl, rfl, by decide +kernel, rfl, by decide +kernel, by decide +kernel⟩
theorem sc_check_endings : FnScope ["rules", "seen", "rule"] ["rules"] (defScope s_check_endings) := ⟨rfl, rfl, rfl, by decide +kernel, rfl, by decide +kernel, by decide +kernel⟩
theorem sc_step_at : FnScope ["step", "text", "vowels", "number", "rule", "rest", "condition"] ["step", "text", "vowels"] (defScope s_step_at) := ⟨rfl, rfl, rfl, by decide +kernel, rfl, by decide +kernel, by decide +kernel⟩
theorem sc_rules_to_try : FnScope ["step", "text", "standing", "number", "rule"] ["step", "text"] (defScope s_rules_to_try) := ⟨rfl, rfl, rfl, by decide +kernel, rfl, by decide +kernel, by decide +kernel⟩
theorem sc_longest_stepping : FnScope ["rules", "standing", "longest", "number"] ["rules", "standing"] (defScope s_longest_stepping) := ⟨rfl, rfl, rfl, by decide +kernel, rfl, by decide +kernel, by decide +kernel⟩
theorem sc_check_steps : FnScope ["steps", "letters", "place", "step", "rule"] ["steps", "letters"] (defScope s_check_steps) := ⟨rfl, rfl, rfl, by decide +kernel, rfl, by decide +kernel, by decide +kernel⟩
theorem sc_check_exceptions : FnScope ["exceptions", "letters", "word", "stem"] ["exceptions", "letters"] (defScope s_check_exceptions) := ⟨rfl, rfl, rfl, by decide +kernel, rfl, by decide +kernel, by decide +kernel⟩
theorem sc_law_mixed : FnScope ["cell", "k", "stirred"] ["cell", "k"] (defScope s_law_mixed) := ⟨rfl, rfl, rfl, by decide +kernel, rfl, by decide +kernel, by decide +kernel⟩
theorem sc_law_purse : FnScope ["cells", "at", "cell"] ["cells", "at"] (defScope s_law_purse) := ⟨rfl, rfl, rfl, by decide +kernel, rfl, by decide +kernel, by decide +kernel⟩
theorem sc_law_draw : FnScope ["purse", "out_of", "drawn"] ["purse", "out_of"] (defScope s_law_draw) := ⟨rfl, rfl, rfl, by decide +kernel, rfl, by decide +kernel, by decide +kernel⟩
theorem sc_law_text : FnScope ["purse", "signs", "least", "top", "many", "turn"] ["purse", "signs", "least", "top"] (defScope s_law_text) := ⟨rfl, rfl, rfl, by decide +kernel, rfl, by decide +kernel, by decide +kernel⟩
theorem sc_law_condition : FnScope ["purse", "signs", "texts", "shape", "some", "found", "turn"] ["purse", "signs"] (defScope s_law_condition) := ⟨rfl, rfl, rfl, by decide +kernel, rfl, by decide +kernel, by decide +kernel⟩
theorem sc_law_rule : FnScope ["purse", "signs", "lots", "turn"] ["purse", "signs"] (defScope s_law_rule) := ⟨rfl, rfl, rfl, by decide +kernel, rfl, by decide +kernel, by decide +kernel⟩
theorem sc_law_step : FnScope ["purse", "signs", "top", "found", "how", "turn", "one", "one_rule"] ["purse", "signs", "top"] (defScope s_law_step) := ⟨rfl, rfl, rfl, by decide +kernel, rfl, by decide +kernel, by decide +kernel⟩
theorem sc_law_made_step : FnScope ["raw", "one"] ["raw"] (defScope s_law_made_step) := ⟨rfl, rfl, rfl, by decide +kernel, rfl, by decide +kernel, by decide +kernel⟩
theorem sc_law_made : FnScope ["raw", "one"] ["raw"] (defScope s_law_made) := ⟨rfl, rfl, rfl, by decide +kernel, rfl, by decide +kernel, by decide +kernel⟩
theorem sc_law_names : FnScope ["purse", "signs", "letter"] ["purse"] (defScope s_law_names) := ⟨rfl, rfl, rfl, by decide +kernel, rfl, by decide +kernel, by decide +kernel⟩
theorem sc_law_stemmer : FnScope ["purse", "names", "turn", "parts", "known"] ["purse", "names"] (defScope s_law_stemmer) := ⟨rfl, rfl, rfl, by decide +kernel, rfl, by decide +kernel, by decide +kernel⟩
theorem sc_law_longer : FnScope ["purse", "text", "signs", "place", "more"] ["purse", "text", "signs"] (defScope s_law_longer) := ⟨rfl, rfl, rfl, by decide +kernel, rfl, by decide +kernel, by decide +kernel⟩
theorem sc_law_right : FnScope ["purse", "names", "made", "bounds", "lots", "text", "turn", "met", "longer", "again", "ending", "told", "stem"] ["purse"] (defScope s_law_right) := ⟨rfl, rfl, rfl, by decide +kernel, rfl, by decide +kernel, by decide +kernel⟩
theorem sc_law : FnScope ["script", "at", "purse", "turn", "made", "text"] ["script"] (defScope s_law) := ⟨rfl, rfl, rfl, by decide +kernel, rfl, by decide +kernel, by decide +kernel⟩
theorem sc_InvalidLetters_init : FnScope ["self", "thing"] ["self", "thing"] (defScope s_InvalidLetters_init) := ⟨rfl, rfl, rfl, by decide +kernel, rfl, by decide +kernel, by decide +kernel⟩
theorem sc_InvalidVowels_init : FnScope ["self", "thing"] ["self", "thing"] (defScope s_InvalidVowels_init) := ⟨rfl, rfl, rfl, by decide +kernel, rfl, by decide +kernel, by decide +kernel⟩
theorem sc_InvalidText_init : FnScope ["self", "thing"] ["self", "thing"] (defScope s_InvalidText_init) := ⟨rfl, rfl, rfl, by decide +kernel, rfl, by decide +kernel, by decide +kernel⟩
theorem sc_InvalidConditions_init : FnScope ["self", "place"] ["self", "place"] (defScope s_InvalidConditions_init) := ⟨rfl, rfl, rfl, by decide +kernel, rfl, by decide +kernel, by decide +kernel⟩
theorem sc_InvalidRules_init : FnScope ["self", "place"] ["self", "place"] (defScope s_InvalidRules_init) := ⟨rfl, rfl, rfl, by decide +kernel, rfl, by decide +kernel, by decide +kernel⟩
theorem sc_InvalidMode_init : FnScope ["self", "thing"] ["self", "thing"] (defScope s_InvalidMode_init) := ⟨rfl, rfl, rfl, by decide +kernel, rfl, by decide +kernel, by decide +kernel⟩
theorem sc_SameEnding_init : FnScope ["self", "ending"] ["self", "ending"] (defScope s_SameEnding_init) := ⟨rfl, rfl, rfl, by decide +kernel, rfl, by decide +kernel, by decide +kernel⟩
theorem sc_InvalidSteps_init : FnScope ["self", "place"] ["self", "place"] (defScope s_InvalidSteps_init) := ⟨rfl, rfl, rfl, by decide +kernel, rfl, by decide +kernel, by decide +kernel⟩
theorem sc_InvalidExceptions_init : FnScope ["self", "word"] ["self", "word"] (defScope s_InvalidExceptions_init) := ⟨rfl, rfl, rfl, by decide +kernel, rfl, by decide +kernel, by decide +kernel⟩
theorem sc_Rule_init : FnScope ["self", "ending", "put", "conditions"] ["self", "ending", "put", "conditions"] (defScope s_Rule_init) := ⟨rfl, rfl, rfl, by decide +kernel, rfl, by decide +kernel, by decide +kernel⟩
theorem sc_Rule_ending : FnScope ["self"] ["self"] (defScope s_Rule_ending) := ⟨rfl, rfl, rfl, by decide +kernel, rfl, by decide +kernel, by decide +kernel⟩
theorem sc_Rule_put : FnScope ["self"] ["self"] (defScope s_Rule_put) := ⟨rfl, rfl, rfl, by decide +kernel, rfl, by decide +kernel, by decide +kernel⟩
theorem sc_Rule_conditions : FnScope ["self"] ["self"] (defScope s_Rule_conditions) := ⟨rfl, rfl, rfl, by decide +kernel, rfl, by decide +kernel, by decide +kernel⟩
theorem sc_Step_init : FnScope ["self", "rules", "mode"] ["self", "rules", "mode"] (defScope s_Step_init) := ⟨rfl, rfl, rfl, by decide +kernel, rfl, by decide +kernel, by decide +kernel⟩
theorem sc_Step_rules : FnScope ["self"] ["self"] (defScope s_Step_rules) := ⟨rfl, rfl, rfl, by decide +kernel, rfl, by decide +kernel, by decide +kernel⟩
theorem sc_Step_mode : FnScope ["self"] ["self"] (defScope s_Step_mode) := ⟨rfl, rfl, rfl, by decide +kernel, rfl, by decide +kernel, by decide +kernel⟩
theorem sc_Stemmer_init : FnScope ["self", "letters", "vowels", "steps", "exceptions", "letter"] ["self", "letters", "vowels", "steps", "exceptions"] (defScope s_Stemmer_init) := ⟨rfl, rfl, rfl, by decide +kernel, rfl, by decide +kernel, by decide +kernel⟩
theorem sc_Stemmer_stem : FnScope ["self", "word", "text", "step", "_"] ["self", "word"] (defScope s_Stemmer_stem) := ⟨rfl, rfl, rfl, by decide +kernel, rfl, by decide +kernel, by decide +kernel⟩
theorem sc_Stemmer_sight : FnScope ["self", "word"] ["self", "word"] (defScope s_Stemmer_sight) := ⟨rfl, rfl, rfl, by decide +kernel, rfl, by decide +kernel, by decide +kernel⟩
theorem sc_Stemmer_bounds : FnScope ["self"] ["self"] (defScope s_Stemmer_bounds) := ⟨rfl, rfl, rfl, by decide +kernel, rfl, by decide +kernel, by decide +kernel⟩
structure Txt (K : PySem.W.Frag) (mg : Str → Option Value) where
  a_is_list : Addr
  fd_is_list : FuncData
  F_is_list : Fun K "is_list" "is_list" s_is_list a_is_list fd_is_list
  m_is_list : mg "is_list" = some (.ref a_is_list)
  b_is_list : Binds K fd_is_list ["thing"] []
  a_is_number : Addr
  fd_is_number : FuncData
  F_is_number : Fun K "is_number" "is_number" s_is_number a_is_number fd_is_number
  m_is_number : mg "is_number" = some (.ref a_is_number)
  b_is_number : Binds K fd_is_number ["thing"] []
  a_is_text_of : Addr
  fd_is_text_of : FuncData
  F_is_text_of : Fun K "is_text_of" "is_text_of" s_is_text_of a_is_text_of fd_is_text_of
  m_is_text_of : mg "is_text_of" = some (.ref a_is_text_of)
  b_is_text_of : Binds K fd_is_text_of ["thing", "letters"] []
  a_is_choice_of : Addr
  fd_is_choice_of : FuncData
  F_is_choice_of : Fun K "is_choice_of" "is_choice_of" s_is_choice_of a_is_choice_of fd_is_choice_of
  m_is_choice_of : mg "is_choice_of" = some (.ref a_is_choice_of)
  b_is_choice_of : Binds K fd_is_choice_of ["thing", "letters"] []
  a_is_word_of : Addr
  fd_is_word_of : FuncData
  F_is_word_of : Fun K "is_word_of" "is_word_of" s_is_word_of a_is_word_of fd_is_word_of
  m_is_word_of : mg "is_word_of" = some (.ref a_is_word_of)
  b_is_word_of : Binds K fd_is_word_of ["thing", "letters"] []
  a_check_letters : Addr
  fd_check_letters : FuncData
  F_check_letters : Fun K "check_letters" "check_letters" s_check_letters a_check_letters fd_check_letters
  m_check_letters : mg "check_letters" = some (.ref a_check_letters)
  b_check_letters : Binds K fd_check_letters ["letters"] []
  a_check_vowels : Addr
  fd_check_vowels : FuncData
  F_check_vowels : Fun K "check_vowels" "check_vowels" s_check_vowels a_check_vowels fd_check_vowels
  m_check_vowels : mg "check_vowels" = some (.ref a_check_vowels)
  b_check_vowels : Binds K fd_check_vowels ["vowels", "letters"] []
  a_check_text : Addr
  fd_check_text : FuncData
  F_check_text : Fun K "check_text" "check_text" s_check_text a_check_text fd_check_text
  m_check_text : mg "check_text" = some (.ref a_check_text)
  b_check_text : Binds K fd_check_text ["text", "letters"] []
  a_is_condition : Addr
  fd_is_condition : FuncData
  F_is_condition : Fun K "is_condition" "is_condition" s_is_condition a_is_condition fd_is_condition
  m_is_condition : mg "is_condition" = some (.ref a_is_condition)
  b_is_condition : Binds K fd_is_condition ["thing"] []
  a_is_met : Addr
  fd_is_met : FuncData
  F_is_met : Fun K "is_met" "is_met" s_is_met a_is_met fd_is_met
  m_is_met : mg "is_met" = some (.ref a_is_met)
  b_is_met : Binds K fd_is_met ["condition", "rest", "vowels"] []
  a_plain_condition : Addr
  fd_plain_condition : FuncData
  F_plain_condition : Fun K "plain_condition" "plain_condition" s_plain_condition a_plain_condition fd_plain_condition
  m_plain_condition : mg "plain_condition" = some (.ref a_plain_condition)
  b_plain_condition : Binds K fd_plain_condition ["condition"] []
  a_has_vowel : Addr
  fd_has_vowel : FuncData
  F_has_vowel : Fun K "has_vowel" "has_vowel" s_has_vowel a_has_vowel fd_has_vowel
  m_has_vowel : mg "has_vowel" = some (.ref a_has_vowel)
  b_has_vowel : Binds K fd_has_vowel ["text", "vowels"] []
  a_count_runs : Addr
  fd_count_runs : FuncData
  F_count_runs : Fun K "count_runs" "count_runs" s_count_runs a_count_runs fd_count_runs
  m_count_runs : mg "count_runs" = some (.ref a_count_runs)
  b_count_runs : Binds K fd_count_runs ["text", "vowels"] []
  a_is_plain : Addr
  fd_is_plain : FuncData
  F_is_plain : Fun K "_is_plain" "_is_plain" s_is_plain a_is_plain fd_is_plain
  m_is_plain : mg "_is_plain" = some (.ref a_is_plain)
  b_is_plain : Binds K fd_is_plain ["thing"] []
  a_is_plain_met : Addr
  fd_is_plain_met : FuncData
  F_is_plain_met : Fun K "_is_plain_met" "_is_plain_met" s_is_plain_met a_is_plain_met fd_is_plain_met
  m_is_plain_met : mg "_is_plain_met" = some (.ref a_is_plain_met)
  b_is_plain_met : Binds K fd_is_plain_met ["condition", "rest", "vowels"] []
  a_ends_double : Addr
  fd_ends_double : FuncData
  F_ends_double : Fun K "_ends_double" "_ends_double" s_ends_double a_ends_double fd_ends_double
  m_ends_double : mg "_ends_double" = some (.ref a_ends_double)
  b_ends_double : Binds K fd_ends_double ["rest", "vowels"] []
  a_has_shape : Addr
  fd_has_shape : FuncData
  F_has_shape : Fun K "_has_shape" "_has_shape" s_has_shape a_has_shape fd_has_shape
  m_has_shape : mg "_has_shape" = some (.ref a_has_shape)
  b_has_shape : Binds K fd_has_shape ["rest", "shape", "vowels"] []
  a_bounds_of : Addr
  fd_bounds_of : FuncData
  F_bounds_of : Fun K "bounds_of" "bounds_of" s_bounds_of a_bounds_of fd_bounds_of
  m_bounds_of : mg "bounds_of" = some (.ref a_bounds_of)
  b_bounds_of : Binds K fd_bounds_of ["steps", "exceptions"] []
  a_sight_of : Addr
  fd_sight_of : FuncData
  F_sight_of : Fun K "sight_of" "sight_of" s_sight_of a_sight_of fd_sight_of
  m_sight_of : mg "sight_of" = some (.ref a_sight_of)
  b_sight_of : Binds K fd_sight_of ["text", "vowels", "bounds"] []
  a_plain_conditions : Addr
  fd_plain_conditions : FuncData
  F_plain_conditions : Fun K "_plain_conditions" "_plain_conditions" s_plain_conditions a_plain_conditions fd_plain_conditions
  m_plain_conditions : mg "_plain_conditions" = some (.ref a_plain_conditions)
  b_plain_conditions : Binds K fd_plain_conditions ["steps"] []
  a_longest_measures : Addr
  fd_longest_measures : FuncData
  F_longest_measures : Fun K "_longest" "_longest" s_longest_measures a_longest_measures fd_longest_measures
  m_longest_measures : mg "longest_measures" = some (.ref a_longest_measures)
  b_longest_measures : Binds K fd_longest_measures ["texts"] []
  a_greatest_number : Addr
  fd_greatest_number : FuncData
  F_greatest_number : Fun K "_greatest_number" "_greatest_number" s_greatest_number a_greatest_number fd_greatest_number
  m_greatest_number : mg "_greatest_number" = some (.ref a_greatest_number)
  b_greatest_number : Binds K fd_greatest_number ["plain", "kind"] []
  a_letters_seen : Addr
  fd_letters_seen : FuncData
  F_letters_seen : Fun K "_letters_seen" "_letters_seen" s_letters_seen a_letters_seen fd_letters_seen
  m_letters_seen : mg "_letters_seen" = some (.ref a_letters_seen)
  b_letters_seen : Binds K fd_letters_seen ["condition"] []
  a_check_mode : Addr
  fd_check_mode : FuncData
  F_check_mode : Fun K "check_mode" "check_mode" s_check_mode a_check_mode fd_check_mode
  m_check_mode : mg "check_mode" = some (.ref a_check_mode)
  b_check_mode : Binds K fd_check_mode ["mode"] []
  a_texts_of_rule : Addr
  fd_texts_of_rule : FuncData
  F_texts_of_rule : Fun K "texts_of_rule" "texts_of_rule" s_texts_of_rule a_texts_of_rule fd_texts_of_rule
  m_texts_of_rule : mg "texts_of_rule" = some (.ref a_texts_of_rule)
  b_texts_of_rule : Binds K fd_texts_of_rule ["rule"] []
  a_rule_fits : Addr
  fd_rule_fits : FuncData
  F_rule_fits : Fun K "rule_fits" "rule_fits" s_rule_fits a_rule_fits fd_rule_fits
  m_rule_fits : mg "rule_fits" = some (.ref a_rule_fits)
  b_rule_fits : Binds K fd_rule_fits ["rule", "letters"] []
  a_check_conditions : Addr
  fd_check_conditions : FuncData
  F_check_conditions : Fun K "_check_conditions" "_check_conditions" s_check_conditions a_check_conditions fd_check_conditions
  m_check_conditions : mg "_check_conditions" = some (.ref a_check_conditions)
  b_check_conditions : Binds K fd_check_conditions ["conditions"] []
  a_check_rules : Addr
  fd_check_rules : FuncData
  F_check_rules : Fun K "_check_rules" "_check_rules" s_check_rules a_check_rules fd_check_rules
  m_check_rules : mg "_check_rules" = some (.ref a_check_rules)
  b_check_rules : Binds K fd_check_rules ["rules"] []
  a_check_endings : Addr
  fd_check_endings : FuncData
  F_check_endings : Fun K "_check_endings" "_check_endings" s_check_endings a_check_endings fd_check_endings
  m_check_endings : mg "_check_endings" = some (.ref a_check_endings)
  b_check_endings : Binds K fd_check_endings ["rules"] []
  a_step_at : Addr
  fd_step_at : FuncData
  F_step_at : Fun K "step_at" "step_at" s_step_at a_step_at fd_step_at
  m_step_at : mg "step_at" = some (.ref a_step_at)
  b_step_at : Binds K fd_step_at ["step", "text", "vowels"] []
  a_rules_to_try : Addr
  fd_rules_to_try : FuncData
  F_rules_to_try : Fun K "rules_to_try" "rules_to_try" s_rules_to_try a_rules_to_try fd_rules_to_try
  m_rules_to_try : mg "rules_to_try" = some (.ref a_rules_to_try)
  b_rules_to_try : Binds K fd_rules_to_try ["step", "text"] []
  a_longest_stepping : Addr
  fd_longest_stepping : FuncData
  F_longest_stepping : Fun K "_longest" "_longest" s_longest_stepping a_longest_stepping fd_longest_stepping
  m_longest_stepping : mg "longest_stepping" = some (.ref a_longest_stepping)
  b_longest_stepping : Binds K fd_longest_stepping ["rules", "standing"] []
  a_check_steps : Addr
  fd_check_steps : FuncData
  F_check_steps : Fun K "_check_steps" "_check_steps" s_check_steps a_check_steps fd_check_steps
  m_check_steps : mg "_check_steps" = some (.ref a_check_steps)
  b_check_steps : Binds K fd_check_steps ["steps", "letters"] []
  a_check_exceptions : Addr
  fd_check_exceptions : FuncData
  F_check_exceptions : Fun K "_check_exceptions" "_check_exceptions" s_check_exceptions a_check_exceptions fd_check_exceptions
  m_check_exceptions : mg "_check_exceptions" = some (.ref a_check_exceptions)
  b_check_exceptions : Binds K fd_check_exceptions ["exceptions", "letters"] []
  a_law_mixed : Addr
  fd_law_mixed : FuncData
  F_law_mixed : Fun K "_law_mixed" "_law_mixed" s_law_mixed a_law_mixed fd_law_mixed
  m_law_mixed : mg "_law_mixed" = some (.ref a_law_mixed)
  b_law_mixed : Binds K fd_law_mixed ["cell", "k"] []
  a_law_purse : Addr
  fd_law_purse : FuncData
  F_law_purse : Fun K "_law_purse" "_law_purse" s_law_purse a_law_purse fd_law_purse
  m_law_purse : mg "_law_purse" = some (.ref a_law_purse)
  b_law_purse : Binds K fd_law_purse ["cells", "at"] []
  a_law_draw : Addr
  fd_law_draw : FuncData
  F_law_draw : Fun K "_law_draw" "_law_draw" s_law_draw a_law_draw fd_law_draw
  m_law_draw : mg "_law_draw" = some (.ref a_law_draw)
  b_law_draw : Binds K fd_law_draw ["purse", "out_of"] []
  a_law_text : Addr
  fd_law_text : FuncData
  F_law_text : Fun K "_law_text" "_law_text" s_law_text a_law_text fd_law_text
  m_law_text : mg "_law_text" = some (.ref a_law_text)
  b_law_text : Binds K fd_law_text ["purse", "signs", "least", "top"] []
  a_law_condition : Addr
  fd_law_condition : FuncData
  F_law_condition : Fun K "_law_condition" "_law_condition" s_law_condition a_law_condition fd_law_condition
  m_law_condition : mg "_law_condition" = some (.ref a_law_condition)
  b_law_condition : Binds K fd_law_condition ["purse", "signs"] []
  a_law_rule : Addr
  fd_law_rule : FuncData
  F_law_rule : Fun K "_law_rule" "_law_rule" s_law_rule a_law_rule fd_law_rule
  m_law_rule : mg "_law_rule" = some (.ref a_law_rule)
  b_law_rule : Binds K fd_law_rule ["purse", "signs"] []
  a_law_step : Addr
  fd_law_step : FuncData
  F_law_step : Fun K "_law_step" "_law_step" s_law_step a_law_step fd_law_step
  m_law_step : mg "_law_step" = some (.ref a_law_step)
  b_law_step : Binds K fd_law_step ["purse", "signs", "top"] []
  a_law_made_step : Addr
  fd_law_made_step : FuncData
  F_law_made_step : Fun K "_law_made_step" "_law_made_step" s_law_made_step a_law_made_step fd_law_made_step
  m_law_made_step : mg "_law_made_step" = some (.ref a_law_made_step)
  b_law_made_step : Binds K fd_law_made_step ["raw"] []
  a_law_made : Addr
  fd_law_made : FuncData
  F_law_made : Fun K "_law_made" "_law_made" s_law_made a_law_made fd_law_made
  m_law_made : mg "_law_made" = some (.ref a_law_made)
  b_law_made : Binds K fd_law_made ["raw"] []
  a_law_names : Addr
  fd_law_names : FuncData
  F_law_names : Fun K "_law_names" "_law_names" s_law_names a_law_names fd_law_names
  m_law_names : mg "_law_names" = some (.ref a_law_names)
  b_law_names : Binds K fd_law_names ["purse"] []
  a_law_stemmer : Addr
  fd_law_stemmer : FuncData
  F_law_stemmer : Fun K "_law_stemmer" "_law_stemmer" s_law_stemmer a_law_stemmer fd_law_stemmer
  m_law_stemmer : mg "_law_stemmer" = some (.ref a_law_stemmer)
  b_law_stemmer : Binds K fd_law_stemmer ["purse", "names"] []
  a_law_longer : Addr
  fd_law_longer : FuncData
  F_law_longer : Fun K "_law_longer" "_law_longer" s_law_longer a_law_longer fd_law_longer
  m_law_longer : mg "_law_longer" = some (.ref a_law_longer)
  b_law_longer : Binds K fd_law_longer ["purse", "text", "signs"] []
  a_law_right : Addr
  fd_law_right : FuncData
  F_law_right : Fun K "_law_right" "_law_right" s_law_right a_law_right fd_law_right
  m_law_right : mg "_law_right" = some (.ref a_law_right)
  b_law_right : Binds K fd_law_right ["purse"] []
  a_law : Addr
  fd_law : FuncData
  F_law : Fun K "law" "law" s_law a_law fd_law
  m_law : mg "law" = some (.ref a_law)
  b_law : Binds K fd_law ["script"] []
  z_AttributeError : mg "AttributeError" = none
  z_all : mg "all" = none
  z_any : mg "any" = none
  z_bool : mg "bool" = none
  z_dict : mg "dict" = none
  z_enumerate : mg "enumerate" = none
  z_int : mg "int" = none
  z_isinstance : mg "isinstance" = none
  z_len : mg "len" = none
  z_list : mg "list" = none
  z_max : mg "max" = none
  z_min : mg "min" = none
  z_property : mg "property" = none
  z_range : mg "range" = none
  z_set : mg "set" = none
  z_sorted : mg "sorted" = none
  z_str : mg "str" = none
  z_sum : mg "sum" = none
  z_tuple : mg "tuple" = none
  z_zip : mg "zip" = none
  c_ALPHABET : ∃ u, mg "ALPHABET" = some u ∧ RelV (.str "abcdefghijklmnopqrstuvwxyz") u
  C_StemError : Addr
  mc_StemError : mg "StemError" = some (.ref C_StemError)
  C_InvalidLetters : Addr
  mc_InvalidLetters : mg "InvalidLetters" = some (.ref C_InvalidLetters)
  x_InvalidLetters : OexC K C_InvalidLetters
  xf_InvalidLetters : XfC K C_InvalidLetters
  aI_InvalidLetters : Addr
  fdI_InvalidLetters : FuncData
  FI_InvalidLetters : Fun K "__init__" "InvalidLetters.__init__" s_InvalidLetters_init aI_InvalidLetters fdI_InvalidLetters
  bI_InvalidLetters : Binds K fdI_InvalidLetters ["self", "thing"] []
  i_InvalidLetters : PySem.W.findIn K (.ref C_InvalidLetters) "__init__" = some (some (.ref aI_InvalidLetters))
  t_InvalidLetters : PySem.W.typeIn K (.ref aI_InvalidLetters) = some (.type "function")
  n_InvalidLetters_thing : PySem.W.findIn K (.ref C_InvalidLetters) "thing" = some none
  C_InvalidVowels : Addr
  mc_InvalidVowels : mg "InvalidVowels" = some (.ref C_InvalidVowels)
  x_InvalidVowels : OexC K C_InvalidVowels
  xf_InvalidVowels : XfC K C_InvalidVowels
  aI_InvalidVowels : Addr
  fdI_InvalidVowels : FuncData
  FI_InvalidVowels : Fun K "__init__" "InvalidVowels.__init__" s_InvalidVowels_init aI_InvalidVowels fdI_InvalidVowels
  bI_InvalidVowels : Binds K fdI_InvalidVowels ["self", "thing"] []
  i_InvalidVowels : PySem.W.findIn K (.ref C_InvalidVowels) "__init__" = some (some (.ref aI_InvalidVowels))
  t_InvalidVowels : PySem.W.typeIn K (.ref aI_InvalidVowels) = some (.type "function")
  n_InvalidVowels_thing : PySem.W.findIn K (.ref C_InvalidVowels) "thing" = some none
  C_InvalidText : Addr
  mc_InvalidText : mg "InvalidText" = some (.ref C_InvalidText)
  x_InvalidText : OexC K C_InvalidText
  xf_InvalidText : XfC K C_InvalidText
  aI_InvalidText : Addr
  fdI_InvalidText : FuncData
  FI_InvalidText : Fun K "__init__" "InvalidText.__init__" s_InvalidText_init aI_InvalidText fdI_InvalidText
  bI_InvalidText : Binds K fdI_InvalidText ["self", "thing"] []
  i_InvalidText : PySem.W.findIn K (.ref C_InvalidText) "__init__" = some (some (.ref aI_InvalidText))
  t_InvalidText : PySem.W.typeIn K (.ref aI_InvalidText) = some (.type "function")
  n_InvalidText_thing : PySem.W.findIn K (.ref C_InvalidText) "thing" = some none
  C_InvalidConditions : Addr
  mc_InvalidConditions : mg "InvalidConditions" = some (.ref C_InvalidConditions)
  x_InvalidConditions : OexC K C_InvalidConditions
  xf_InvalidConditions : XfC K C_InvalidConditions
  aI_InvalidConditions : Addr
  fdI_InvalidConditions : FuncData
  FI_InvalidConditions : Fun K "__init__" "InvalidConditions.__init__" s_InvalidConditions_init aI_InvalidConditions fdI_InvalidConditions
  bI_InvalidConditions : Binds K fdI_InvalidConditions ["self", "place"] []
  i_InvalidConditions : PySem.W.findIn K (.ref C_InvalidConditions) "__init__" = some (some (.ref aI_InvalidConditions))
  t_InvalidConditions : PySem.W.typeIn K (.ref aI_InvalidConditions) = some (.type "function")
  n_InvalidConditions_place : PySem.W.findIn K (.ref C_InvalidConditions) "place" = some none
  C_InvalidRules : Addr
  mc_InvalidRules : mg "InvalidRules" = some (.ref C_InvalidRules)
  x_InvalidRules : OexC K C_InvalidRules
  xf_InvalidRules : XfC K C_InvalidRules
  aI_InvalidRules : Addr
  fdI_InvalidRules : FuncData
  FI_InvalidRules : Fun K "__init__" "InvalidRules.__init__" s_InvalidRules_init aI_InvalidRules fdI_InvalidRules
  bI_InvalidRules : Binds K fdI_InvalidRules ["self", "place"] []
  i_InvalidRules : PySem.W.findIn K (.ref C_InvalidRules) "__init__" = some (some (.ref aI_InvalidRules))
  t_InvalidRules : PySem.W.typeIn K (.ref aI_InvalidRules) = some (.type "function")
  n_InvalidRules_place : PySem.W.findIn K (.ref C_InvalidRules) "place" = some none
  C_InvalidMode : Addr
  mc_InvalidMode : mg "InvalidMode" = some (.ref C_InvalidMode)
  x_InvalidMode : OexC K C_InvalidMode
  xf_InvalidMode : XfC K C_InvalidMode
  aI_InvalidMode : Addr
  fdI_InvalidMode : FuncData
  FI_InvalidMode : Fun K "__init__" "InvalidMode.__init__" s_InvalidMode_init aI_InvalidMode fdI_InvalidMode
  bI_InvalidMode : Binds K fdI_InvalidMode ["self", "thing"] []
  i_InvalidMode : PySem.W.findIn K (.ref C_InvalidMode) "__init__" = some (some (.ref aI_InvalidMode))
  t_InvalidMode : PySem.W.typeIn K (.ref aI_InvalidMode) = some (.type "function")
  n_InvalidMode_thing : PySem.W.findIn K (.ref C_InvalidMode) "thing" = some none
  C_SameEnding : Addr
  mc_SameEnding : mg "SameEnding" = some (.ref C_SameEnding)
  x_SameEnding : OexC K C_SameEnding
  xf_SameEnding : XfC K C_SameEnding
  aI_SameEnding : Addr
  fdI_SameEnding : FuncData
  FI_SameEnding : Fun K "__init__" "SameEnding.__init__" s_SameEnding_init aI_SameEnding fdI_SameEnding
  bI_SameEnding : Binds K fdI_SameEnding ["self", "ending"] []
  i_SameEnding : PySem.W.findIn K (.ref C_SameEnding) "__init__" = some (some (.ref aI_SameEnding))
  t_SameEnding : PySem.W.typeIn K (.ref aI_SameEnding) = some (.type "function")
  n_SameEnding_ending : PySem.W.findIn K (.ref C_SameEnding) "ending" = some none
  C_InvalidSteps : Addr
  mc_InvalidSteps : mg "InvalidSteps" = some (.ref C_InvalidSteps)
  x_InvalidSteps : OexC K C_InvalidSteps
  xf_InvalidSteps : XfC K C_InvalidSteps
  aI_InvalidSteps : Addr
  fdI_InvalidSteps : FuncData
  FI_InvalidSteps : Fun K "__init__" "InvalidSteps.__init__" s_InvalidSteps_init aI_InvalidSteps fdI_InvalidSteps
  bI_InvalidSteps : Binds K fdI_InvalidSteps ["self", "place"] []
  i_InvalidSteps : PySem.W.findIn K (.ref C_InvalidSteps) "__init__" = some (some (.ref aI_InvalidSteps))
  t_InvalidSteps : PySem.W.typeIn K (.ref aI_InvalidSteps) = some (.type "function")
  n_InvalidSteps_place : PySem.W.findIn K (.ref C_InvalidSteps) "place" = some none
  C_InvalidExceptions : Addr
  mc_InvalidExceptions : mg "InvalidExceptions" = some (.ref C_InvalidExceptions)
  x_InvalidExceptions : OexC K C_InvalidExceptions
  xf_InvalidExceptions : XfC K C_InvalidExceptions
  aI_InvalidExceptions : Addr
  fdI_InvalidExceptions : FuncData
  FI_InvalidExceptions : Fun K "__init__" "InvalidExceptions.__init__" s_InvalidExceptions_init aI_InvalidExceptions fdI_InvalidExceptions
  bI_InvalidExceptions : Binds K fdI_InvalidExceptions ["self", "word"] []
  i_InvalidExceptions : PySem.W.findIn K (.ref C_InvalidExceptions) "__init__" = some (some (.ref aI_InvalidExceptions))
  t_InvalidExceptions : PySem.W.typeIn K (.ref aI_InvalidExceptions) = some (.type "function")
  n_InvalidExceptions_word : PySem.W.findIn K (.ref C_InvalidExceptions) "word" = some none
  e_InvalidLetters_StemError : PySem.W.exmOne K (.ref C_InvalidLetters) (.ref C_StemError) = some true
  e_InvalidLetters_InvalidLetters : PySem.W.exmOne K (.ref C_InvalidLetters) (.ref C_InvalidLetters) = some true
  e_InvalidLetters_InvalidVowels : PySem.W.exmOne K (.ref C_InvalidLetters) (.ref C_InvalidVowels) = some false
  e_InvalidLetters_InvalidText : PySem.W.exmOne K (.ref C_InvalidLetters) (.ref C_InvalidText) = some false
  e_InvalidLetters_InvalidConditions : PySem.W.exmOne K (.ref C_InvalidLetters) (.ref C_InvalidConditions) = some false
  e_InvalidLetters_InvalidRules : PySem.W.exmOne K (.ref C_InvalidLetters) (.ref C_InvalidRules) = some false
  e_InvalidLetters_InvalidMode : PySem.W.exmOne K (.ref C_InvalidLetters) (.ref C_InvalidMode) = some false
  e_InvalidLetters_SameEnding : PySem.W.exmOne K (.ref C_InvalidLetters) (.ref C_SameEnding) = some false
  e_InvalidLetters_InvalidSteps : PySem.W.exmOne K (.ref C_InvalidLetters) (.ref C_InvalidSteps) = some false
  e_InvalidLetters_InvalidExceptions : PySem.W.exmOne K (.ref C_InvalidLetters) (.ref C_InvalidExceptions) = some false
  e_InvalidVowels_StemError : PySem.W.exmOne K (.ref C_InvalidVowels) (.ref C_StemError) = some true
  e_InvalidVowels_InvalidLetters : PySem.W.exmOne K (.ref C_InvalidVowels) (.ref C_InvalidLetters) = some false
  e_InvalidVowels_InvalidVowels : PySem.W.exmOne K (.ref C_InvalidVowels) (.ref C_InvalidVowels) = some true
  e_InvalidVowels_InvalidText : PySem.W.exmOne K (.ref C_InvalidVowels) (.ref C_InvalidText) = some false
  e_InvalidVowels_InvalidConditions : PySem.W.exmOne K (.ref C_InvalidVowels) (.ref C_InvalidConditions) = some false
  e_InvalidVowels_InvalidRules : PySem.W.exmOne K (.ref C_InvalidVowels) (.ref C_InvalidRules) = some false
  e_InvalidVowels_InvalidMode : PySem.W.exmOne K (.ref C_InvalidVowels) (.ref C_InvalidMode) = some false
  e_InvalidVowels_SameEnding : PySem.W.exmOne K (.ref C_InvalidVowels) (.ref C_SameEnding) = some false
  e_InvalidVowels_InvalidSteps : PySem.W.exmOne K (.ref C_InvalidVowels) (.ref C_InvalidSteps) = some false
  e_InvalidVowels_InvalidExceptions : PySem.W.exmOne K (.ref C_InvalidVowels) (.ref C_InvalidExceptions) = some false
  e_InvalidText_StemError : PySem.W.exmOne K (.ref C_InvalidText) (.ref C_StemError) = some true
  e_InvalidText_InvalidLetters : PySem.W.exmOne K (.ref C_InvalidText) (.ref C_InvalidLetters) = some false
  e_InvalidText_InvalidVowels : PySem.W.exmOne K (.ref C_InvalidText) (.ref C_InvalidVowels) = some false
  e_InvalidText_InvalidText : PySem.W.exmOne K (.ref C_InvalidText) (.ref C_InvalidText) = some true
  e_InvalidText_InvalidConditions : PySem.W.exmOne K (.ref C_InvalidText) (.ref C_InvalidConditions) = some false
  e_InvalidText_InvalidRules : PySem.W.exmOne K (.ref C_InvalidText) (.ref C_InvalidRules) = some false
  e_InvalidText_InvalidMode : PySem.W.exmOne K (.ref C_InvalidText) (.ref C_InvalidMode) = some false
  e_InvalidText_SameEnding : PySem.W.exmOne K (.ref C_InvalidText) (.ref C_SameEnding) = some false
  e_InvalidText_InvalidSteps : PySem.W.exmOne K (.ref C_InvalidText) (.ref C_InvalidSteps) = some false
  e_InvalidText_InvalidExceptions : PySem.W.exmOne K (.ref C_InvalidText) (.ref C_InvalidExceptions) = some false
  e_InvalidConditions_StemError : PySem.W.exmOne K (.ref C_InvalidConditions) (.ref C_StemError) = some true
  e_InvalidConditions_InvalidLetters : PySem.W.exmOne K (.ref C_InvalidConditions) (.ref C_InvalidLetters) = some false
  e_InvalidConditions_InvalidVowels : PySem.W.exmOne K (.ref C_InvalidConditions) (.ref C_InvalidVowels) = some false
  e_InvalidConditions_InvalidText : PySem.W.exmOne K (.ref C_InvalidConditions) (.ref C_InvalidText) = some false
  e_InvalidConditions_InvalidConditions : PySem.W.exmOne K (.ref C_InvalidConditions) (.ref C_InvalidConditions) = some true
  e_InvalidConditions_InvalidRules : PySem.W.exmOne K (.ref C_InvalidConditions) (.ref C_InvalidRules) = some false
  e_InvalidConditions_InvalidMode : PySem.W.exmOne K (.ref C_InvalidConditions) (.ref C_InvalidMode) = some false
  e_InvalidConditions_SameEnding : PySem.W.exmOne K (.ref C_InvalidConditions) (.ref C_SameEnding) = some false
  e_InvalidConditions_InvalidSteps : PySem.W.exmOne K (.ref C_InvalidConditions) (.ref C_InvalidSteps) = some false
  e_InvalidConditions_InvalidExceptions : PySem.W.exmOne K (.ref C_InvalidConditions) (.ref C_InvalidExceptions) = some false
  e_InvalidRules_StemError : PySem.W.exmOne K (.ref C_InvalidRules) (.ref C_StemError) = some true
  e_InvalidRules_InvalidLetters : PySem.W.exmOne K (.ref C_InvalidRules) (.ref C_InvalidLetters) = some false
  e_InvalidRules_InvalidVowels : PySem.W.exmOne K (.ref C_InvalidRules) (.ref C_InvalidVowels) = some false
  e_InvalidRules_InvalidText : PySem.W.exmOne K (.ref C_InvalidRules) (.ref C_InvalidText) = some false
  e_InvalidRules_InvalidConditions : PySem.W.exmOne K (.ref C_InvalidRules) (.ref C_InvalidConditions) = some false
  e_InvalidRules_InvalidRules : PySem.W.exmOne K (.ref C_InvalidRules) (.ref C_InvalidRules) = some true
  e_InvalidRules_InvalidMode : PySem.W.exmOne K (.ref C_InvalidRules) (.ref C_InvalidMode) = some false
  e_InvalidRules_SameEnding : PySem.W.exmOne K (.ref C_InvalidRules) (.ref C_SameEnding) = some false
  e_InvalidRules_InvalidSteps : PySem.W.exmOne K (.ref C_InvalidRules) (.ref C_InvalidSteps) = some false
  e_InvalidRules_InvalidExceptions : PySem.W.exmOne K (.ref C_InvalidRules) (.ref C_InvalidExceptions) = some false
  e_InvalidMode_StemError : PySem.W.exmOne K (.ref C_InvalidMode) (.ref C_StemError) = some true
  e_InvalidMode_InvalidLetters : PySem.W.exmOne K (.ref C_InvalidMode) (.ref C_InvalidLetters) = some false
  e_InvalidMode_InvalidVowels : PySem.W.exmOne K (.ref C_InvalidMode) (.ref C_InvalidVowels) = some false
  e_InvalidMode_InvalidText : PySem.W.exmOne K (.ref C_InvalidMode) (.ref C_InvalidText) = some false
  e_InvalidMode_InvalidConditions : PySem.W.exmOne K (.ref C_InvalidMode) (.ref C_InvalidConditions) = some false
  e_InvalidMode_InvalidRules : PySem.W.exmOne K (.ref C_InvalidMode) (.ref C_InvalidRules) = some false
  e_InvalidMode_InvalidMode : PySem.W.exmOne K (.ref C_InvalidMode) (.ref C_InvalidMode) = some true
  e_InvalidMode_SameEnding : PySem.W.exmOne K (.ref C_InvalidMode) (.ref C_SameEnding) = some false
  e_InvalidMode_InvalidSteps : PySem.W.exmOne K (.ref C_InvalidMode) (.ref C_InvalidSteps) = some false
  e_InvalidMode_InvalidExceptions : PySem.W.exmOne K (.ref C_InvalidMode) (.ref C_InvalidExceptions) = some false
  e_SameEnding_StemError : PySem.W.exmOne K (.ref C_SameEnding) (.ref C_StemError) = some true
  e_SameEnding_InvalidLetters : PySem.W.exmOne K (.ref C_SameEnding) (.ref C_InvalidLetters) = some false
  e_SameEnding_InvalidVowels : PySem.W.exmOne K (.ref C_SameEnding) (.ref C_InvalidVowels) = some false
  e_SameEnding_InvalidText : PySem.W.exmOne K (.ref C_SameEnding) (.ref C_InvalidText) = some false
  e_SameEnding_InvalidConditions : PySem.W.exmOne K (.ref C_SameEnding) (.ref C_InvalidConditions) = some false
  e_SameEnding_InvalidRules : PySem.W.exmOne K (.ref C_SameEnding) (.ref C_InvalidRules) = some false
  e_SameEnding_InvalidMode : PySem.W.exmOne K (.ref C_SameEnding) (.ref C_InvalidMode) = some false
  e_SameEnding_SameEnding : PySem.W.exmOne K (.ref C_SameEnding) (.ref C_SameEnding) = some true
  e_SameEnding_InvalidSteps : PySem.W.exmOne K (.ref C_SameEnding) (.ref C_InvalidSteps) = some false
  e_SameEnding_InvalidExceptions : PySem.W.exmOne K (.ref C_SameEnding) (.ref C_InvalidExceptions) = some false
  e_InvalidSteps_StemError : PySem.W.exmOne K (.ref C_InvalidSteps) (.ref C_StemError) = some true
  e_InvalidSteps_InvalidLetters : PySem.W.exmOne K (.ref C_InvalidSteps) (.ref C_InvalidLetters) = some false
  e_InvalidSteps_InvalidVowels : PySem.W.exmOne K (.ref C_InvalidSteps) (.ref C_InvalidVowels) = some false
  e_InvalidSteps_InvalidText : PySem.W.exmOne K (.ref C_InvalidSteps) (.ref C_InvalidText) = some false
  e_InvalidSteps_InvalidConditions : PySem.W.exmOne K (.ref C_InvalidSteps) (.ref C_InvalidConditions) = some false
  e_InvalidSteps_InvalidRules : PySem.W.exmOne K (.ref C_InvalidSteps) (.ref C_InvalidRules) = some false
  e_InvalidSteps_InvalidMode : PySem.W.exmOne K (.ref C_InvalidSteps) (.ref C_InvalidMode) = some false
  e_InvalidSteps_SameEnding : PySem.W.exmOne K (.ref C_InvalidSteps) (.ref C_SameEnding) = some false
  e_InvalidSteps_InvalidSteps : PySem.W.exmOne K (.ref C_InvalidSteps) (.ref C_InvalidSteps) = some true
  e_InvalidSteps_InvalidExceptions : PySem.W.exmOne K (.ref C_InvalidSteps) (.ref C_InvalidExceptions) = some false
  e_InvalidExceptions_StemError : PySem.W.exmOne K (.ref C_InvalidExceptions) (.ref C_StemError) = some true
  e_InvalidExceptions_InvalidLetters : PySem.W.exmOne K (.ref C_InvalidExceptions) (.ref C_InvalidLetters) = some false
  e_InvalidExceptions_InvalidVowels : PySem.W.exmOne K (.ref C_InvalidExceptions) (.ref C_InvalidVowels) = some false
  e_InvalidExceptions_InvalidText : PySem.W.exmOne K (.ref C_InvalidExceptions) (.ref C_InvalidText) = some false
  e_InvalidExceptions_InvalidConditions : PySem.W.exmOne K (.ref C_InvalidExceptions) (.ref C_InvalidConditions) = some false
  e_InvalidExceptions_InvalidRules : PySem.W.exmOne K (.ref C_InvalidExceptions) (.ref C_InvalidRules) = some false
  e_InvalidExceptions_InvalidMode : PySem.W.exmOne K (.ref C_InvalidExceptions) (.ref C_InvalidMode) = some false
  e_InvalidExceptions_SameEnding : PySem.W.exmOne K (.ref C_InvalidExceptions) (.ref C_SameEnding) = some false
  e_InvalidExceptions_InvalidSteps : PySem.W.exmOne K (.ref C_InvalidExceptions) (.ref C_InvalidSteps) = some false
  e_InvalidExceptions_InvalidExceptions : PySem.W.exmOne K (.ref C_InvalidExceptions) (.ref C_InvalidExceptions) = some true
  C_Rule : Addr
  C_Step : Addr
  C_Stemmer : Addr
  mc_Rule : mg "Rule" = some (.ref C_Rule)
  cl_Rule : Cls K C_Rule
  in_Rule : C8.InsC K C_Rule
  ki_Rule : PySem.W.isClsIn K C_Rule = true
  kt_Rule : PySem.W.typeIn K (.ref C_Rule) = some (.type "type")
  aM_Rule_init : Addr
  fdM_Rule_init : FuncData
  FM_Rule_init : Fun K "__init__" "Rule.__init__" s_Rule_init aM_Rule_init fdM_Rule_init
  aM_Rule_ending : Addr
  fdM_Rule_ending : FuncData
  FM_Rule_ending : Fun K "ending" "Rule.ending" s_Rule_ending aM_Rule_ending fdM_Rule_ending
  bM_Rule_ending : Binds K fdM_Rule_ending ["self"] []
  pr_Rule_ending : Addr
  pp_Rule_ending : PropOf K C_Rule "ending" pr_Rule_ending aM_Rule_ending
  aM_Rule_put : Addr
  fdM_Rule_put : FuncData
  FM_Rule_put : Fun K "put" "Rule.put" s_Rule_put aM_Rule_put fdM_Rule_put
  bM_Rule_put : Binds K fdM_Rule_put ["self"] []
  pr_Rule_put : Addr
  pp_Rule_put : PropOf K C_Rule "put" pr_Rule_put aM_Rule_put
  aM_Rule_conditions : Addr
  fdM_Rule_conditions : FuncData
  FM_Rule_conditions : Fun K "conditions" "Rule.conditions" s_Rule_conditions aM_Rule_conditions fdM_Rule_conditions
  bM_Rule_conditions : Binds K fdM_Rule_conditions ["self"] []
  pr_Rule_conditions : Addr
  pp_Rule_conditions : PropOf K C_Rule "conditions" pr_Rule_conditions aM_Rule_conditions
  aM_Rule_eq : Addr
  fdM_Rule_eq : FuncData
  FM_Rule_eq : Fun K "__eq__" "Rule.__eq__" s_Rule_eq aM_Rule_eq fdM_Rule_eq
  bM_Rule_eq : Binds K fdM_Rule_eq ["self", "other"] []
  ow_Rule : OwnC K C_Rule aM_Rule_eq
  mk_Rule : Mk K C_Rule aM_Rule_init
  n_Rule_ending : NoAttr K C_Rule "_ending"
  n_Rule_put : NoAttr K C_Rule "_put"
  n_Rule_conditions : NoAttr K C_Rule "_conditions"
  e_Rule_conditions : Addr
  te_Rule_conditions : ∀ H : Hp, SqT K H e_Rule_conditions []
  ko_Rule_Rule : PySem.W.subIn K (.ref C_Rule) (.ref C_Rule) = some true
  ko_Rule_Step : PySem.W.subIn K (.ref C_Rule) (.ref C_Step) = some false
  ko_Rule_Stemmer : PySem.W.subIn K (.ref C_Rule) (.ref C_Stemmer) = some false
  mc_Step : mg "Step" = some (.ref C_Step)
  cl_Step : Cls K C_Step
  in_Step : C8.InsC K C_Step
  ki_Step : PySem.W.isClsIn K C_Step = true
  kt_Step : PySem.W.typeIn K (.ref C_Step) = some (.type "type")
  aM_Step_init : Addr
  fdM_Step_init : FuncData
  FM_Step_init : Fun K "__init__" "Step.__init__" s_Step_init aM_Step_init fdM_Step_init
  aM_Step_rules : Addr
  fdM_Step_rules : FuncData
  FM_Step_rules : Fun K "rules" "Step.rules" s_Step_rules aM_Step_rules fdM_Step_rules
  bM_Step_rules : Binds K fdM_Step_rules ["self"] []
  pr_Step_rules : Addr
  pp_Step_rules : PropOf K C_Step "rules" pr_Step_rules aM_Step_rules
  aM_Step_mode : Addr
  fdM_Step_mode : FuncData
  FM_Step_mode : Fun K "mode" "Step.mode" s_Step_mode aM_Step_mode fdM_Step_mode
  bM_Step_mode : Binds K fdM_Step_mode ["self"] []
  pr_Step_mode : Addr
  pp_Step_mode : PropOf K C_Step "mode" pr_Step_mode aM_Step_mode
  aM_Step_eq : Addr
  fdM_Step_eq : FuncData
  FM_Step_eq : Fun K "__eq__" "Step.__eq__" s_Step_eq aM_Step_eq fdM_Step_eq
  bM_Step_eq : Binds K fdM_Step_eq ["self", "other"] []
  ow_Step : OwnC K C_Step aM_Step_eq
  mk_Step : Mk K C_Step aM_Step_init
  n_Step_rules : NoAttr K C_Step "_rules"
  n_Step_mode : NoAttr K C_Step "_mode"
  ko_Step_Rule : PySem.W.subIn K (.ref C_Step) (.ref C_Rule) = some false
  ko_Step_Step : PySem.W.subIn K (.ref C_Step) (.ref C_Step) = some true
  ko_Step_Stemmer : PySem.W.subIn K (.ref C_Step) (.ref C_Stemmer) = some false
  mc_Stemmer : mg "Stemmer" = some (.ref C_Stemmer)
  cl_Stemmer : Cls K C_Stemmer
  in_Stemmer : C8.InsC K C_Stemmer
  ki_Stemmer : PySem.W.isClsIn K C_Stemmer = true
  kt_Stemmer : PySem.W.typeIn K (.ref C_Stemmer) = some (.type "type")
  aM_Stemmer_init : Addr
  fdM_Stemmer_init : FuncData
  FM_Stemmer_init : Fun K "__init__" "Stemmer.__init__" s_Stemmer_init aM_Stemmer_init fdM_Stemmer_init
  aM_Stemmer_letters : Addr
  fdM_Stemmer_letters : FuncData
  FM_Stemmer_letters : Fun K "letters" "Stemmer.letters" s_Stemmer_letters aM_Stemmer_letters fdM_Stemmer_letters
  bM_Stemmer_letters : Binds K fdM_Stemmer_letters ["self"] []
  pr_Stemmer_letters : Addr
  pp_Stemmer_letters : PropOf K C_Stemmer "letters" pr_Stemmer_letters aM_Stemmer_letters
  aM_Stemmer_vowels : Addr
  fdM_Stemmer_vowels : FuncData
  FM_Stemmer_vowels : Fun K "vowels" "Stemmer.vowels" s_Stemmer_vowels aM_Stemmer_vowels fdM_Stemmer_vowels
  bM_Stemmer_vowels : Binds K fdM_Stemmer_vowels ["self"] []
  pr_Stemmer_vowels : Addr
  pp_Stemmer_vowels : PropOf K C_Stemmer "vowels" pr_Stemmer_vowels aM_Stemmer_vowels
  aM_Stemmer_steps : Addr
  fdM_Stemmer_steps : FuncData
  FM_Stemmer_steps : Fun K "steps" "Stemmer.steps" s_Stemmer_steps aM_Stemmer_steps fdM_Stemmer_steps
  bM_Stemmer_steps : Binds K fdM_Stemmer_steps ["self"] []
  pr_Stemmer_steps : Addr
  pp_Stemmer_steps : PropOf K C_Stemmer "steps" pr_Stemmer_steps aM_Stemmer_steps
  aM_Stemmer_exceptions : Addr
  fdM_Stemmer_exceptions : FuncData
  FM_Stemmer_exceptions : Fun K "exceptions" "Stemmer.exceptions" s_Stemmer_exceptions aM_Stemmer_exceptions fdM_Stemmer_exceptions
  bM_Stemmer_exceptions : Binds K fdM_Stemmer_exceptions ["self"] []
  pr_Stemmer_exceptions : Addr
  pp_Stemmer_exceptions : PropOf K C_Stemmer "exceptions" pr_Stemmer_exceptions aM_Stemmer_exceptions
  aM_Stemmer_eq : Addr
  fdM_Stemmer_eq : FuncData
  FM_Stemmer_eq : Fun K "__eq__" "Stemmer.__eq__" s_Stemmer_eq aM_Stemmer_eq fdM_Stemmer_eq
  bM_Stemmer_eq : Binds K fdM_Stemmer_eq ["self", "other"] []
  aM_Stemmer_stem : Addr
  fdM_Stemmer_stem : FuncData
  FM_Stemmer_stem : Fun K "stem" "Stemmer.stem" s_Stemmer_stem aM_Stemmer_stem fdM_Stemmer_stem
  bM_Stemmer_stem : Binds K fdM_Stemmer_stem ["self", "word"] []
  me_Stemmer_stem : Meth K C_Stemmer "stem" aM_Stemmer_stem
  aM_Stemmer_trace : Addr
  fdM_Stemmer_trace : FuncData
  FM_Stemmer_trace : Fun K "trace" "Stemmer.trace" s_Stemmer_trace aM_Stemmer_trace fdM_Stemmer_trace
  bM_Stemmer_trace : Binds K fdM_Stemmer_trace ["self", "word"] []
  me_Stemmer_trace : Meth K C_Stemmer "trace" aM_Stemmer_trace
  aM_Stemmer_sight : Addr
  fdM_Stemmer_sight : FuncData
  FM_Stemmer_sight : Fun K "sight" "Stemmer.sight" s_Stemmer_sight aM_Stemmer_sight fdM_Stemmer_sight
  bM_Stemmer_sight : Binds K fdM_Stemmer_sight ["self", "word"] []
  me_Stemmer_sight : Meth K C_Stemmer "sight" aM_Stemmer_sight
  aM_Stemmer_bounds : Addr
  fdM_Stemmer_bounds : FuncData
  FM_Stemmer_bounds : Fun K "bounds" "Stemmer.bounds" s_Stemmer_bounds aM_Stemmer_bounds fdM_Stemmer_bounds
  bM_Stemmer_bounds : Binds K fdM_Stemmer_bounds ["self"] []
  me_Stemmer_bounds : Meth K C_Stemmer "bounds" aM_Stemmer_bounds
  aM_Stemmer_without : Addr
  fdM_Stemmer_without : FuncData
  FM_Stemmer_without : Fun K "without" "Stemmer.without" s_Stemmer_without aM_Stemmer_without fdM_Stemmer_without
  bM_Stemmer_without : Binds K fdM_Stemmer_without ["self", "step", "rule"] []
  me_Stemmer_without : Meth K C_Stemmer "without" aM_Stemmer_without
  ow_Stemmer : OwnC K C_Stemmer aM_Stemmer_eq
  mk_Stemmer : Mk K C_Stemmer aM_Stemmer_init
  n_Stemmer_letters : NoAttr K C_Stemmer "_letters"
  n_Stemmer_vowels : NoAttr K C_Stemmer "_vowels"
  n_Stemmer_steps : NoAttr K C_Stemmer "_steps"
  n_Stemmer_exceptions : NoAttr K C_Stemmer "_exceptions"
  n_Stemmer_bounds : NoAttr K C_Stemmer "_bounds"
  ko_Stemmer_Rule : PySem.W.subIn K (.ref C_Stemmer) (.ref C_Rule) = some false
  ko_Stemmer_Step : PySem.W.subIn K (.ref C_Stemmer) (.ref C_Step) = some false
  ko_Stemmer_Stemmer : PySem.W.subIn K (.ref C_Stemmer) (.ref C_Stemmer) = some true
  kb_Step_init_1_mode : KBn K fdM_Step_init ["self", "rules", "mode"] 2 ["mode"] (fun us ws => us ++ pick [0] ws) (fun vs zs => vs ++ pick [0] zs)
  kb_Rule_init_2_conditions : KBn K fdM_Rule_init ["self", "ending", "put", "conditions"] 3 ["conditions"] (fun us ws => us ++ pick [0] ws) (fun vs zs => vs ++ pick [0] zs)
  kb_Stemmer_init_3_exceptions : KBn K fdM_Stemmer_init ["self", "letters", "vowels", "steps", "exceptions"] 4 ["exceptions"] (fun us ws => us ++ pick [0] ws) (fun vs zs => vs ++ pick [0] zs)
  dD_Stemmer : List Value
  vD_Stemmer : Vals [.non] dD_Stemmer
  bD_Stemmer : Binds K fdM_Stemmer_init ["self", "letters", "vowels", "steps", "exceptions"] dD_Stemmer
  dD_Step : List Value
  vD_Step : Vals [.str "longest"] dD_Step
  bD_Step : Binds K fdM_Step_init ["self", "rules", "mode"] dD_Step
  dD_Rule : List Value
  vD_Rule : Vals [.ref e_Rule_conditions] dD_Rule
  bD_Rule : Binds K fdM_Rule_init ["self", "ending", "put", "conditions"] dD_Rule
end K91
set_option Elab.async false
set_option linter.all false
set_option maxRecDepth 100000
set_option maxHeartbeats 4000000
namespace K91
open PySem PySem.Spec PyProof.Rows L2 TL Mi
 
/-! ### short words -/
local macro_rules | `(tactic| walk_at "idx") => `(tactic| first | assumption | exact Evl.sq_of (by assumption) | exact Evl.st_of (by assumption) | exact Evl.sq_of upd_same | exact Evl.st_of upd_same)
local macro_rules | `(tactic| walk_at "side") => `(tactic| first | omega | exact Or.inl ⟨by omega, by omega⟩ | exact Or.inr ⟨by omega, by omega⟩ | exact ⟨by omega, by omega⟩ | decide +kernel)
local macro_rules | `(tactic| walk_at "div") => `(tactic| exact wide_div (b := 30) (by omega) (by omega) (by decide) (by decide))
local macro_rules | `(tactic| walk_at "pow") => `(tactic| exact ⟨by decide +kernel, by decide +kernel, by decide +kernel⟩)
local macro_rules | `(tactic| walk_at "rv") => `(tactic| first
  | with_reducible exact rv_addI | with_reducible exact rv_sub | with_reducible exact rv_lt | with_reducible exact rv_le | with_reducible exact rv_gt | with_reducible exact rv_ge
  | with_reducible exact rv_inC | with_reducible exact rv_notInC | with_reducible exact rv_isB
  | (with_reducible apply rv_mul
     walk_at "side")
  | (with_reducible apply rv_mod
     walk_at "side")
  | (with_reducible apply rv_div
     walk_at "div")
  | (with_reducible apply rv_pow
     walk_at "pow")
  | (with_reducible apply rv_eq
     exact rfl)
  | (with_reducible apply rv_ne
     exact rfl)
  | (with_reducible apply rv_ixL
     · walk_at "idx"
     · exact rfl)
  | (with_reducible apply rv_ixT
     · walk_at "idx"
     · exact rfl)
  | (with_reducible apply rv_ixS
     · walk_at "side"
     · exact rfl)
  | (with_reducible apply rv_addS
     walk_at "side"))
local macro_rules | `(tactic| walk_at "val") => `(tactic| first
  | with_reducible exact val_c | exact val_c
  | (with_reducible apply val_var
     exact rfl)
  | (with_reducible apply val_bin
     · walk_at "val"
     · walk_at "val"
     · walk_at "rv")
  | (with_reducible apply val_int1
     walk_at "val")
  | (with_reducible apply val_max2
     · walk_at "val"
     · walk_at "val")
  | (with_reducible apply val_min2
     · walk_at "val"
     · walk_at "val")
  | (with_reducible apply val_endsw
     · walk_at "val"
     · walk_at "val")
  | (with_reducible apply val_lenS
     · walk_at "val"
     · walk_at "side")
  | (with_reducible apply val_lenL
     · walk_at "val"
     · walk_at "idx")
  | (with_reducible apply val_lenT
     · walk_at "val"
     · walk_at "idx")
  | (with_reducible apply val_notV
     walk_at "val"))
local macro_rules | `(tactic| walk_at "ans") => `(tactic| first
  | (with_reducible apply ans_T
     walk_at "val")
  | (with_reducible apply ans_B
     walk_at "val")
  | (with_reducible apply ans_not
     walk_at "ans"))
local macro_rules | `(tactic| walk_at "ifp") => `(tactic| first
  | (with_reducible refine Eq.mpr (if_pos ?_) ?_
     · decide +kernel)
  | (with_reducible refine Eq.mpr (if_neg ?_) ?_
     · decide +kernel))
local macro_rules | `(tactic| walk_at "k") => `(tactic| first
  | with_reducible apply k_seq | with_reducible apply k_asg | with_reducible apply k_ret | with_reducible apply k_ifS | with_reducible apply k_drop | with_reducible apply k_name
  | (with_reducible apply k_var
     · exact rfl)
  | with_reducible apply k_c
  | with_reducible apply k_op | with_reducible apply k_cb | with_reducible apply k_call | with_reducible apply k_cons | with_reducible apply k_nil | with_reducible apply k_tup | with_reducible apply k_lst
  | with_reducible apply k_ifE | with_reducible apply k_test | with_reducible apply k_tb | with_reducible apply k_not | with_reducible apply k_and | with_reducible apply k_or | with_reducible apply k_bl
  | with_reducible apply k_sl | with_reducible apply k_part | with_reducible apply k_isI | with_reducible apply k_nopart
  | with_reducible apply k_lcZS | with_reducible apply k_onZS | with_reducible apply k_un | with_reducible apply k_neg
  | with_reducible apply k_forEB | with_reducible apply k_forSB | with_reducible apply k_lcSB | with_reducible apply k_fld | with_reducible apply k_prop | with_reducible apply k_sfld | with_reducible apply k_make | with_reducible apply k_makeK | with_reducible apply k_mkO | with_reducible apply k_par | with_reducible apply k_parR
  | with_reducible apply k_lcS | with_reducible apply k_lcR | with_reducible apply k_lcL | with_reducible apply k_lcT | with_reducible apply k_forS | with_reducible apply k_forR | with_reducible apply k_forL | with_reducible apply k_forT | with_reducible apply k_onS | with_reducible apply k_yes
  | (with_reducible apply k_augC
     · exact rfl)
  | with_reducible apply k_next | with_reducible apply k_eqInt | with_reducible apply k_neInt | with_reducible apply k_eqStr | with_reducible apply k_neStr
  | with_reducible apply k_andV | with_reducible apply k_orV | with_reducible apply k_notV
  | with_reducible apply k_m1 | with_reducible apply k_onStr | with_reducible apply k_endsw
  | (with_reducible apply k_slS
     · walk_at "side")
  | (with_reducible apply k_newT
     · walk_at "len")
  | (with_reducible apply k_newL
     · walk_at "len")
  | with_reducible apply k_int1 | with_reducible apply k_max2 | with_reducible apply k_min2
  | (with_reducible apply k_lenS
     · walk_at "side")
  | (with_reducible apply k_lenL
     · walk_at "idx")
  | (with_reducible apply k_lenT
     · walk_at "idx")
  | (with_reducible apply k_rv
     · walk_at "rv")
  | walk_at "ifp")
local macro_rules | `(tactic| walk_at "kk") => `(tactic| (repeat (walk_at "k")))
local macro_rules | `(tactic| walk_at "len") => `(tactic| first | exact (by decide : (1:Nat) ≤ 100000) | exact (by decide : (2:Nat) ≤ 100000) | exact (by decide : (3:Nat) ≤ 100000) | exact (by decide : (4:Nat) ≤ 100000) | exact (by decide : (7:Nat) ≤ 100000) | (simp only [List.length_cons, List.length_nil]; omega) | omega)
local macro_rules | `(tactic| walk_at "up") => `(tactic| first
  | assumption
  | (refine Dq.up ?_ (Gr.new (by assumption))
     walk_at "up")
  | (refine Dq.up ?_ (by assumption)
     walk_at "up"))
local macro_rules | `(tactic| walk_at "lit") => `(tactic| first
  | with_reducible exact lit_str | with_reducible exact lit_int | with_reducible exact lit_bl | with_reducible exact lit_non | with_reducible exact lit_neg | with_reducible exact lit_nil | with_reducible exact lit_dic
  | (with_reducible apply lit_cons
     · walk_at "lit"
     · walk_at "lit")
  | (with_reducible apply lit_tup
     · walk_at "lit"
     · decide)
  | (with_reducible apply lit_lst
     · walk_at "lit"
     · decide))
section
variable {P : Program} {w : World} {K : PySem.W.Frag} {mg : Str → Option Value} {base : Heap}
/-! ### the law's draws -/
def Pu (H : Hp) (p : Addr) (n : Nat) : Prop := ∃ a b k : Int, H p = some (.lst [.int a, .int b, .int k]) ∧ 0 ≤ a ∧ 0 ≤ b ∧ b < 2147483648 ∧ 0 ≤ k ∧ k ≤ n
def spMixed : Sp := fun vs H Q _ => ∃ c k : Int, vs = [.int c, .int k] ∧ 0 ≤ c ∧ c < 2147483648 ∧ 0 ≤ k ∧ k < 2 ^ 41 ∧ ∀ r : Int, 0 ≤ r → Q (.int r) H
theorem ok_law_mixed (T : Txt K mg) : FnOk P w K mg base CX0 1 T.a_law_mixed T.fd_law_mixed ["cell", "k"] spMixed := by
  refine T.F_law_mixed.ok sc_law_mixed (fun vs H Q E h => ?_) (fun cdv A outer s H vs Q E hr h => ?_)
  · obtain ⟨c, k, rfl, _⟩ := h
    rfl
  · obtain ⟨c, k, rfl, h1, h2, h3, h4, q⟩ := h
    refine ⟨_, (pss_cons (ps_set (i := 2) sc_law_mixed.nd rfl (Or.inl rfl) (pe_op op_modA (pe_callTy call_intA (by rfl) T.z_int B_int (pa_cons (pe_op (addK K) (pe_op (addK K) (pe_op (addK K) (pe_op op_mulI (pv 0) pe_int) (pe_op op_mulI (pe_op op_mulI pe_int (pv 1)) (pv 1))) (pe_op op_mulI pe_int (pv 1))) pe_int) pa_nil)) pe_int))
      (pss_one (ps_ret (pe_op op_divA (pe_op op_modA (pe_callTy call_intA (by rfl) T.z_int B_int (pa_cons (pe_op (addK K) (pe_op (addK K) (pe_op op_mulI (pv 2) (pv 2)) (pe_op op_mulI pe_int (pv 2))) pe_int) pa_nil)) pe_int) pe_int)))), ?_⟩
    apply q_set
    · walk_at "val"
    apply q_ret
    · walk_at "val"
    exact q _ (by omega)
def spDraw : Sp := fun vs H Q _ => ∃ (p : Addr) (m : Int) (n : Nat), vs = [.ref p, .int m] ∧ 0 < m ∧ m < 2 ^ 29 ∧ Pu H p n ∧ n < 2 ^ 40 ∧ ∀ (H' : Hp) (d : Int), Gr [p] H H' → Pu H' p (n + 1) → 0 ≤ d → d < m → Q (.int d) H'
theorem ok_law_draw (T : Txt K mg) : FnOk P w K mg base CX0 2 T.a_law_draw T.fd_law_draw ["purse", "out_of"] spDraw := by
  refine T.F_law_draw.ok sc_law_draw (fun vs H Q E h => ?_) (fun cdv A outer s H vs Q E hr h => ?_)
  · obtain ⟨p, m, n, rfl, _⟩ := h
    rfl
  · obtain ⟨p, m, n, rfl, h1, h2, ⟨a, b, k, hp, ha, hb, hb2, hk, hk2⟩, hn, q⟩ := h
    refine ⟨_, (pss_cons (ps_if (pt_cmpR op_gtA (pe_ix (ixK K) (pv 0) pe_int (fun _ _ => rfl)) pe_int (nomark _)) (pss_cons (ps_set (i := 2) sc_law_draw.nd rfl (Or.inl rfl) (pe_op op_modA (pe_callTy call_intA (by rfl) T.z_int B_int (pa_cons (pe_ix (ixK K) (pv 0) pe_int (fun _ _ => rfl)) pa_nil)) (pv 1)))
      (pss_cons (ps_asg (pe_op op_divA (pe_ix (ixK K) (pv 0) pe_int (fun _ _ => rfl)) (pv 1)) (pg_sub (pv 0) pe_int set_list))
      (pss_one (ps_ret (pv 2))))) pss_nil)
      (pss_cons (ps_asg (pe_op (addK K) (pe_ix (ixK K) (pv 0) pe_int (fun _ _ => rfl)) pe_int) (pg_sub (pv 0) pe_int set_list))
      (pss_one (ps_ret (pe_op op_modA (pe_callTy call_intA (by rfl) T.z_int B_int (pa_cons (pe_call (ok_law_mixed T) (hr.mono (by decide)) (by rfl) T.m_law_mixed T.F_law_mixed.kp T.b_law_mixed .nil pass0 (pa_cons (pe_ix (ixK K) (pv 0) pe_int (fun _ _ => rfl)) (pa_cons (pe_ix (ixK K) (pv 0) pe_int (fun _ _ => rfl)) pa_nil))) pa_nil)) (pv 1)))))), ?_⟩
    have hm : 0 ≤ a % m := Int.emod_nonneg _ (by omega)
    have hm2 : a % m < m := Int.emod_lt_of_pos _ h1
    apply q_when
    · walk_at "ans"
    · intro hb0
      apply q_set
      · walk_at "val"
      apply q_setL (j := 0)
      · apply val_bin
        · walk_at "val"
        · walk_at "val"
        · refine rv_div ?_
          exact wide_div h1 (b := 30) (by omega) (by decide) (by decide)
      · walk_at "val"
      · walk_at "val"
      · exact hp
      · exact (by decide : (0:Nat) < 3)
      apply q_ret
      · walk_at "val"
      refine q _ _ (Gr.mut (by simp)) ⟨a / m, b, k, upd_same, ?_, hb, hb2, hk, by omega⟩ hm hm2
      exact Int.ediv_nonneg ha (by omega)
    · intro hb0
      apply q_setL (j := 2)
      · walk_at "val"
      · walk_at "val"
      · walk_at "val"
      · exact hp
      · exact (by decide : (2:Nat) < 3)
      walk_at "kk"
      refine ⟨b, k + 1, rfl, hb, hb2, by omega, by omega, fun r hr0 => ?_⟩
      walk_at "kk"
      refine q _ _ (Gr.mut (by simp)) ⟨a, b, k + 1, upd_same, ha, hb, hb2, by omega, by omega⟩ (Int.emod_nonneg _ (by omega)) (Int.emod_lt_of_pos _ h1)
def spPurse (K : PySem.W.Frag) : Sp := fun vs H Q _ => ∃ (p : Addr) (ns : List Int) (j : Nat), vs = [.ref p, .int j] ∧ SqL K H p (ns.map V.int) ∧ ns.length ≤ 63 ∧ j ≤ 63 ∧ ∀ (H' : Hp) (u : Addr), Same H H' → H u = none → Pu H' u (1000 * j) → Q (.ref u) H'
theorem ok_law_purse (T : Txt K mg) : FnOk P w K mg base CX0 1 T.a_law_purse T.fd_law_purse ["cells", "at"] (spPurse K) := by
  refine T.F_law_purse.ok sc_law_purse (fun vs H Q E h => ?_) (fun cdv A outer s H vs Q E hr h => ?_)
  · obtain ⟨p, ns, j, rfl, _⟩ := h
    rfl
  · obtain ⟨p, ns, j, rfl, hs, hl, hj, q⟩ := h
    refine ⟨_, (pss_cons (ps_set (i := 2) sc_law_purse.nd rfl (Or.inl rfl) pe_int)
      (pss_cons (ps_if (pt_cmpR op_ltA (pv 1) (pe_callB (lenK K) (by rfl) T.z_len B_len (pa_cons (pv 0) pa_nil)) (nomark _)) (pss_one (ps_set (i := 2) sc_law_purse.nd rfl (Or.inl rfl) (pe_ix (ixK K) (pv 0) (pv 1) (fun _ _ => rfl)))) pss_nil)
      (pss_one (ps_ret (pe_lst (pa_cons (pe_op op_modA (pe_callTy call_intA (by rfl) T.z_int B_int (pa_cons (pe_callB (call_maxA rfl) (by rfl) T.z_max B_max (pa_cons (pe_op op_subA (pv 2) (pe_op op_powA pe_int pe_int)) (pa_cons pe_int pa_nil))) pa_nil)) (pe_op op_powA (pe_op op_powA pe_int pe_int) pe_int)) (pa_cons (pe_op op_modA (pe_callTy call_intA (by rfl) T.z_int B_int (pa_cons (pv 2) pa_nil)) pe_int) (pa_cons (pe_op op_mulI pe_int (pv 1)) pa_nil)))))))), ?_⟩
    walk_at "kk"
    refine k_ite (fun hb => ?_) (fun hb => ?_)
    · have hb' : j < ns.length := by
        have := of_decide_eq_true hb
        rw [List.length_map] at this
        omega
      walk_at "kk"
      apply k_rv
      · exact rv_ixL hs (atI_nat (j := j) (by rw [List.getElem?_map, List.getElem?_eq_getElem hb']; rfl))
      walk_at "kk"
      intro u hu
      exact q _ _ (fun b o e => by rw [upd_ne (ne_of_none e hu)]; exact e) hu ⟨_, _, _, upd_same, Int.emod_nonneg _ (by decide +kernel), by omega, by omega, by omega, by omega⟩
    · have hb' : ¬ j < ns.length := by
        have := of_decide_eq_false hb
        rw [List.length_map] at this
        omega
      walk_at "kk"
      intro u hu
      exact q _ _ (fun b o e => by rw [upd_ne (ne_of_none e hu)]; exact e) hu ⟨_, _, _, upd_same, Int.emod_nonneg _ (by decide +kernel), by omega, by omega, by omega, by omega⟩
end
set_option Elab.async false
set_option linter.all false
set_option maxRecDepth 100000
set_option maxHeartbeats 4000000
section
variable {P : Program} {w : World} {K : PySem.W.Frag} {mg : Str → Option Value} {base : Heap}
theorem Pu.up {H H' : Hp} {p : Addr} {n m : Nat} (h : Pu H p n) (e : H' p = H p) (l : n ≤ m) : Pu H' p m := by
  obtain ⟨a, b, k, h1, h2, h3, h4, h5, h6⟩ := h
  exact ⟨a, b, k, e.trans h1, h2, h3, h4, h5, by omega⟩
theorem Pu.ne {H : Hp} {p q : Addr} {n : Nat} (h : Pu H p n) (hq : H q = none) : p ≠ q := by
  obtain ⟨a, b, k, h1, _⟩ := h
  exact ne_of_none h1 hq
theorem Pu.live {H : Hp} {p : Addr} {n : Nat} (h : Pu H p n) : Live [p] H := fun a ha => by
  obtain ⟨x, b, k, h1, _⟩ := h
  have e : a = p := by simpa using ha
  rw [e, h1]
  exact fun z => by cases z
/-- a text of the signs -/
def spText : Sp := fun vs H Q _ => ∃ (p : Addr) (z : Str) (lo hi : Int) (n : Nat), vs = [.ref p, .str z, .int lo, .int hi] ∧ 0 ≤ lo ∧ lo ≤ hi ∧ hi ≤ 1000 ∧ 0 < z.length ∧ z.length ≤ 100 ∧ Pu H p n ∧ n < 2 ^ 39 ∧
  ∀ (H' : Hp) (x : Str), Gr [p] H H' → Pu H' p (n + 1001) → (∀ c ∈ tl x, c ∈ tl z) → lo ≤ x.length → x.length ≤ hi → Q (.str x) H'
theorem ok_law_text (T : Txt K mg) : FnOk P w K mg base CX0 3 T.a_law_text T.fd_law_text ["purse", "signs", "least", "top"] spText := by
  refine T.F_law_text.ok sc_law_text (fun vs H Q E h => ?_) (fun cdv A outer s H vs Q E hr h => ?_)
  · obtain ⟨p, z, lo, hi, n, rfl, _⟩ := h
    rfl
  · obtain ⟨p, z, lo, hi, n, rfl, h1, h2, h3, h4, h4', hp, hn, q⟩ := h
    refine ⟨_, (pss_cons (ps_set (i := 4) sc_law_text.nd rfl (Or.inl rfl) (pe_op (addK K) (pv 2) (pe_call (ok_law_draw T) (hr.mono (by decide)) (by rfl) T.m_law_draw T.F_law_draw.kp T.b_law_draw .nil pass0 (pa_cons (pv 0) (pa_cons (pe_op op_subA (pe_op (addK K) pe_int (pv 3)) (pv 2)) pa_nil)))))
      (pss_one (ps_ret (joinK K pe_str (pe_lc (own := [("turn", 5)]) (by rfl) sc_law_text.nd (pi_range1 (by rfl) T.z_range (pa_cons (pv 4) pa_nil)) (blkOk_by (N := ["purse", "signs", "least", "top", "many", "turn"]) (sc := defScope s_law_text) (by decide +kernel)) (fun _ _ _ _ _ => (pg_name (i := 5) sc_law_text.nd rfl (Or.inl rfl))) (fun _ _ _ _ _ => pts_nil) (fun _ _ _ _ _ => (pe_ix (ixK K) (pv 1) (pe_call (ok_law_draw T) (hr.mono (by decide)) (by rfl) T.m_law_draw T.F_law_draw.kp T.b_law_draw .nil pass0 (pa_cons (pv 0) (pa_cons (pe_callB (lenK K) (by rfl) T.z_len B_len (pa_cons (pv 1) pa_nil)) pa_nil))) (fun _ _ => rfl)))))))), ?_⟩
    walk_at "kk"
    refine ⟨p, 1 + hi - lo, n, rfl, by omega, by omega, hp, by omega, fun H1 d g1 p1 d1 d2 => ?_⟩
    walk_at "kk"
    refine k_onR1 (by omega) (lc_go (walk_range (lo := 0) (n := (lo + d).toNat)) (fun D i H' => p ≠ D ∧ H D = none ∧ Gr [D, p] H H' ∧ Pu H' p (n + 1 + i) ∧ ∃ cs : List Nat, H' D = some (.lst ((singles cs).map V.str)) ∧ cs.length = i ∧ ∀ c ∈ cs, c ∈ tl z) (by intro _; rfl) (fun D hD => ?_) (fun _ _ _ _ _ => trivial) (fun D i x Ha Hb hi iv hy => ?_) (fun D H' iv => ?_))
    · have hpD := p1.ne hD
      exact ⟨hpD, g1.free hD (by simpa using hpD.symm), (g1.more (by simp)).trans (Gr.mut (by simp)), p1.up (upd_ne hpD) (by omega), [], upd_same, rfl, by simp⟩
    · obtain ⟨hpD, hD0, g2, p2, cs, e2, l2, m2⟩ := iv
      obtain ⟨rfl, rfl⟩ := hy
      walk_at "kk"
      refine ⟨p, z.length, n + 1 + i, rfl, by omega, by omega, p2, by omega, fun H3 d3 g3 p3 d31 d32 => ?_⟩
      have hc : d3.toNat < (tl z).length := by rw [← len_tl]; omega
      dsimp only
      apply k_rv
      · exact rv_ixS (c := (tl z)[d3.toNat]) (by omega) (at_int (by omega) (List.getElem?_eq_getElem hc))
      have e3 : H3 D = some (.lst ((singles cs).map V.str)) := g3 D _ (by simpa using hpD.symm) e2
      refine k_add e3 (by rw [List.length_map, singles_len]; omega) ⟨hpD, hD0, (g2.trans (g3.more (by simp))).trans (Gr.mut (by simp)), p3.up (upd_ne hpD) (by omega), cs ++ [(tl z)[d3.toNat]], ?_, by simp [l2], fun c hc' => ?_⟩
      · rw [upd_same]; simp [singles]
      · rcases List.mem_append.mp hc' with h | h
        · exact m2 c h
        · rw [List.mem_singleton.mp h]; exact List.getElem_mem hc
    · obtain ⟨hpD, hD0, g2, p2, cs, e2, l2, m2⟩ := iv
      refine k_joinL (Evl.sq_of e2) (join_cost cs (by omega)) ?_
      rw [join_singles]
      refine q _ _ (g2.less hD0) (p2.up rfl (by omega)) (by rw [tl_mk']; exact m2) ?_ ?_
      · rw [len_mk]; omega
      · rw [len_mk]; omega
end
set_option Elab.async false
set_option linter.all false
set_option maxRecDepth 100000
set_option maxHeartbeats 4000000
section
variable {P : Program} {w : World} {K : PySem.W.Frag} {mg : Str → Option Value} {base : Heap}
theorem menuN_at {i : Int} (h1 : 0 ≤ i) (h2 : i < 6) : ∃ s ∈ menu, ([.str "ab", .str "abc", .str "ba", .str "cab", .str "abcd", .str "voz"] : List V)[i.toNat]? = some (.str s) := by
  have h4 : i = 0 ∨ i = 1 ∨ i = 2 ∨ i = 3 ∨ i = 4 ∨ i = 5 := by omega
  rcases h4 with rfl | rfl | rfl | rfl | rfl | rfl <;> exact ⟨_, by decide +kernel, rfl⟩
def spNames : Sp := fun vs H Q _ => ∃ (p : Addr) (n : Nat), vs = [.ref p] ∧ Pu H p n ∧ n < 2 ^ 38 ∧
  ∀ (H' : Hp) (t : Addr) (s v : Str), Gr [p] H H' → Pu H' p (n + 10) → t ≠ p → H' t = some (.tup [.str s, .str s, .str v]) → s ∈ menu → (tl v).Sublist (tl s) → Q (.ref t) H'
theorem ok_law_names (T : Txt K mg) : FnOk P w K mg base CX0 3 T.a_law_names T.fd_law_names ["purse"] spNames := by
  refine T.F_law_names.ok sc_law_names (fun vs H Q E h => ?_) (fun cdv A outer s H vs Q E hr h => ?_)
  · obtain ⟨p, n, rfl, _⟩ := h
    rfl
  · obtain ⟨p, n, rfl, hp, hn, q⟩ := h
    refine ⟨_, (pss_cons (ps_set (i := 1) sc_law_names.nd rfl (Or.inl rfl) (pe_ix (ixK K) (pe_lst (pa_cons pe_str (pa_cons pe_str (pa_cons pe_str (pa_cons pe_str (pa_cons pe_str (pa_cons pe_str pa_nil))))))) (pe_call (ok_law_draw T) (hr.mono (by decide)) (by rfl) T.m_law_draw T.F_law_draw.kp T.b_law_draw .nil pass0 (pa_cons (pv 0) (pa_cons pe_int pa_nil))) (fun _ _ => rfl)))
      (pss_one (ps_ret (pe_tup (pa_cons (pv 1) (pa_cons (pv 1) (pa_cons (joinK K pe_str (pe_lc (own := [("letter", 2)]) (by rfl) sc_law_names.nd (pi_str (pv 1)) (blkOk_by (N := ["purse", "signs", "letter"]) (sc := defScope s_law_names) (by decide +kernel)) (fun _ _ _ _ _ => (pg_name (i := 2) sc_law_names.nd rfl (Or.inl rfl))) (fun _ _ _ _ _ => (pts_one (pt_cmpR (eqK K hr) (pe_call (ok_law_draw T) (hr.mono (by decide)) (by rfl) T.m_law_draw T.F_law_draw.kp T.b_law_draw .nil pass0 (pa_cons (pv 0) (pa_cons pe_int pa_nil))) pe_int (nomark _)))) (fun _ _ _ _ _ => (pv 2)))) pa_nil))))))), ?_⟩
    walk_at "kk"
    intro l hl
    have hpl := hp.ne hl
    walk_at "kk"
    refine ⟨p, 6, n, rfl, by omega, by omega, hp.up (upd_ne hpl) (Nat.le_refl _), by omega, fun H1 d g1 p1 d1 d2 => ?_⟩
    walk_at "kk"
    obtain ⟨s, hs, es⟩ := menuN_at d1 d2
    have hsl := menu_len s hs
    dsimp only
    apply k_rv
    · exact rv_ixL (Evl.sq_of (g1 l _ (by simpa using hpl.symm) upd_same)) (at_int d1 es)
    walk_at "kk"
    have g1' : Gr [p] H H1 := (Gr.new hl).trans g1

    refine lc_go (walk_str (z := s)) (fun D i H' => p ≠ D ∧ H D = none ∧ Gr [D, p] H H' ∧ Pu H' p (n + 1 + i) ∧ ∃ cs : List Nat, H' D = some (.lst ((singles cs).map V.str)) ∧ cs.Sublist ((tl s).take i)) (by intro _; rfl) (fun D hD => ?_) (fun _ _ _ _ _ => trivial) (fun D i x Ha Hb hi iv hy => ?_) (fun D H' iv => ?_)
    · have hpD := p1.ne hD
      exact ⟨hpD, g1'.free hD (by simpa using hpD.symm), (g1'.more (by simp)).trans (Gr.mut (by simp)), p1.up (upd_ne hpD) (by omega), [], upd_same, by simp⟩
    · obtain ⟨hpD, hD0, g2, p2, cs, e2, m2⟩ := iv
      obtain ⟨rfl, c, hc, rfl⟩ := hy
      have hc' : (tl s)[i]? = some c := by simpa [tl] using hc
      have hi4 : i < 4 := by
        have h5 := hsl.2
        simp [Str.length] at h5
        omega
      walk_at "kk"
      refine ⟨p, 2, n + 1 + i, rfl, by omega, by omega, p2, by omega, fun H3 d3 g3 p3 d31 d32 => ?_⟩
      have e3 : H3 D = some (.lst ((singles cs).map V.str)) := g3 D _ (by simpa using hpD.symm) e2
      have ht : (tl s).take (i + 1) = (tl s).take i ++ [c] := by rw [List.take_add_one, hc']; rfl
      walk_at "kk"
      refine k_ite (fun hb => ?_) (fun hb => ?_)
      · walk_at "kk"
        have hcl : cs.length ≤ 4 := by
          have := m2.length_le
          have h5 := hsl.2
          rw [len_tl] at h5
          rw [List.length_take] at this
          omega
        refine k_add e3 (by rw [List.length_map, singles_len]; omega) ⟨hpD, hD0, (g2.trans (g3.more (by simp))).trans (Gr.mut (by simp)), p3.up (upd_ne hpD) (by omega), cs ++ [c], ?_, ?_⟩
        · rw [upd_same]; simp [singles]
        · rw [ht]; exact m2.append (List.Sublist.refl _)
      · exact ⟨hpD, hD0, g2.trans (g3.more (by simp)), p3.up rfl (by omega), cs, e3, by rw [ht]; exact m2.trans (List.sublist_append_left _ _)⟩
    · obtain ⟨hpD, hD0, g2, p2, cs, e2, m2⟩ := iv
      have h5 := hsl.2
      have m3 : cs.Sublist (tl s) := m2.trans (List.take_sublist _ _)
      have hcl := m3.length_le
      rw [len_tl] at h5
      refine k_joinL (Evl.sq_of e2) (join_cost cs (by omega)) ?_
      rw [join_singles]
      walk_at "kk"
      intro t ht
      have hpt := p2.ne ht
      exact q _ t s (mk cs) ((g2.less hD0).trans (Gr.new ht)) (p2.up (upd_ne hpt) (by simp [tl] at h5; omega)) hpt.symm upd_same hs (by rw [tl_mk']; exact m3)
end
set_option Elab.async false
set_option linter.all false
set_option maxRecDepth 100000
set_option maxHeartbeats 4000000
section
variable {P : Program} {w : World} {K : PySem.W.Frag} {mg : Str → Option Value} {base : Heap}
theorem Pu.new {H : Hp} {p a : Addr} {n : Nat} {o : HO} (h : Pu H p n) (ha : H a = none) : Pu (upd H a o) p n := h.up (upd_ne (h.ne ha)) (Nat.le_refl _)
def spCond (K : PySem.W.Frag) : Sp := fun vs H Q _ => ∃ (p : Addr) (z : Str) (n : Nat), vs = [.ref p, .str z] ∧ 0 < z.length ∧ z.length ≤ 100 ∧ Pu H p n ∧ n < 2 ^ 38 ∧
  ∀ (H' : Hp) (v : V) (c : Cond), Gr [p] H H' → Pu H' p (n + 10000) → Dq K [p] H' v (enc c) → smc z c → Q v H'
theorem vo_letters : ∀ c ∈ tl ("vo" : Str), c = 118 ∨ c = 111 := by decide +kernel
theorem vo_len : ("vo" : Str).length = 2 := by decide +kernel
theorem ok_law_condition (T : Txt K mg) : FnOk P w K mg base CX0 4 T.a_law_condition T.fd_law_condition ["purse", "signs"] (spCond K) := by
  refine T.F_law_condition.ok sc_law_condition (fun vs H Q E h => ?_) (fun cdv A outer s H vs Q E hr h => ?_)
  · obtain ⟨p, z, n, rfl, _⟩ := h
    rfl
  · obtain ⟨p, z, n, rfl, hz, hz2, hp, hn, q⟩ := h
    refine ⟨_, (pss_cons (ps_set (i := 2) sc_law_condition.nd rfl (Or.inl rfl) (pe_callTy (tupK K) (by rfl) T.z_tuple B_tuple (pa_cons (pe_lc (own := [("turn", 6)]) (by rfl) sc_law_condition.nd (pi_range1 (by rfl) T.z_range (pa_cons (pe_call (ok_law_draw T) (hr.mono (by decide)) (by rfl) T.m_law_draw T.F_law_draw.kp T.b_law_draw .nil pass0 (pa_cons (pv 0) (pa_cons pe_int pa_nil))) pa_nil)) (blkOk_by (N := ["purse", "signs", "texts", "shape", "some", "found", "turn"]) (sc := defScope s_law_condition) (by decide +kernel)) (fun _ _ _ _ _ => (pg_name (i := 6) sc_law_condition.nd rfl (Or.inl rfl))) (fun _ _ _ _ _ => pts_nil) (fun _ _ _ _ _ => (pe_call (ok_law_text T) (hr.mono (by decide)) (by rfl) T.m_law_text T.F_law_text.kp T.b_law_text .nil pass0 (pa_cons (pv 0) (pa_cons (pv 1) (pa_cons pe_int (pa_cons pe_int pa_nil))))))) pa_nil)))
      (pss_cons (ps_set (i := 3) sc_law_condition.nd rfl (Or.inl rfl) (pe_call (ok_law_text T) (hr.mono (by decide)) (by rfl) T.m_law_text T.F_law_text.kp T.b_law_text .nil pass0 (pa_cons (pv 0) (pa_cons pe_str (pa_cons pe_int (pa_cons pe_int pa_nil))))))
      (pss_cons (ps_set (i := 4) sc_law_condition.nd rfl (Or.inl rfl) (pe_lst (pa_cons (pe_tup (pa_cons pe_str pa_nil)) (pa_cons (pe_tup (pa_cons pe_str (pa_cons (pe_call (ok_law_draw T) (hr.mono (by decide)) (by rfl) T.m_law_draw T.F_law_draw.kp T.b_law_draw .nil pass0 (pa_cons (pv 0) (pa_cons pe_int pa_nil))) pa_nil))) (pa_cons (pe_tup (pa_cons pe_str (pa_cons (pv 2) pa_nil))) (pa_cons (pe_tup (pa_cons pe_str pa_nil)) (pa_cons (pe_tup (pa_cons pe_str (pa_cons (pe_call (ok_law_draw T) (hr.mono (by decide)) (by rfl) T.m_law_draw T.F_law_draw.kp T.b_law_draw .nil pass0 (pa_cons (pv 0) (pa_cons pe_int pa_nil))) pa_nil))) pa_nil)))))))
      (pss_cons (ps_set (i := 5) sc_law_condition.nd rfl (Or.inl rfl) (pe_ix (ixK K) (pe_op (addK K) (pv 4) (pe_lst (pa_cons (pe_tup (pa_cons pe_str (pa_cons (pv 3) pa_nil))) pa_nil))) (pe_call (ok_law_draw T) (hr.mono (by decide)) (by rfl) T.m_law_draw T.F_law_draw.kp T.b_law_draw .nil pass0 (pa_cons (pv 0) (pa_cons pe_int pa_nil))) (fun _ _ => rfl)))
      (pss_one (ps_ret (pe_ifExp (pt_cmpR (eqK K hr) (pe_call (ok_law_draw T) (hr.mono (by decide)) (by rfl) T.m_law_draw T.F_law_draw.kp T.b_law_draw .nil pass0 (pa_cons (pv 0) (pa_cons pe_int pa_nil))) pe_int (nomark _)) (pe_tup (pa_cons pe_str (pa_cons (pv 5) pa_nil))) (pv 5)))))))), ?_⟩
    walk_at "kk"
    refine ⟨p, 3, n, rfl, by omega, by omega, hp, by omega, fun H1 d g1 p1 d1 d2 => ?_⟩
    walk_at "kk"
    refine k_onR1 (by omega) (lc_go (walk_range (lo := 0) (n := d.toNat)) (fun D i H' => p ≠ D ∧ H D = none ∧ Gr [D, p] H H' ∧ Pu H' p (n + 1 + i * 1001) ∧ ∃ ts : List Str, H' D = some (.lst (ts.map V.str)) ∧ ts.length = i ∧ ∀ t ∈ ts, t.length ≤ 2 ∧ ∀ c ∈ tl t, c ∈ tl z) (by intro _; rfl) (fun D hD => ?_) (fun _ _ _ _ _ => trivial) (fun D i x Ha Hb hi iv hy => ?_) (fun D H2 iv => ?_))
    · have hpD := p1.ne hD
      exact ⟨hpD, g1.free hD (by simpa using hpD.symm), (g1.more (by simp)).trans (Gr.mut (by simp)), p1.up (upd_ne hpD) (by omega), [], upd_same, rfl, by simp⟩
    · obtain ⟨hpD, hD0, g2, p2, ts, e2, l2, m2⟩ := iv
      obtain ⟨rfl, rfl⟩ := hy
      walk_at "kk"
      refine ⟨p, z, 0, 2, n + 1 + i * 1001, rfl, by omega, by omega, by omega, hz, hz2, p2, by omega, fun H3 x g3 p3 mx lx1 lx2 => ?_⟩
      have e3 : H3 D = some (.lst (ts.map V.str)) := g3 D _ (by simpa using hpD.symm) e2
      refine k_add e3 (by rw [List.length_map]; omega) ⟨hpD, hD0, (g2.trans (g3.more (by simp))).trans (Gr.mut (by simp)), p3.up (upd_ne hpD) (by omega), ts ++ [x], ?_, by simp [l2], fun t ht => ?_⟩
      · rw [upd_same]; simp
      · rcases List.mem_append.mp ht with h | h
        · exact m2 t h
        · rw [List.mem_singleton.mp h]; exact ⟨by omega, mx⟩
    · obtain ⟨hpD, hD0, g2, p2, ts, e2, l2, m2⟩ := iv
      have g2' := g2.less hD0
      walk_at "kk"
      refine k_tupOfL (Evl.sq_of e2) fun t1 ht1 => ?_
      have q1 : Dq K [p] _ (.ref t1) (.tuple (ts.map .str)) := Dq.newT (p2.live) ht1 (DqAll.strs ts)
      have p3 := p2.new (o := .tup (ts.map V.str)) ht1
      walk_at "kk"
      refine ⟨p, "vo", 0, 2, n + 1 + d.toNat * 1001, rfl, by omega, by omega, by omega, by rw [vo_len]; omega, by rw [vo_len]; omega, p3, by omega, fun H4 sh g4 p4 msh ls1 ls2 => ?_⟩
      walk_at "kk"
      intro a1 h1
      have p5 := p4.new (o := .tup [.str "vowel"]) h1
      have e1 : Dq K [p] _ (.ref a1) (enc0 .vowel) := Dq.newT p4.live h1 (.cons (Dq.str "vowel") .nil)
      walk_at "kk"
      refine ⟨p, 3, _, rfl, by omega, by omega, p5, by omega, fun H5 m g5 p6 m1 m2' => ?_⟩
      walk_at "kk"
      intro a2 h2
      have p7 := p6.new (o := .tup [.str "runs", .int m]) h2
      have e2 : Dq K [p] _ (.ref a2) (enc0 (.runs m)) := Dq.newT p6.live h2 (.cons (Dq.str "runs") (.cons (Dq.int m) .nil))
      walk_at "kk"
      intro a3 h3
      have p8 := p7.new (o := .tup [.str "ends", .ref t1]) h3
      have q2 : Dq K [p] (upd H5 a2 (.tup [.str "runs", .int m])) (.ref t1) (.tuple (ts.map .str)) := by walk_at "up"
      have e3 : Dq K [p] _ (.ref a3) (enc0 (.ends ts)) := Dq.newT p7.live h3 (.cons (Dq.str "ends") (.cons q2 .nil))
      walk_at "kk"
      intro a4 h4
      have p9 := p8.new (o := .tup [.str "double"]) h4
      have e4 : Dq K [p] _ (.ref a4) (enc0 .double) := Dq.newT p8.live h4 (.cons (Dq.str "double") .nil)
      walk_at "kk"
      refine ⟨p, 4, _, rfl, by omega, by omega, p9, by omega, fun H6 k g6 p10 k1 k2 => ?_⟩
      walk_at "kk"
      intro a5 h5
      have p11 := p10.new (o := .tup [.str "least", .int k]) h5
      have e5 : Dq K [p] _ (.ref a5) (enc0 (.least k)) := Dq.newT p10.live h5 (.cons (Dq.str "least") (.cons (Dq.int k) .nil))
      walk_at "kk"
      intro l1 hl1
      have p12 := p11.new (o := .lst [.ref a1, .ref a2, .ref a3, .ref a4, .ref a5]) hl1
      have hpl1 := p11.ne hl1
      walk_at "kk"
      intro a6 h6
      have p13 := p12.new (o := .tup [.str "shape", .str sh]) h6
      have e6 : Dq K [p] _ (.ref a6) (enc0 (.shape sh)) := Dq.newT p12.live h6 (.cons (Dq.str "shape") (.cons (Dq.str sh) .nil))
      have hl1' : (upd (upd (upd H6 a5 (.tup [.str "least", .int k])) l1 (.lst [.ref a1, .ref a2, .ref a3, .ref a4, .ref a5])) a6 (.tup [.str "shape", .str sh])) l1 = some (.lst [.ref a1, .ref a2, .ref a3, .ref a4, .ref a5]) := by
        rw [upd_ne (ne_of_none upd_same h6)]; exact upd_same
      walk_at "kk"
      intro l2' hl2
      have p14 := p13.new (o := .lst [.ref a6]) hl2
      walk_at "kk"
      dsimp only
      refine k_cat ((Gr.new (S := [p]) hl2) l1 _ (by simpa using hpl1.symm) hl1') upd_same (by simp) fun l3 hl3 => ?_
      have p15 := p14.new (o := .lst [.ref a1, .ref a2, .ref a3, .ref a4, .ref a5, .ref a6]) hl3
      have hpl3 := p14.ne hl3
      walk_at "kk"
      refine ⟨p, 6, _, rfl, by omega, by omega, p15, by omega, fun H7 d6 g7 p16 d61 d62 => ?_⟩
      have el3 : H7 l3 = some (.lst [.ref a1, .ref a2, .ref a3, .ref a4, .ref a5, .ref a6]) := g7 l3 _ (by simpa using hpl3.symm) upd_same
      let cs : List C0 := [.vowel, .runs m, .ends ts, .double, .least k, .shape sh]
      have hall : DqAll K [p] H7 [.ref a1, .ref a2, .ref a3, .ref a4, .ref a5, .ref a6] (cs.map enc0) :=
        .cons (by walk_at "up") (.cons (by walk_at "up") (.cons (by walk_at "up") (.cons (by walk_at "up") (.cons (by walk_at "up") (.cons (by walk_at "up") .nil)))))
      have hlt : d6.toNat < cs.length := by show d6.toNat < 6; omega
      obtain ⟨v, hv, qv⟩ := DpAll.get hall (i := d6.toNat) (d := enc0 cs[d6.toNat]) (by rw [List.getElem?_map, List.getElem?_eq_getElem hlt]; rfl)
      have qv : Dq K [p] H7 v (enc0 cs[d6.toNat]) := qv
      have hsm : sm0 z cs[d6.toNat] := by
        have hmem : cs[d6.toNat] ∈ cs := List.getElem_mem hlt
        have hallc : ∀ c ∈ cs, sm0 z c := by
          intro c hc
          simp only [cs, List.mem_cons, List.not_mem_nil, or_false] at hc
          rcases hc with h | h | h | h | h | h
          · rw [h]; trivial
          · rw [h]; exact ⟨m1, by omega⟩
          · rw [h]; exact ⟨by omega, m2⟩
          · rw [h]; trivial
          · rw [h]; exact ⟨k1, by omega⟩
          · rw [h]; exact ⟨by omega, fun c hc => vo_letters c (msh c hc)⟩
        exact hallc _ hmem
      dsimp only
      apply k_rv
      · exact rv_ixL (Evl.sq_of el3) (at_int d61 hv)
      walk_at "kk"
      have gAll : Gr [p] H H7 := g2'.trans ((Gr.new ht1).trans (g4.trans ((Gr.new h1).trans (g5.trans ((Gr.new h2).trans ((Gr.new h3).trans ((Gr.new h4).trans (g6.trans ((Gr.new h5).trans ((Gr.new hl1).trans ((Gr.new h6).trans ((Gr.new hl2).trans ((Gr.new hl3).trans g7)))))))))))))
      refine ⟨p, 3, _, rfl, by omega, by omega, p16, by omega, fun H8 d8 g8 p17 d81 d82 => ?_⟩
      walk_at "kk"
      refine k_ite (fun hb => ?_) (fun hb => ?_)
      · walk_at "kk"
        intro a7 h7
        exact q _ _ (.neg cs[d6.toNat]) (gAll.trans (g8.trans (Gr.new h7))) ((p17.new h7).up rfl (by omega)) (Dq.newT p17.live h7 (.cons (Dq.str "not") (.cons (qv.up g8) .nil))) hsm
      · walk_at "kk"
        exact q _ _ (.pos cs[d6.toNat]) (gAll.trans g8) (p17.up rfl (by omega)) (qv.up g8) hsm
end
set_option Elab.async false
set_option linter.all false
set_option maxRecDepth 100000
set_option maxHeartbeats 4000000
section
variable {P : Program} {w : World} {K : PySem.W.Frag} {mg : Str → Option Value} {base : Heap}
def spNum (K : PySem.W.Frag) : Sp := fun vs H Q _ => ∃ (v : V) (d : PyData), vs = [v] ∧ Th K H v d ∧ Q (.bl (isNum d)) H
theorem ok_is_number (T : Txt K mg) : FnOk P w K mg base CX0 1 T.a_is_number T.fd_is_number ["thing"] (spNum K) := by
  refine T.F_is_number.ok sc_is_number (fun vs H Q E h => ?_) (fun cdv A outer s H vs Q E hr h => ?_)
  · obtain ⟨x, d, rfl, _⟩ := h
    rfl
  · obtain ⟨v, d, rfl, ht, q⟩ := h
    refine ⟨_, (pss_one (ps_ret (pe_and (pe_callB (isiK K) (by rfl) T.z_isinstance B_isinstance (pa_cons (pv 0) (pa_cons (pe_bltn (v := .ty "int") (by rfl) T.z_int B_int (by rfl)) pa_nil))) (pe_and (pe_not (pe_callB (isiK K) (by rfl) T.z_isinstance B_isinstance (pa_cons (pv 0) (pa_cons (pe_bltn (v := .ty "bool") (by rfl) T.z_bool B_bool (by rfl)) pa_nil)))) (pe_one (pe_cmpR op_geA (pv 0) pe_int (nomark _))))))), ?_⟩
    walk_at "kk"
    refine k_isiD ht (kit_int d) ?_
    walk_at "kk"
    refine k_ite (fun hb => ?_) (fun hb => ?_)
    · walk_at "kk"
      refine k_isiD ht (kit_bool d) ?_
      walk_at "kk"
      refine k_ite (fun hb2 => ?_) (fun hb2 => ?_)
      · cases d <;> simp [isIntD, isBoolD] at hb hb2
        rcases ht with ht | ⟨a, kvs, _, _, e⟩
        · cases ht
          walk_at "kk"
          exact q
        · cases e
      · have e : isNum d = false := by cases d <;> simp [isIntD, isBoolD] at hb hb2 <;> rfl
        rw [e] at q
        exact q
    · have e : isNum d = false := by cases d <;> simp [isIntD] at hb <;> rfl
      rw [e] at q
      exact q
/-- whether a thing is a text of the letters -/
def spTextOf (K : PySem.W.Frag) : Sp := fun vs H Q _ => ∃ (v : V) (d : PyData) (y : Str), vs = [v, .str y] ∧ Th K H v d ∧ szd d ∧ ∀ H', Same H H' → Q (.bl (isTextOf d y)) H'
theorem ok_is_text_of (T : Txt K mg) : FnOk P w K mg base CX0 1 T.a_is_text_of T.fd_is_text_of ["thing", "letters"] (spTextOf K) := by
  refine T.F_is_text_of.ok sc_is_text_of (fun vs H Q E h => ?_) (fun cdv A outer s H vs Q E hr h => ?_)
  · obtain ⟨x, d, y, rfl, _⟩ := h
    rfl
  · obtain ⟨v, d, y, rfl, ht, hz, q⟩ := h
    refine ⟨_, (pss_one (ps_ret (pe_and (pe_callB (isiK K) (by rfl) T.z_isinstance B_isinstance (pa_cons (pv 0) (pa_cons (pe_bltn (v := .ty "str") (by rfl) T.z_str B_str (by rfl)) pa_nil))) (pe_one (pe_callB (allK K) (by rfl) T.z_all B_all (pa_cons (pe_lc (own := [("letter", 2)]) (by rfl) sc_is_text_of.nd (pi_str (pv 0)) (blkOk_by (N := ["thing", "letters", "letter"]) (sc := defScope s_is_text_of) (by decide +kernel)) (fun _ _ _ _ _ => (pg_name (i := 2) sc_is_text_of.nd rfl (Or.inl rfl))) (fun _ _ _ _ _ => pts_nil) (fun _ _ _ _ _ => (pe_cmpR op_inC (pv 2) (pv 1) (by rfl)))) pa_nil)))))), ?_⟩
    walk_at "kk"
    refine k_isiD ht (kit_str d) ?_
    walk_at "kk"
    refine k_ite (fun hb => ?_) (fun hb => ?_)
    · cases d <;> simp [isStrD] at hb
      rename_i x
      rcases ht with ht | ⟨a, kvs, _, _, e⟩
      · cases ht
        walk_at "kk"
        refine lc_mapS (fun c => .bl (decide (c ∈ tl y))) hz (by intro _; rfl) (fun c H1 hc s1 => EvS.of (by walk_at "val")) (fun D H' h1 h2 h3 => ?_)
        walk_at "kk"
        refine k_all (bs := (tl x).map fun c => decide (c ∈ tl y)) (Evl.sq_of (by rw [h3, List.map_map]; rfl)) ?_
        rw [List.all_map]
        exact q H' h2
      · cases e
    · have e : isTextOf d y = false := by cases d <;> simp [isStrD] at hb <;> rfl
      rw [e] at q
      exact q H (Same.refl H)
def spPlain (K : PySem.W.Frag) : Sp := fun vs H Q _ => ∃ (v : V) (d : PyData), vs = [v] ∧ Th K H v d ∧ shT d ∧ (∀ ds, d = .tuple ds → ∀ e ∈ ds, szd e) ∧ ∀ H', Same H H' → Q (.bl (isPl d)) H'
theorem ok_is_plain (T : Txt K mg) : FnOk P w K mg base CX0 2 T.a_is_plain T.fd_is_plain ["thing"] (spPlain K) := by
  refine T.F_is_plain.ok sc_is_plain (fun vs H Q E h => ?_) (fun cdv A outer s H vs Q E hr h => ?_)
  · obtain ⟨x, d, rfl, _⟩ := h
    rfl
  · obtain ⟨v, d, rfl, ht, hs, hz, q⟩ := h
    refine ⟨_, (pss_cons (ps_if (pt_not (pt_val (pe_callB (isiK K) (by rfl) T.z_isinstance B_isinstance (pa_cons (pv 0) (pa_cons (pe_bltn (v := .ty "tuple") (by rfl) T.z_tuple B_tuple (by rfl)) pa_nil))))) (pss_one (ps_ret pe_bl)) pss_nil)
      (pss_cons (ps_if (pt_cmpR (eqK K hr) (pe_callB (lenK K) (by rfl) T.z_len B_len (pa_cons (pv 0) pa_nil)) pe_int (nomark _)) (pss_one (ps_ret (pe_cmpR (inTK K hr) (pe_ix (ixK K) (pv 0) pe_int (fun _ _ => rfl)) (pe_tup (pa_cons pe_str (pa_cons pe_str pa_nil))) (by rfl)))) pss_nil)
      (pss_cons (ps_if (pt_cmpR (neK K hr) (pe_callB (lenK K) (by rfl) T.z_len B_len (pa_cons (pv 0) pa_nil)) pe_int (nomark _)) (pss_one (ps_ret pe_bl)) pss_nil)
      (pss_cons (ps_asg (pv 0) (tupleK K (n := 2) rfl (pgs_cons (pg_name (i := 1) sc_is_plain.nd rfl (Or.inl rfl)) (pgs_cons (pg_name (i := 2) sc_is_plain.nd rfl (Or.inl rfl)) pgs_nil))))
      (pss_cons (ps_if (pt_cmpR (inTK K hr) (pv 1) (pe_tup (pa_cons pe_str (pa_cons pe_str pa_nil))) (by rfl)) (pss_one (ps_ret (pe_call (ok_is_number T) (hr.mono (by decide)) (by rfl) T.m_is_number T.F_is_number.kp T.b_is_number .nil pass0 (pa_cons (pv 2) pa_nil)))) pss_nil)
      (pss_cons (ps_if (pt_cmpR (eqK K hr) (pv 1) pe_str (nomark _)) (pss_one (ps_ret (pe_and (pe_callB (isiK K) (by rfl) T.z_isinstance B_isinstance (pa_cons (pv 2) (pa_cons (pe_bltn (v := .ty "tuple") (by rfl) T.z_tuple B_tuple (by rfl)) pa_nil))) (pe_one (pe_callB (allK K) (by rfl) T.z_all B_all (pa_cons (pe_lc (own := [("text", 3)]) (by rfl) sc_is_plain.nd (tupIK K (pv 2)) (blkOk_by (N := ["thing", "kind", "value", "text"]) (sc := defScope s_is_plain) (by decide +kernel)) (fun _ _ _ _ _ => (pg_name (i := 3) sc_is_plain.nd rfl (Or.inl rfl))) (fun _ _ _ _ _ => pts_nil) (fun _ _ _ _ _ => (pe_callB (isiK K) (by rfl) T.z_isinstance B_isinstance (pa_cons (pv 3) (pa_cons (pe_bltn (v := .ty "str") (by rfl) T.z_str B_str (by rfl)) pa_nil))))) pa_nil)))))) pss_nil)
      (pss_one (ps_ret (pe_and (pe_cmpR (eqK K hr) (pv 1) pe_str (nomark _)) (pe_one (pe_call (ok_is_text_of T) (hr.mono (by decide)) (by rfl) T.m_is_text_of T.F_is_text_of.kp T.b_is_text_of .nil pass0 (pa_cons (pv 2) (pa_cons pe_str pa_nil))))))))))))), ?_⟩
    walk_at "kk"
    refine k_isiD ht (kit_tup d) ?_
    walk_at "kk"
    by_cases htup : ∃ ds, d = .tuple ds
    · obtain ⟨ds, rfl⟩ := htup
      refine k_ite (fun hb => by cases hb) (fun _ => ?_)
      rcases ht with ht | ⟨_, _, _, _, e⟩
      rotate_left
      · cases e
      cases ht with
      | @tup a xs _ hx ha =>
        have hz := hz ds rfl
        walk_at "kk"
        cases ha with
        | nil =>
          walk_at "kk"
          exact q H (Same.refl H)
        | @cons x xr e er h1 hr1 =>
          have hsc := shaped_cons (hs _ rfl)
          cases hr1 with
          | nil =>
            refine k_ite (fun _ => ?_) (fun hb => by simp at hb)
            walk_at "kk"
            intro t ht
            dsimp only
            apply k_rv
            · exact rv_inTD (h1.up (same_new ht)) (.tup (Evl.st_of upd_same) (.cons (.str _) (.cons (.str _) .nil))) hsc.1 (by decide +kernel)
            exact q _ (same_new ht)
          | @cons y yr e2 er2 h2 hr2 =>
            have hsc2 := shaped_cons hsc.2
            cases hr2 with
            | nil =>
              refine k_ite (fun hb => by simp at hb) (fun _ => ?_)
              walk_at "kk"
              refine k_ite (fun hb => by simp at hb) (fun _ => ?_)
              walk_at "kk"
              refine k_unp2 hx ?_
              walk_at "kk"
              intro t ht
              have s1 : Same H (upd H t (.tup [.str "runs", .str "least"])) := same_new ht
              dsimp only
              apply k_rv
              · exact rv_inTD (h1.up s1) (.tup (Evl.st_of upd_same) (.cons (.str _) (.cons (.str _) .nil))) hsc.1 (by decide +kernel)
              walk_at "kk"
              refine k_ite (fun hb => ?_) (fun hb => ?_)
              · walk_at "kk"
                have hb : inT ["runs", "least"] e = true := hb
                have e : isPl (.tuple [e, e2]) = isNum e2 := by show (if inT ["runs", "least"] e then isNum e2 else _) = _; rw [if_pos hb]
                rw [e] at q
                exact ⟨_, _, rfl, .inl (h2.up s1), q _ s1⟩
              · walk_at "kk"
                dsimp only
                apply k_rv
                · exact rv_eqD (h1.up s1) (.str _) hsc.1 (by decide +kernel)
                walk_at "kk"
                have hb' : inT ["runs", "least"] e = false := hb
                refine k_ite (fun hb2 => ?_) (fun hb2 => ?_)
                · have ee : isPl (.tuple [e, e2]) = isTexts e2 := by show (if inT ["runs", "least"] e = true then isNum e2 else if PyData.eqv e (.str "ends") = true then isTexts e2 else _) = _; rw [hb', if_neg (by decide), if_pos hb2]
                  rw [ee] at q
                  walk_at "kk"
                  refine k_isiD (.inl (h2.up s1)) (kit_tup e2) ?_
                  walk_at "kk"
                  refine k_ite (fun hb4 => ?_) (fun hb4 => ?_)
                  · obtain ⟨ts, rfl⟩ : ∃ ts, e2 = .tuple ts := by cases e2 <;> first | exact ⟨_, rfl⟩ | cases hb4
                    cases h2.up s1 with
                    | @tup a2 xs2 _ hx2 ha2 =>
                      walk_at "kk"
                      refine k_onT hx2 (lc_mapTD (fun d => .bl (isStrD d)) hx2 ha2 (show ts.length ≤ 50000 from hz (.tuple ts) (by simp)) (by intro _; rfl) (fun v d H1 hd hv s2 Q2 k2 => ?_) (fun D H' n1 s2 e3 => ?_))
                      · walk_at "kk"
                        exact k_isiD (.inl hv) (kit_str d) (k2 _ (Same.refl _))
                      · walk_at "kk"
                        refine k_all (bs := ts.map isStrD) (Evl.sq_of (by rw [e3, List.map_map]; rfl)) ?_
                        rw [List.all_map]
                        exact q H' (s1.trans s2)
                  · have e3 : isTexts e2 = false := by cases e2 <;> simp [isTupD] at hb4 <;> rfl
                    rw [e3] at q
                    exact q _ s1
                · have ee : isPl (.tuple [e, e2]) = (PyData.eqv e (.str "shape") && isTextOf e2 "vo") := by show (if inT ["runs", "least"] e = true then isNum e2 else if PyData.eqv e (.str "ends") = true then isTexts e2 else _) = _; rw [hb', if_neg (by decide), hb2, if_neg (by decide)]
                  rw [ee] at q
                  walk_at "kk"
                  dsimp only
                  apply k_rv
                  · exact rv_eqD (h1.up s1) (.str _) hsc.1 (by decide +kernel)
                  walk_at "kk"
                  refine k_ite (fun hb3 => ?_) (fun hb3 => ?_)
                  · walk_at "kk"
                    rw [hb3, Bool.true_and] at q
                    exact ⟨_, _, _, rfl, .inl (h2.up s1), hz _ (by simp), fun H' s2 => q H' (s1.trans s2)⟩
                  · rw [hb3, Bool.false_and] at q
                    exact q _ s1
            | @cons z zr e3 er3 h3 hr3 =>
              refine k_ite (fun hb => by simp at hb; omega) (fun _ => ?_)
              walk_at "kk"
              refine k_ite (fun hb => ?_) (fun hb => by simp at hb; omega)
              walk_at "kk"
              exact q H (Same.refl H)
    · have e : isPl d = false := by
        cases d <;> first | rfl | exact absurd ⟨_, rfl⟩ htup
      have e2 : isTupD d = false := by
        cases d <;> first | rfl | exact absurd ⟨_, rfl⟩ htup
      rw [e2]
      refine k_ite (fun _ => ?_) (fun hb => by cases hb)
      walk_at "kk"
      rw [e] at q
      exact q H (Same.refl H)
end
set_option Elab.async false
set_option linter.all false
set_option maxRecDepth 100000
set_option maxHeartbeats 4000000
section
variable {P : Program} {w : World} {K : PySem.W.Frag} {mg : Str → Option Value} {base : Heap}
def spCd (K : PySem.W.Frag) : Sp := fun vs H Q _ => ∃ (v : V) (d : PyData), vs = [v] ∧ Th K H v d ∧ shT d ∧ szc2 d ∧ ∀ H', Same H H' → Q (.bl (isCd d)) H'
theorem ok_is_condition (T : Txt K mg) : FnOk P w K mg base CX0 3 T.a_is_condition T.fd_is_condition ["thing"] (spCd K) := by
  refine T.F_is_condition.ok sc_is_condition (fun vs H Q E h => ?_) (fun cdv A outer s H vs Q E hr h => ?_)
  · obtain ⟨x, d, rfl, _⟩ := h
    rfl
  · obtain ⟨v, d, rfl, ht, hs, hz, q⟩ := h
    refine ⟨_, (pss_cons (ps_if (PW.pt (pw_and (pt_val (pe_callB (isiK K) (by rfl) T.z_isinstance B_isinstance (pa_cons (pv 0) (pa_cons (pe_bltn (v := .ty "tuple") (by rfl) T.z_tuple B_tuple (by rfl)) pa_nil)))) (pw_and (pt_cmpR (eqK K hr) (pe_callB (lenK K) (by rfl) T.z_len B_len (pa_cons (pv 0) pa_nil)) pe_int (nomark _)) (pw_and1 (pt_cmpR (eqK K hr) (pe_ix (ixK K) (pv 0) pe_int (fun _ _ => rfl)) pe_str (nomark _)))))) (pss_one (ps_ret (pe_call (ok_is_plain T) (hr.mono (by decide)) (by rfl) T.m_is_plain T.F_is_plain.kp T.b_is_plain .nil pass0 (pa_cons (pe_ix (ixK K) (pv 0) pe_int (fun _ _ => rfl)) pa_nil)))) pss_nil)
      (pss_one (ps_ret (pe_call (ok_is_plain T) (hr.mono (by decide)) (by rfl) T.m_is_plain T.F_is_plain.kp T.b_is_plain .nil pass0 (pa_cons (pv 0) pa_nil))))), ?_⟩
    walk_at "kk"
    refine k_isiD ht (kit_tup d) ?_
    walk_at "kk"
    have plain : isCd d = isPl d → ∃ (v' : V) (d' : PyData), [v] = [v'] ∧ Th K H v' d' ∧ shT d' ∧ szw d' ∧ ∀ H', Same H H' → Q (.bl (isPl d')) H' := fun e => ⟨v, d, rfl, ht, hs, hz.1, fun H' s1 => e ▸ q H' s1⟩
    by_cases htup : ∃ ds, d = .tuple ds
    · obtain ⟨ds, rfl⟩ := htup
      refine k_ite (fun _ => ?_) (fun hb => by cases hb)
      rcases ht with ht | ⟨_, _, _, _, e⟩
      rotate_left
      · cases e
      cases ht with
      | @tup a xs _ hx ha =>
        have hl := ha.len
        walk_at "kk"
        by_cases h2 : ∃ e1 e2, ds = [e1, e2]
        · obtain ⟨e1, e2, rfl⟩ := h2
          obtain ⟨x1, x2, rfl, h1, h2⟩ : ∃ x1 x2, xs = [x1, x2] ∧ Dp K H x1 e1 ∧ Dp K H x2 e2 := by
            cases ha with
            | cons h1 hr =>
              cases hr with
              | cons h2 hr2 =>
                cases hr2
                exact ⟨_, _, rfl, h1, h2⟩
          have hsc := shaped_cons (hs _ rfl)
          have hsc2 := shaped_cons hsc.2
          refine k_ite (fun _ => ?_) (fun hb => by simp at hb)
          walk_at "kk"
          apply k_rv
          · exact rv_eqD h1 (.str _) hsc.1 (by decide +kernel)
          walk_at "kk"
          refine k_ite (fun hb => ?_) (fun hb => ?_)
          · walk_at "kk"
            have e : isCd (.tuple [e1, e2]) = isPl e2 := by show (if _ then _ else _) = _; rw [if_pos hb]
            exact ⟨_, _, rfl, .inl h2, (fun _ z => z ▸ hsc2.1), hz.2 _ _ rfl, fun H' s1 => e ▸ q H' s1⟩
          · walk_at "kk"
            exact plain (by show (if _ then _ else _) = _; rw [hb]; rfl)
        · refine k_ite (fun hb => ?_) (fun hb => ?_)
          · exfalso
            have hb := of_decide_eq_true hb
            have hb : ds.length = 2 := by omega
            match ds, h2, hb with
            | [e1, e2], h2, _ => exact h2 ⟨_, _, rfl⟩
          · walk_at "kk"
            refine plain ?_
            match ds, h2 with
            | [], _ => rfl
            | [_], _ => rfl
            | [_, _], h2 => exact absurd ⟨_, _, rfl⟩ h2
            | _ :: _ :: _ :: _, _ => rfl
    · have e2 : isTupD d = false := by
        cases d <;> first | rfl | exact absurd ⟨_, rfl⟩ htup
      rw [e2]
      refine k_ite (fun hb => by cases hb) (fun _ => ?_)
      walk_at "kk"
      refine plain ?_
      cases d <;> first | rfl | exact absurd ⟨_, rfl⟩ htup
end
set_option Elab.async false
set_option linter.all false
set_option maxRecDepth 100000
set_option maxHeartbeats 4000000
section
variable {P : Program} {w : World} {K : PySem.W.Frag} {mg : Str → Option Value} {base : Heap}
theorem ok_InvalidLetters_init (T : Txt K mg) : FnOk P w K mg base CX0 1 T.aI_InvalidLetters T.fdI_InvalidLetters ["self", "thing"] (spInit T.C_InvalidLetters "thing") := by
  refine T.FI_InvalidLetters.ok sc_InvalidLetters_init (fun vs H Q E h => ?_) (fun cdv A outer s H vs Q E hr h => ?_)
  · obtain ⟨x, d, rfl, _⟩ := h
    rfl
  · obtain ⟨a, y, rfl, ha, q⟩ := h
    refine ⟨_, (pss_one (ps_ost (pv 0) (pv 1))), ?_⟩
    apply k_ost
    walk_at "kk"
    exact ⟨a, _, rfl, T.x_InvalidLetters, T.n_InvalidLetters_thing, .inl ⟨ha, q⟩⟩
theorem ok_InvalidVowels_init (T : Txt K mg) : FnOk P w K mg base CX0 1 T.aI_InvalidVowels T.fdI_InvalidVowels ["self", "thing"] (spInit T.C_InvalidVowels "thing") := by
  refine T.FI_InvalidVowels.ok sc_InvalidVowels_init (fun vs H Q E h => ?_) (fun cdv A outer s H vs Q E hr h => ?_)
  · obtain ⟨x, d, rfl, _⟩ := h
    rfl
  · obtain ⟨a, y, rfl, ha, q⟩ := h
    refine ⟨_, (pss_one (ps_ost (pv 0) (pv 1))), ?_⟩
    apply k_ost
    walk_at "kk"
    exact ⟨a, _, rfl, T.x_InvalidVowels, T.n_InvalidVowels_thing, .inl ⟨ha, q⟩⟩
theorem ok_InvalidText_init (T : Txt K mg) : FnOk P w K mg base CX0 1 T.aI_InvalidText T.fdI_InvalidText ["self", "thing"] (spInit T.C_InvalidText "thing") := by
  refine T.FI_InvalidText.ok sc_InvalidText_init (fun vs H Q E h => ?_) (fun cdv A outer s H vs Q E hr h => ?_)
  · obtain ⟨x, d, rfl, _⟩ := h
    rfl
  · obtain ⟨a, y, rfl, ha, q⟩ := h
    refine ⟨_, (pss_one (ps_ost (pv 0) (pv 1))), ?_⟩
    apply k_ost
    walk_at "kk"
    exact ⟨a, _, rfl, T.x_InvalidText, T.n_InvalidText_thing, .inl ⟨ha, q⟩⟩
theorem ok_InvalidConditions_init (T : Txt K mg) : FnOk P w K mg base CX0 1 T.aI_InvalidConditions T.fdI_InvalidConditions ["self", "place"] (spInit T.C_InvalidConditions "place") := by
  refine T.FI_InvalidConditions.ok sc_InvalidConditions_init (fun vs H Q E h => ?_) (fun cdv A outer s H vs Q E hr h => ?_)
  · obtain ⟨x, d, rfl, _⟩ := h
    rfl
  · obtain ⟨a, y, rfl, ha, q⟩ := h
    refine ⟨_, (pss_one (ps_ost (pv 0) (pv 1))), ?_⟩
    apply k_ost
    walk_at "kk"
    exact ⟨a, _, rfl, T.x_InvalidConditions, T.n_InvalidConditions_place, .inl ⟨ha, q⟩⟩
theorem ok_InvalidRules_init (T : Txt K mg) : FnOk P w K mg base CX0 1 T.aI_InvalidRules T.fdI_InvalidRules ["self", "place"] (spInit T.C_InvalidRules "place") := by
  refine T.FI_InvalidRules.ok sc_InvalidRules_init (fun vs H Q E h => ?_) (fun cdv A outer s H vs Q E hr h => ?_)
  · obtain ⟨x, d, rfl, _⟩ := h
    rfl
  · obtain ⟨a, y, rfl, ha, q⟩ := h
    refine ⟨_, (pss_one (ps_ost (pv 0) (pv 1))), ?_⟩
    apply k_ost
    walk_at "kk"
    exact ⟨a, _, rfl, T.x_InvalidRules, T.n_InvalidRules_place, .inl ⟨ha, q⟩⟩
theorem ok_InvalidMode_init (T : Txt K mg) : FnOk P w K mg base CX0 1 T.aI_InvalidMode T.fdI_InvalidMode ["self", "thing"] (spInit T.C_InvalidMode "thing") := by
  refine T.FI_InvalidMode.ok sc_InvalidMode_init (fun vs H Q E h => ?_) (fun cdv A outer s H vs Q E hr h => ?_)
  · obtain ⟨x, d, rfl, _⟩ := h
    rfl
  · obtain ⟨a, y, rfl, ha, q⟩ := h
    refine ⟨_, (pss_one (ps_ost (pv 0) (pv 1))), ?_⟩
    apply k_ost
    walk_at "kk"
    exact ⟨a, _, rfl, T.x_InvalidMode, T.n_InvalidMode_thing, .inl ⟨ha, q⟩⟩
theorem ok_SameEnding_init (T : Txt K mg) : FnOk P w K mg base CX0 1 T.aI_SameEnding T.fdI_SameEnding ["self", "ending"] (spInit T.C_SameEnding "ending") := by
  refine T.FI_SameEnding.ok sc_SameEnding_init (fun vs H Q E h => ?_) (fun cdv A outer s H vs Q E hr h => ?_)
  · obtain ⟨x, d, rfl, _⟩ := h
    rfl
  · obtain ⟨a, y, rfl, ha, q⟩ := h
    refine ⟨_, (pss_one (ps_ost (pv 0) (pv 1))), ?_⟩
    apply k_ost
    walk_at "kk"
    exact ⟨a, _, rfl, T.x_SameEnding, T.n_SameEnding_ending, .inl ⟨ha, q⟩⟩
theorem ok_InvalidSteps_init (T : Txt K mg) : FnOk P w K mg base CX0 1 T.aI_InvalidSteps T.fdI_InvalidSteps ["self", "place"] (spInit T.C_InvalidSteps "place") := by
  refine T.FI_InvalidSteps.ok sc_InvalidSteps_init (fun vs H Q E h => ?_) (fun cdv A outer s H vs Q E hr h => ?_)
  · obtain ⟨x, d, rfl, _⟩ := h
    rfl
  · obtain ⟨a, y, rfl, ha, q⟩ := h
    refine ⟨_, (pss_one (ps_ost (pv 0) (pv 1))), ?_⟩
    apply k_ost
    walk_at "kk"
    exact ⟨a, _, rfl, T.x_InvalidSteps, T.n_InvalidSteps_place, .inl ⟨ha, q⟩⟩
theorem ok_InvalidExceptions_init (T : Txt K mg) : FnOk P w K mg base CX0 1 T.aI_InvalidExceptions T.fdI_InvalidExceptions ["self", "word"] (spInit T.C_InvalidExceptions "word") := by
  refine T.FI_InvalidExceptions.ok sc_InvalidExceptions_init (fun vs H Q E h => ?_) (fun cdv A outer s H vs Q E hr h => ?_)
  · obtain ⟨x, d, rfl, _⟩ := h
    rfl
  · obtain ⟨a, y, rfl, ha, q⟩ := h
    refine ⟨_, (pss_one (ps_ost (pv 0) (pv 1))), ?_⟩
    apply k_ost
    walk_at "kk"
    exact ⟨a, _, rfl, T.x_InvalidExceptions, T.n_InvalidExceptions_word, .inl ⟨ha, q⟩⟩
def spIsList (K : PySem.W.Frag) : Sp := fun vs H Q _ => ∃ (v : V) (t : Value) (b : Bool), vs = [v] ∧ TyX K H v t ∧ PySem.W.kitAny K t (["list", "tuple"].map Value.type) = some b ∧ ∀ H', Same H H' → Q (.bl b) H'
theorem ok_is_list (T : Txt K mg) : FnOk P w K mg base CX0 1 T.a_is_list T.fd_is_list ["thing"] (spIsList K) := by
  refine T.F_is_list.ok sc_is_list (fun vs H Q E h => ?_) (fun cdv A outer s H vs Q E hr h => ?_)
  · obtain ⟨v, t, b, rfl, _⟩ := h
    rfl
  · obtain ⟨v, t, b, rfl, ty, e, q⟩ := h
    refine ⟨_, (pss_one (ps_ret (pe_callB (isiTK K) (by rfl) T.z_isinstance B_isinstance (pa_cons (pv 0) (pa_cons (pe_tup (pa_cons (pe_bltn (v := .ty "list") (by rfl) T.z_list B_list (by rfl)) (pa_cons (pe_bltn (v := .ty "tuple") (by rfl) T.z_tuple B_tuple (by rfl)) pa_nil))) pa_nil))))), ?_⟩
    walk_at "kk"
    intro p hp
    exact k_isiT2 (ns := ["list", "tuple"]) (ty.up (same_new hp)) upd_same e (q _ (same_new hp))
def isWordOf (d : PyData) (y : Str) : Bool := isTextOf d y && (match d with
  | .str x => decide (0 < x.length)
  | _ => false)
def spWordOf (K : PySem.W.Frag) : Sp := fun vs H Q _ => ∃ (v : V) (d : PyData) (y : Str), vs = [v, .str y] ∧ Th K H v d ∧ szd d ∧ ∀ H', Same H H' → Q (.bl (isWordOf d y)) H'
theorem ok_is_word_of (T : Txt K mg) : FnOk P w K mg base CX0 2 T.a_is_word_of T.fd_is_word_of ["thing", "letters"] (spWordOf K) := by
  refine T.F_is_word_of.ok sc_is_word_of (fun vs H Q E h => ?_) (fun cdv A outer s H vs Q E hr h => ?_)
  · obtain ⟨x, d, y, rfl, _⟩ := h
    rfl
  · obtain ⟨v, d, y, rfl, ht, hz, q⟩ := h
    refine ⟨_, (pss_one (ps_ret (pe_and (pe_call (ok_is_text_of T) (hr.mono (by decide)) (by rfl) T.m_is_text_of T.F_is_text_of.kp T.b_is_text_of .nil pass0 (pa_cons (pv 0) (pa_cons (pv 1) pa_nil))) (pe_one (pe_cmpR op_gtA (pe_callB (lenK K) (by rfl) T.z_len B_len (pa_cons (pv 0) pa_nil)) pe_int (nomark _)))))), ?_⟩
    walk_at "kk"
    refine ⟨v, d, y, rfl, ht, hz, fun H1 s1 => ?_⟩
    walk_at "kk"
    refine k_ite (fun hb => ?_) (fun hb => ?_)
    · cases d <;> try (cases hb)
      rename_i x
      rcases ht with ht | ⟨a, kvs, _, _, e⟩
      · cases ht
        have hz : x.length ≤ 50000 := hz
        walk_at "kk"
        have e : isWordOf (.str x) y = decide ((0 : Int) < (x.length : Int)) := by
          show (isTextOf (.str x) y && decide (0 < x.length)) = _
          rw [hb, Bool.true_and]
          exact decide_eq_decide.mpr (by omega)
        rw [← e]
        exact q _ s1
      · cases e
    · have e : isWordOf d y = false := by unfold isWordOf; rw [hb]; rfl
      rw [← e]
      exact q _ s1
/-- the mode is one -/
def isMode (d : PyData) : Bool := [PyData.str "longest", .str "first"].any fun z => PyData.eqv z d
def spMode (T : Txt K mg) : Sp := fun vs H Q E => ∃ (v : V) (d : PyData), vs = [v] ∧ Dp K H v d ∧ SeqAt.shaped d = true ∧ ((isMode d = true ∧ ∀ H', Same H H' → Q .non H') ∨ (isMode d = false ∧ ∀ H' dd, Same H H' → H' dd = some (.xd [("thing", v)]) → E (.ref T.C_InvalidMode) (some dd) H'))
theorem ok_check_mode (T : Txt K mg) : FnOk P w K mg base (L2.CX P w) 3 T.a_check_mode T.fd_check_mode ["mode"] (spMode T) := by
  refine T.F_check_mode.okX sc_check_mode (fun vs H Q E h => ?_) (fun cdv A outer s H vs Q E hr h => ?_)
  · obtain ⟨v, d, rfl, _⟩ := h
    rfl
  · obtain ⟨v, d, rfl, hv, hs, q⟩ := h
    refine ⟨_, (pss_one (ps_if (pt_cmpR (notInTK K hr) (pv 0) (pe_tup (pa_cons pe_str (pa_cons pe_str pa_nil))) (by rfl)) (pss_one (ps_raise rfl (takes_of rfl rfl rfl rfl) (pmk_oex T.x_InvalidMode T.i_InvalidMode T.t_InvalidMode (ok_InvalidMode_init T) (hr.mono (by decide)) T.bI_InvalidMode .nil pass0 (by rfl) T.mc_InvalidMode (pa_cons (pv 0) pa_nil)))) pss_nil)), ?_⟩
    walk_at "kk"
    intro p hp
    apply k_rv
    · exact rv_notInTD (hv.up (same_new hp)) (.tup (Evl.st_of upd_same) (.cons (.str _) (.cons (.str _) .nil))) hs (by decide +kernel)
    walk_at "kk"
    rcases q with ⟨e, q⟩ | ⟨e, q⟩
    · rw [show ([PyData.str "longest", .str "first"].any fun z => PyData.eqv z d) = true from e]
      refine k_ite (fun hb => by cases hb) (fun _ => ?_)
      walk_at "kk"
      exact q _ (same_new hp)
    · rw [show ([PyData.str "longest", .str "first"].any fun z => PyData.eqv z d) = false from e]
      refine k_ite (fun _ => ?_) (fun hb => by cases hb)
      exact k_mkV rfl fun H2 dd s2 e2 => q H2 dd ((same_new hp).trans s2) e2
/-- all are conditions, or the first that is none -/
def condR (T : Txt K mg) (v : V) (H : Hp) (N : Hp → Prop) (E : XK) : Prop :=
  (∃ d, Th K H v d ∧ PySem.W.kitAny K (.type (tyName d)) (["list", "tuple"].map Value.type) = some false ∧ ∀ H' dd, Same H H' → H' dd = some (.xd [("place", .non)]) → E (.ref T.C_InvalidConditions) (some dd) H') ∨
  (∃ (a : Addr) (t : Bool) (xs : List V) (ds : List PyData), v = .ref a ∧ SqB K t H a xs ∧ ds.length = xs.length ∧ xs.length ≤ 50000 ∧ (∀ (i : Nat) (x : V), xs[i]? = some x → ∃ d, ds[i]? = some d ∧ Th K H x d ∧ shT d ∧ szc2 d) ∧
    ((∀ d ∈ ds, isCd d = true) → ∀ H', Same H H' → N H') ∧
    (∀ (i : Nat) d, ds[i]? = some d → isCd d = false → (∀ (j : Nat) d', j < i → ds[j]? = some d' → isCd d' = true) → ∀ H' dd, Same H H' → H' dd = some (.xd [("place", .int (i : Nat))]) → E (.ref T.C_InvalidConditions) (some dd) H'))
theorem kit_lt (K : PySem.W.Frag) (t : Bool) : PySem.W.kitAny K (.type (if t then "tuple" else "list")) (["list", "tuple"].map Value.type) = some true := by
  cases t with
  | false => exact kitAny_cons (b := true) (kit_ty (by decide +kernel)) (fun z => by cases z) fun _ => rfl
  | true => exact kitAny_cons (b := false) (kit_ty (by decide +kernel)) (fun _ => kitAny_cons (b := true) (kit_ty (by decide +kernel)) (fun z => by cases z) fun _ => rfl) fun z => by cases z
theorem ok_check_conditions (T : Txt K mg) : FnOk P w K mg base (L2.CX P w) 4 T.a_check_conditions T.fd_check_conditions ["conditions"] (fun vs H Q E => ∃ v, vs = [v] ∧ condR T v H (Q .non) E) := by
  refine T.F_check_conditions.okX sc_check_conditions (fun vs H Q E h => ?_) (fun cdv A outer s H vs Q E hr h => ?_)
  · obtain ⟨v, rfl, _⟩ := h
    rfl
  · obtain ⟨v, rfl, h⟩ := h
    refine ⟨_, (pss_cons (ps_if (pt_not (pt_val (pe_call (ok_is_list T) (hr.mono (by decide)) (by rfl) T.m_is_list T.F_is_list.kp T.b_is_list .nil pass0 (pa_cons (pv 0) pa_nil)))) (pss_one (ps_raise rfl (takes_of rfl rfl rfl rfl) (pmk_oex T.x_InvalidConditions T.i_InvalidConditions T.t_InvalidConditions (ok_InvalidConditions_init T) (hr.mono (by decide)) T.bI_InvalidConditions .nil pass0 (by rfl) T.mc_InvalidConditions (pa_cons pe_non pa_nil)))) pss_nil)
      (pss_one (ps_for (passes_of rfl) rfl (enumK K (by rfl) T.z_enumerate (pa_cons (pv 0) pa_nil)) (tupleK K (n := 2) rfl (pgs_cons (pg_name (i := 1) sc_check_conditions.nd rfl (Or.inl rfl)) (pgs_cons (pg_name (i := 2) sc_check_conditions.nd rfl (Or.inl rfl)) pgs_nil))) (pss_one (ps_if (pt_not (pt_val (pe_call (ok_is_condition T) (hr.mono (by decide)) (by rfl) T.m_is_condition T.F_is_condition.kp T.b_is_condition .nil pass0 (pa_cons (pv 2) pa_nil)))) (pss_one (ps_raise rfl (takes_of rfl rfl rfl rfl) (pmk_oex T.x_InvalidConditions T.i_InvalidConditions T.t_InvalidConditions (ok_InvalidConditions_init T) (hr.mono (by decide)) T.bI_InvalidConditions .nil pass0 (by rfl) T.mc_InvalidConditions (pa_cons (pv 1) pa_nil)))) pss_nil))))), ?_⟩
    walk_at "kk"
    rcases h with ⟨d, hv, e, q⟩ | ⟨a, t, xs, ds, rfl, hx, hdl, hl, hd, q1, q2⟩
    · refine ⟨v, _, false, rfl, hv.ty, e, fun H1 s1 => ?_⟩
      walk_at "kk"
      exact k_mkR fun H2 dd s2 e2 => q H2 dd (s1.trans s2) e2
    · refine ⟨.ref a, _, true, rfl, hx.ty, kit_lt K t, fun H1 s1 => ?_⟩
      walk_at "kk"
      refine k_onEB (hx.up s1) ?_
      refine for_go (walk_eB (xs := xs)) (fun i σ H' => Same H H' ∧ (∀ (j : Nat) d', j < i → ds[j]? = some d' → isCd d' = true) ∧ ∃ y1 y2, σ = [some (.ref a), y1, y2]) ⟨s1, (fun j d' hj => (nomatch hj)), none, none, rfl⟩ (fun i σ H' _ iv => hx.up iv.1) (fun i x σ Ha Hb hi iv hy => ?_) (fun σ H' iv => ?_)
      · obtain ⟨s2, good, y1, y2, rfl⟩ := iv
        obtain ⟨p, rfl, hp, rfl⟩ := hy
        obtain ⟨d, ed, th, sh, sz⟩ := hd i (xs.getD i .non) (by rw [List.getD_eq_getElem?_getD, List.getElem?_eq_getElem hi]; rfl)
        have s3 := s2.trans (same_new (o := .tup [.int (i : Nat), xs.getD i .non]) hp)
        refine k_unp2 (Evl.st_of upd_same) ?_
        walk_at "kk"
        refine ⟨_, d, rfl, th.up s3, sh, sz, fun H4 s4 => ?_⟩
        walk_at "kk"
        have s5 := s3.trans s4
        cases hc : isCd d with
        | true =>
          refine k_ite (fun hb => by cases hb) (fun _ => ?_)
          walk_at "kk"
          refine ⟨s5, fun j d' hj e => ?_, _, _, rfl⟩
          rcases Nat.lt_succ_iff_lt_or_eq.mp hj with hj | rfl
          · exact good j d' hj e
          · rw [ed] at e
            cases Option.some.inj e
            exact hc
        | false =>
          refine k_ite (fun _ => ?_) (fun hb => by cases hb)
          exact k_mkV rfl fun H6 dd s6 e6 => q2 i d ed hc good H6 dd (s5.trans s6) e6
      · obtain ⟨s2, good, y1, y2, rfl⟩ := iv
        refine q1 (fun d hd' => ?_) _ s2
        obtain ⟨j, hj⟩ := List.getElem?_of_mem hd'
        have lt := (List.getElem?_eq_some_iff.mp hj).1
        exact good j d (by omega) hj
end
set_option Elab.async false
set_option linter.all false
set_option maxRecDepth 100000
set_option maxHeartbeats 4000000
section
variable {P : Program} {w : World} {K : PySem.W.Frag} {mg : Str → Option Value} {base : Heap}
def alph : Str := "abcdefghijklmnopqrstuvwxyz"
def spRule (T : Txt K mg) : Sp := fun vs H Q E => ∃ (a dx : Addr) (e p c : V) (de dp : PyData), vs = [.ref a, e, p, c] ∧ H a = some (.ins T.C_Rule dx []) ∧ Th K H e de ∧ szd de ∧ Th K H p dp ∧ szd dp ∧
  ((isWordOf de alph = false ∧ ∀ H' dd, Same H H' → H' dd = some (.xd [("thing", e)]) → E (.ref T.C_InvalidText) (some dd) H') ∨
   isWordOf de alph = true ∧ ((isTextOf dp alph = false ∧ ∀ H' dd, Same H H' → H' dd = some (.xd [("thing", p)]) → E (.ref T.C_InvalidText) (some dd) H') ∨
     isTextOf dp alph = true ∧ (condR T c H (fun _ => False) E ∨
       ∃ (se sp : Str) (cs : List Cond) (ca : Addr) (t : Bool) (xs : List V), de = .str se ∧ dp = .str sp ∧ c = .ref ca ∧ SqB K t H ca xs ∧ DpAll K H xs (cs.map enc) ∧ cs.length ≤ 50000 ∧ (∀ c ∈ cs, Fit c) ∧
         ∀ H', Gr [a] H H' → RuA K T.C_Rule H' (.ref a) ⟨se, sp, cs⟩ → Q .non H')))
theorem ok_Rule_init (T : Txt K mg) : FnOk P w K mg base (L2.CX P w) 5 T.aM_Rule_init T.fdM_Rule_init ["self", "ending", "put", "conditions"] (spRule T) := by
  refine T.FM_Rule_init.okX sc_Rule_init (fun vs H Q E h => ?_) (fun cdv A outer s H vs Q E hr h => ?_)
  · obtain ⟨a, dx, e, p, c, de, dp, rfl, _⟩ := h
    rfl
  · obtain ⟨a, dx, e, p, c, de, dp, rfl, ha, he, ze, hp, zp, h⟩ := h
    refine ⟨_, (pss_cons (ps_if (pt_not (pt_val (pe_call (ok_is_word_of T) (hr.mono (by decide)) (by rfl) T.m_is_word_of T.F_is_word_of.kp T.b_is_word_of .nil pass0 (pa_cons (pv 1) (pa_cons (C8.pe_gc (by rfl) T.c_ALPHABET) pa_nil))))) (pss_one (ps_raise rfl (takes_of rfl rfl rfl rfl) (pmk_oex T.x_InvalidText T.i_InvalidText T.t_InvalidText (ok_InvalidText_init T) (hr.mono (by decide)) T.bI_InvalidText .nil pass0 (by rfl) T.mc_InvalidText (pa_cons (pv 1) pa_nil)))) pss_nil)
      (pss_cons (ps_if (pt_not (pt_val (pe_call (ok_is_text_of T) (hr.mono (by decide)) (by rfl) T.m_is_text_of T.F_is_text_of.kp T.b_is_text_of .nil pass0 (pa_cons (pv 2) (pa_cons (C8.pe_gc (by rfl) T.c_ALPHABET) pa_nil))))) (pss_one (ps_raise rfl (takes_of rfl rfl rfl rfl) (pmk_oex T.x_InvalidText T.i_InvalidText T.t_InvalidText (ok_InvalidText_init T) (hr.mono (by decide)) T.bI_InvalidText .nil pass0 (by rfl) T.mc_InvalidText (pa_cons (pv 2) pa_nil)))) pss_nil)
      (pss_cons (ps_expr (pe_call (ok_check_conditions T) (hr.mono (by decide)) (by rfl) T.m_check_conditions T.F_check_conditions.kp T.b_check_conditions .nil (passes_call (takes_of rfl rfl rfl rfl) (fun _ _ _ _ h => h)) (pa_cons (pv 3) pa_nil)))
      (pss_cons (ps_fld (pv 0) (pv 1) rfl)
      (pss_cons (ps_fld (pv 0) (pv 2) rfl)
      (pss_one (ps_fld (pv 0) (pe_callTy (tupK K) (by rfl) T.z_tuple B_tuple (pa_cons (pv 3) pa_nil)) rfl))))))), ?_⟩
    walk_at "kk"
    refine ⟨e, de, _, rfl, he, ze, fun H1 s1 => ?_⟩
    walk_at "kk"
    rcases h with ⟨b, q⟩ | ⟨b, h⟩
    · rw [show isWordOf de "abcdefghijklmnopqrstuvwxyz" = false from b]
      refine k_ite (fun _ => ?_) (fun hb => by cases hb)
      exact k_mkV rfl fun H2 dd s2 e2 => q H2 dd (s1.trans s2) e2
    rw [show isWordOf de "abcdefghijklmnopqrstuvwxyz" = true from b]
    refine k_ite (fun hb => by cases hb) (fun _ => ?_)
    walk_at "kk"
    refine ⟨p, dp, _, rfl, hp.up s1, zp, fun H2 s2 => ?_⟩
    walk_at "kk"
    have u2 := s1.trans s2
    rcases h with ⟨b, q⟩ | ⟨b, h⟩
    · rw [show isTextOf dp "abcdefghijklmnopqrstuvwxyz" = false from b]
      refine k_ite (fun _ => ?_) (fun hb => by cases hb)
      exact k_mkV rfl fun H3 dd s3 e3 => q H3 dd (u2.trans s3) e3
    rw [show isTextOf dp "abcdefghijklmnopqrstuvwxyz" = true from b]
    refine k_ite (fun hb => by cases hb) (fun _ => ?_)
    walk_at "kk"
    rcases h with h | ⟨se, sp, cs, ca, t, xs, rfl, rfl, rfl, hx, hd, hl, ft, q⟩
    · refine ⟨c, rfl, ?_⟩
      rcases h with ⟨d, th, nk, q⟩ | ⟨ca, t, xs, ds, rfl, hx, hl1, hl2, hd, q1, q2⟩
      · exact .inl ⟨d, th.up u2, nk, fun H3 dd s3 e3 => q H3 dd (u2.trans s3) e3⟩
      · exact .inr ⟨ca, t, xs, ds, rfl, hx.up u2, hl1, hl2, fun i x e => (by obtain ⟨d, z, th, r⟩ := hd i x e; exact ⟨d, z, th.up u2, r⟩), fun all H3 s3 => (q1 all H3 (u2.trans s3)).elim, fun i d z b g H3 dd s3 e3 => q2 i d z b g H3 dd (u2.trans s3) e3⟩
    · refine ⟨.ref ca, rfl, .inr ⟨ca, t, xs, cs.map enc, rfl, hx.up u2, by rw [hd.len], by rw [hd.len, List.length_map]; exact hl, fun i x e => ?_, fun all H3 s3 => ?_, fun i d z b g H3 dd s3 e3 => ?_⟩⟩
      · have lt := (List.getElem?_eq_some_iff.mp e).1
        have lc : i < cs.length := by
          rw [hd.len, List.length_map] at lt
          exact lt
        obtain ⟨v, hv, dv⟩ := DpAll.get hd (i := i) (d := enc cs[i]) (by rw [List.getElem?_map, List.getElem?_eq_getElem lc]; rfl)
        rw [e] at hv
        cases Option.some.inj hv
        have f := ft _ (List.getElem_mem lc)
        exact ⟨_, by rw [List.getElem?_map, List.getElem?_eq_getElem lc]; rfl, .inl (dv.up u2), f.sh, f.s2⟩
      · have u3 := u2.trans s3
        have ea : H3 a = some (.ins T.C_Rule dx []) := u3 _ _ ha
        rcases he with he | ⟨_, _, _, _, z⟩
        rotate_left
        · cases z
        rcases hp with hp | ⟨_, _, _, _, z⟩
        rotate_left
        · cases z
        cases he
        cases hp
        walk_at "kk"
        refine k_fldP ea T.cl_Rule T.n_Rule_ending (by decide) ?_
        rw [put_rF1]
        walk_at "kk"
        refine k_fldP upd_same T.cl_Rule T.n_Rule_put (by simp) ?_
        rw [put_rF2]
        walk_at "kk"
        have z4 : SamD H (upd (upd H3 a (.ins T.C_Rule dx (rF1 se))) a (.ins T.C_Rule dx (rF2 se sp))) := (SamD.of u3).trans ((SamD.mut ea rfl).trans (SamD.mut upd_same rfl))
        have g4 : Gr [a] H (upd (upd H3 a (.ins T.C_Rule dx (rF1 se))) a (.ins T.C_Rule dx (rF2 se sp))) := (Gr.of u3).trans ((Gr.mut (by simp)).trans (Gr.mut (by simp)))
        refine k_tupB (hx.upD z4) fun l H5 s5 hl5 => ?_
        have ea5 := s5 a _ upd_same
        walk_at "kk"
        refine k_fldP ea5 T.cl_Rule T.n_Rule_conditions (by simp) ?_
        rw [put_rF3]
        have z6 : SamD H5 (upd H5 a (.ins T.C_Rule dx (rF3 se sp l))) := SamD.mut ea5 rfl
        refine q _ (g4.trans ((Gr.of s5).trans (Gr.mut (by simp)))) ⟨a, dx, _, l, xs, rfl, upd_same, (look_rF se sp l).1, (look_rF se sp l).2.1, (look_rF se sp l).2.2, hl5.upD z6, DpAll.upD z6 (DpAll.up s5 (DpAll.upD z4 hd))⟩
      · obtain ⟨c, hc, rfl⟩ := List.mem_map.mp (List.mem_of_getElem? z)
        rw [(ft c hc).cd] at b
        cases b
/-! what a rule tells of itself -/
theorem ok_Rule_ending (T : Txt K mg) : FnOk P w K mg base CX0 1 T.aM_Rule_ending T.fdM_Rule_ending ["self"] (getSp T.C_Rule "_ending") := by
  refine T.FM_Rule_ending.ok sc_Rule_ending (fun vs H Q E h => ?_) (fun cdv A outer s H vs Q E hr h => ?_)
  · obtain ⟨a, dx, fs, v, rfl, _⟩ := h
    rfl
  · obtain ⟨a, dx, fs, v, rfl, ha, l, q⟩ := h
    refine ⟨_, (pss_one (ps_ret (fldK K (pv 0)))), ?_⟩
    walk_at "kk"
    exact k_fldR ha T.cl_Rule T.n_Rule_ending l q
theorem ok_Rule_put (T : Txt K mg) : FnOk P w K mg base CX0 1 T.aM_Rule_put T.fdM_Rule_put ["self"] (getSp T.C_Rule "_put") := by
  refine T.FM_Rule_put.ok sc_Rule_put (fun vs H Q E h => ?_) (fun cdv A outer s H vs Q E hr h => ?_)
  · obtain ⟨a, dx, fs, v, rfl, _⟩ := h
    rfl
  · obtain ⟨a, dx, fs, v, rfl, ha, l, q⟩ := h
    refine ⟨_, (pss_one (ps_ret (fldK K (pv 0)))), ?_⟩
    walk_at "kk"
    exact k_fldR ha T.cl_Rule T.n_Rule_put l q
theorem ok_Rule_conditions (T : Txt K mg) : FnOk P w K mg base CX0 1 T.aM_Rule_conditions T.fdM_Rule_conditions ["self"] (getSp T.C_Rule "_conditions") := by
  refine T.FM_Rule_conditions.ok sc_Rule_conditions (fun vs H Q E h => ?_) (fun cdv A outer s H vs Q E hr h => ?_)
  · obtain ⟨a, dx, fs, v, rfl, _⟩ := h
    rfl
  · obtain ⟨a, dx, fs, v, rfl, ha, l, q⟩ := h
    refine ⟨_, (pss_one (ps_ret (fldK K (pv 0)))), ?_⟩
    walk_at "kk"
    exact k_fldR ha T.cl_Rule T.n_Rule_conditions l q
end
set_option Elab.async false
set_option linter.all false
set_option maxRecDepth 100000
set_option maxHeartbeats 4000000
section
variable {P : Program} {w : World} {K : PySem.W.Frag} {mg : Str → Option Value} {base : Heap}
/-- all are rules, or the first thing that is none -/
def rulesR (T : Txt K mg) (v : V) (H : Hp) (N : Hp → Prop) (E : XK) : Prop :=
  (∃ d, Th K H v d ∧ PySem.W.kitAny K (.type (tyName d)) (["list", "tuple"].map Value.type) = some false ∧ ∀ H' dd, Same H H' → H' dd = some (.xd [("place", .non)]) → E (.ref T.C_InvalidRules) (some dd) H') ∨
  (∃ (a : Addr) (t : Bool) (xs : List V) (bs : List Bool), v = .ref a ∧ SqB K t H a xs ∧ bs.length = xs.length ∧ xs.length ≤ 50000 ∧ (∀ (i : Nat) (x : V), xs[i]? = some x → ∃ b, bs[i]? = some b ∧ Ob K T.C_Rule H x b) ∧
    ((∀ b ∈ bs, b = true) → ∀ H', Same H H' → N H') ∧
    (∀ i : Nat, bs[i]? = some false → (∀ (j : Nat) b, j < i → bs[j]? = some b → b = true) → ∀ H' dd, Same H H' → H' dd = some (.xd [("place", .int (i : Nat))]) → E (.ref T.C_InvalidRules) (some dd) H'))
theorem ok_check_rules (T : Txt K mg) : FnOk P w K mg base (L2.CX P w) 7 T.a_check_rules T.fd_check_rules ["rules"] (fun vs H Q E => ∃ v, vs = [v] ∧ rulesR T v H (Q .non) E) := by
  refine T.F_check_rules.okX sc_check_rules (fun vs H Q E h => ?_) (fun cdv A outer s H vs Q E hr h => ?_)
  · obtain ⟨v, rfl, _⟩ := h
    rfl
  · obtain ⟨v, rfl, h⟩ := h
    refine ⟨_, (pss_cons (ps_if (pt_not (pt_val (pe_call (ok_is_list T) (hr.mono (by decide)) (by rfl) T.m_is_list T.F_is_list.kp T.b_is_list .nil pass0 (pa_cons (pv 0) pa_nil)))) (pss_one (ps_raise rfl (takes_of rfl rfl rfl rfl) (pmk_oex T.x_InvalidRules T.i_InvalidRules T.t_InvalidRules (ok_InvalidRules_init T) (hr.mono (by decide)) T.bI_InvalidRules .nil pass0 (by rfl) T.mc_InvalidRules (pa_cons pe_non pa_nil)))) pss_nil)
      (pss_one (ps_for (passes_of rfl) rfl (enumK K (by rfl) T.z_enumerate (pa_cons (pv 0) pa_nil)) (tupleK K (n := 2) rfl (pgs_cons (pg_name (i := 1) sc_check_rules.nd rfl (Or.inl rfl)) (pgs_cons (pg_name (i := 2) sc_check_rules.nd rfl (Or.inl rfl)) pgs_nil))) (pss_one (ps_if (pt_not (pt_val (pe_callB (isiK K) (by rfl) T.z_isinstance B_isinstance (pa_cons (pv 2) (pa_cons (C8.pe_gc (v := .ref T.C_Rule) (by rfl) ⟨_, T.mc_Rule, rfl⟩) pa_nil))))) (pss_one (ps_raise rfl (takes_of rfl rfl rfl rfl) (pmk_oex T.x_InvalidRules T.i_InvalidRules T.t_InvalidRules (ok_InvalidRules_init T) (hr.mono (by decide)) T.bI_InvalidRules .nil pass0 (by rfl) T.mc_InvalidRules (pa_cons (pv 1) pa_nil)))) pss_nil))))), ?_⟩
    walk_at "kk"
    rcases h with ⟨d, hv, e, q⟩ | ⟨a, t, xs, bs, rfl, hx, hdl, hl, hd, q1, q2⟩
    · refine ⟨v, _, false, rfl, hv.ty, e, fun H1 s1 => ?_⟩
      walk_at "kk"
      exact k_mkR fun H2 dd s2 e2 => q H2 dd (s1.trans s2) e2
    · refine ⟨.ref a, _, true, rfl, hx.ty, kit_lt K t, fun H1 s1 => ?_⟩
      walk_at "kk"
      refine k_onEB (hx.up s1) ?_
      refine for_go (walk_eB (xs := xs)) (fun i σ H' => Same H H' ∧ (∀ (j : Nat) b, j < i → bs[j]? = some b → b = true) ∧ ∃ y1 y2, σ = [some (.ref a), y1, y2]) ⟨s1, (fun j d' hj => (nomatch hj)), none, none, rfl⟩ (fun i σ H' _ iv => hx.up iv.1) (fun i x σ Ha Hb hi iv hy => ?_) (fun σ H' iv => ?_)
      · obtain ⟨s2, good, y1, y2, rfl⟩ := iv
        obtain ⟨p, rfl, hp, rfl⟩ := hy
        obtain ⟨b, ed, ob⟩ := hd i (xs.getD i .non) (by rw [List.getD_eq_getElem?_getD, List.getElem?_eq_getElem hi]; rfl)
        have s3 := s2.trans (same_new (o := .tup [.int (i : Nat), xs.getD i .non]) hp)
        refine k_unp2 (Evl.st_of upd_same) ?_
        walk_at "kk"
        refine k_ob (ob.same s3) ?_
        walk_at "kk"
        cases b with
        | true =>
          refine k_ite (fun hb => by cases hb) (fun _ => ?_)
          walk_at "kk"
          refine ⟨s3, fun j d' hj e => ?_, _, _, rfl⟩
          rcases Nat.lt_succ_iff_lt_or_eq.mp hj with hj | rfl
          · exact good j d' hj e
          · rw [ed] at e
            cases Option.some.inj e
            rfl
        | false =>
          refine k_ite (fun _ => ?_) (fun hb => by cases hb)
          walk_at "kk"
          exact k_mkR fun H6 dd s6 e6 => q2 i ed good H6 dd (s3.trans s6) e6
      · obtain ⟨s2, good, y1, y2, rfl⟩ := iv
        refine q1 (fun d hd' => ?_) _ s2
        obtain ⟨j, hj⟩ := List.getElem?_of_mem hd'
        have lt := (List.getElem?_eq_some_iff.mp hj).1
        exact good j d (by omega) hj
/-- no ending stands twice, or the first that does -/
def spEnds (T : Txt K mg) : Sp := fun vs H Q E => ∃ (a : Addr) (t : Bool) (xs : List V) (rs : List RD), vs = [.ref a] ∧ SqB K t H a xs ∧ RuAll K T.C_Rule H xs rs ∧ rs.length ≤ 1000 ∧
  ((rs.map RD.e).Nodup → ∀ H', Same H H' → Q .non H') ∧
  (∀ (i : Nat) r, rs[i]? = some r → ((rs.take i).map RD.e).Nodup → r.e ∈ (rs.take i).map RD.e → ∀ H' dd, Same H H' → H' dd = some (.xd [("ending", .str r.e)]) → E (.ref T.C_SameEnding) (some dd) H')
theorem ok_check_endings (T : Txt K mg) : FnOk P w K mg base (L2.CX P w) 5 T.a_check_endings T.fd_check_endings ["rules"] (spEnds T) := by
  refine T.F_check_endings.okX sc_check_endings (fun vs H Q E h => ?_) (fun cdv A outer s H vs Q E hr h => ?_)
  · obtain ⟨a, t, xs, rs, rfl, _⟩ := h
    rfl
  · obtain ⟨a, t, xs, rs, rfl, hx, hr2, hl, q1, q2⟩ := h
    refine ⟨_, (pss_cons (ps_set (i := 1) sc_check_endings.nd rfl (Or.inl rfl) (pe_callTy0 cr_set0K (by rfl) T.z_set B_set))
      (pss_one (ps_for (passes_of rfl) rfl (seqK K (pv 0)) (pg_name (i := 2) sc_check_endings.nd rfl (Or.inl rfl)) (pss_cons (ps_if (pt_cmpR or_sinK (pe_prop (pv 2) T.cl_Rule T.pp_Rule_ending (ok_Rule_ending T) (hr.mono (by decide)) T.bM_Rule_ending .nil pass0 (by rfl)) (pv 1) (by rfl)) (pss_one (ps_raise rfl (takes_of rfl rfl rfl rfl) (pmk_oex T.x_SameEnding T.i_SameEnding T.t_SameEnding (ok_SameEnding_init T) (hr.mono (by decide)) T.bI_SameEnding .nil pass0 (by rfl) T.mc_SameEnding (pa_cons (pe_prop (pv 2) T.cl_Rule T.pp_Rule_ending (ok_Rule_ending T) (hr.mono (by decide)) T.bM_Rule_ending .nil pass0 (by rfl)) pa_nil)))) pss_nil)
      (pss_one (ps_expr (pe_saddK (pv 1) (pa_cons (pe_prop (pv 2) T.cl_Rule T.pp_Rule_ending (ok_Rule_ending T) (hr.mono (by decide)) T.bM_Rule_ending .nil pass0 (by rfl)) pa_nil)))))))), ?_⟩
    have xl := hr2.len
    walk_at "kk"
    refine ⟨rfl, fun p hp => ?_⟩
    walk_at "kk"
    refine k_onSB (hx.up (same_new hp)) ?_
    refine for_go (walk_B (xs := xs)) (fun i σ H' => Gr [p] H H' ∧ (∃ (S : Key → Bool) (n : Nat), H' p = some (SetK P w p S n) ∧ n ≤ i ∧ ∀ z : Str, S (Sum.inr z) = decide (z ∈ (rs.take i).map RD.e)) ∧ ((rs.take i).map RD.e).Nodup ∧ ∃ y, σ = [some (.ref a), some (.ref p), y]) ⟨Gr.new hp, ⟨_, 0, upd_same, Nat.le_refl _, fun z => by simp⟩, by simp, none, rfl⟩ (fun i σ H' _ iv => hx.up (iv.1.less hp).same) (fun i x σ Ha Hb hi iv hy => ?_) (fun σ H' iv => ?_)
    · obtain ⟨g2, ⟨S, n, eS, hn, hS⟩, nd, y, rfl⟩ := iv
      obtain ⟨rfl, rfl⟩ := hy
      have s2 := (g2.less hp).same
      obtain ⟨r, er, hru⟩ := hr2.get (i := i) (x := xs.getD i .non) (by rw [List.getD_eq_getElem?_getD, List.getElem?_eq_getElem hi]; rfl)
      obtain ⟨b, dx, fs, tt, ys, eb, hb, l1, l2, l3, l4, l5⟩ := hru.up s2
      rw [eb]
      have tk : (rs.take (i + 1)).map RD.e = (rs.take i).map RD.e ++ [r.e] := by rw [List.take_add_one, er]; simp
      walk_at "kk"
      refine ⟨b, dx, fs, rfl, hb, b, dx, fs, .str r.e, rfl, hb, l1, ?_⟩
      walk_at "kk"
      refine ⟨Sum.inr r.e, p, S, n, rfl, rfl, eS, ?_⟩
      walk_at "kk"
      show if S (Sum.inr r.e) = true then _ else _
      rw [hS r.e]
      refine k_ite (fun hb2 => ?_) (fun hb2 => ?_)
      · have hb2 := of_decide_eq_true hb2
        walk_at "kk"
        refine ⟨b, dx, fs, rfl, hb, b, dx, fs, .str r.e, rfl, hb, l1, ?_⟩
        walk_at "kk"
        exact k_mkR fun H6 dd s6 e6 => q2 i r er nd hb2 H6 dd (s2.trans s6) e6
      · have hb2 := of_decide_eq_false hb2
        walk_at "kk"
        refine ⟨.ref p, rfl, ⟨p, S, n, rfl, eS⟩, ?_⟩
        walk_at "kk"
        refine ⟨b, dx, fs, rfl, hb, b, dx, fs, .str r.e, rfl, hb, l1, ?_⟩
        walk_at "kk"
        refine ⟨p, Sum.inr r.e, S, n, rfl, rfl, eS, (by show n + 1 < 4096; omega), ?_⟩
        walk_at "kk"
        refine ⟨g2.trans (Gr.mut (by simp)), ⟨_, _, upd_same, ?_, fun z => ?_⟩, ?_, _, rfl⟩
        · split <;> omega
        · rw [hS z, tk]
          simp only [List.mem_append, List.mem_singleton]
          by_cases h1 : z = r.e
          · subst h1
            simp
          · simp [h1]
        · rw [tk, List.nodup_append]
          refine ⟨nd, by simp, fun x hx y hy => ?_⟩
          rw [List.mem_singleton.mp hy]
          intro z
          exact hb2 (z ▸ hx)
    · obtain ⟨g2, _, nd, y, rfl⟩ := iv
      refine q1 ?_ _ (g2.less hp).same
      rw [List.take_of_length_le (by omega)] at nd
      exact nd
end
set_option Elab.async false
set_option linter.all false
set_option maxRecDepth 100000
set_option maxHeartbeats 4000000
section
variable {P : Program} {w : World} {K : PySem.W.Frag} {mg : Str → Option Value} {base : Heap}
/-- rules, all rules -/
def rulesOk (T : Txt K mg) (v : V) (H : Hp) (rs : List RD) : Prop := ∃ (a : Addr) (t : Bool) (xs : List V), v = .ref a ∧ SqB K t H a xs ∧ RuAll K T.C_Rule H xs rs ∧ rs.length ≤ 1000
def rulesAt (T : Txt K mg) (v : V) (H : Hp) (rs : List RD) (xs : List V) : Prop := ∃ (a : Addr) (t : Bool), v = .ref a ∧ SqB K t H a xs ∧ RuAll K T.C_Rule H xs rs ∧ rs.length ≤ 1000
/-- a step, and what stands in it -/
def StX (K : PySem.W.Frag) (CS CR : Addr) (H : Hp) (v : V) (s : SD) (xs : List V) : Prop := ∃ a dx fs t, v = .ref a ∧ H a = some (.ins CS dx fs) ∧ fs.lookup ("_rules" : Str) = some (.ref t) ∧ fs.lookup ("_mode" : Str) = some (.str s.mode) ∧ SqT K H t xs ∧ RuAll K CR H xs s.rs
theorem StX.st {CS CR : Addr} {H : Hp} {v : V} {s : SD} {xs : List V} (h : StX K CS CR H v s xs) : StA K CS CR H v s := by
  obtain ⟨a, dx, fs, t, rfl, h1, h2, h3, h4, h5⟩ := h
  exact ⟨a, dx, fs, t, xs, rfl, h1, h2, h3, h4, h5⟩
def spStep (T : Txt K mg) : Sp := fun vs H Q E => ∃ (a dx : Addr) (r m : V), vs = [.ref a, r, m] ∧ H a = some (.ins T.C_Step dx []) ∧
  (rulesR T r H (fun _ => False) E ∨ ∃ rs items, rulesAt T r H rs items ∧
    ((∃ dm, Dp K H m dm ∧ SeqAt.shaped dm = true ∧ isMode dm = false ∧ ∀ H' dd, Same H H' → H' dd = some (.xd [("thing", m)]) → E (.ref T.C_InvalidMode) (some dd) H') ∨
     (∃ md : Str, m = .str md ∧ okS md ∧ isMode (.str md) = true ∧
       ((md = "longest" ∧ ∃ (i : Nat) (r : RD), rs[i]? = some r ∧ ((rs.take i).map RD.e).Nodup ∧ r.e ∈ (rs.take i).map RD.e ∧ ∀ H' dd, Same H H' → H' dd = some (.xd [("ending", .str r.e)]) → E (.ref T.C_SameEnding) (some dd) H') ∨
        ((md = "longest" → (rs.map RD.e).Nodup) ∧ ∀ H', Gr [a] H H' → StX K T.C_Step T.C_Rule H' (.ref a) ⟨rs, md⟩ items → Q .non H')))))
theorem take_nodup {l : List Str} {n : Nat} (h : l.Nodup) : (l.take n).Nodup := h.sublist (List.take_sublist _ _)
theorem ok_Step_init (T : Txt K mg) : FnOk P w K mg base (L2.CX P w) 8 T.aM_Step_init T.fdM_Step_init ["self", "rules", "mode"] (spStep T) := by
  refine T.FM_Step_init.okX sc_Step_init (fun vs H Q E h => ?_) (fun cdv A outer s H vs Q E hr h => ?_)
  · obtain ⟨a, dx, r, m, rfl, _⟩ := h
    rfl
  · obtain ⟨a, dx, r, m, rfl, ha, h⟩ := h
    refine ⟨_, (pss_cons (ps_expr (pe_call (ok_check_rules T) (hr.mono (by decide)) (by rfl) T.m_check_rules T.F_check_rules.kp T.b_check_rules .nil (passes_call (takes_of rfl rfl rfl rfl) (fun _ _ _ _ h => h)) (pa_cons (pv 1) pa_nil)))
      (pss_cons (ps_expr (pe_call (ok_check_mode T) (hr.mono (by decide)) (by rfl) T.m_check_mode T.F_check_mode.kp T.b_check_mode .nil (passes_call (takes_of rfl rfl rfl rfl) (fun _ _ _ _ h => h)) (pa_cons (pv 2) pa_nil)))
      (pss_cons (ps_if (pt_cmpR (eqK K hr) (pv 2) pe_str (nomark _)) (pss_one (ps_expr (pe_call (ok_check_endings T) (hr.mono (by decide)) (by rfl) T.m_check_endings T.F_check_endings.kp T.b_check_endings .nil (passes_call (takes_of rfl rfl rfl rfl) (fun _ _ _ _ h => h)) (pa_cons (pv 1) pa_nil)))) pss_nil)
      (pss_cons (ps_fld (pv 0) (pe_callTy (tupK K) (by rfl) T.z_tuple B_tuple (pa_cons (pv 1) pa_nil)) rfl)
      (pss_one (ps_fld (pv 0) (pv 2) rfl)))))), ?_⟩
    walk_at "kk"
    rcases h with h | ⟨rs, xs, ⟨ra, t, rfl, hx, hru, hl⟩, h⟩
    · refine ⟨r, rfl, ?_⟩
      rcases h with ⟨d, th, nk, q⟩ | ⟨ca, t, xs, ds, rfl, hx, hl1, hl2, hd, q1, q2⟩
      · exact .inl ⟨d, th, nk, q⟩
      · exact .inr ⟨ca, t, xs, ds, rfl, hx, hl1, hl2, hd, fun all H3 s3 => (q1 all H3 s3).elim, q2⟩
    have xl := hru.len
    refine ⟨.ref ra, rfl, .inr ⟨ra, t, xs, xs.map fun _ => true, rfl, hx, by simp, by omega, fun i x e => ?_, fun _ H1 s1 => ?_, fun i e => ?_⟩⟩
    · obtain ⟨r, _, hr⟩ := hru.get e
      obtain ⟨b, dy, fs, rfl, hb⟩ := hr.ins
      exact ⟨true, by rw [List.getElem?_map, e]; rfl, ob_ins T.in_Rule hb⟩
    · walk_at "kk"
      rcases h with ⟨dm, hm, sm, nm, q⟩ | ⟨md, rfl, om, im, h⟩
      · exact ⟨m, dm, rfl, hm.up s1, sm, .inr ⟨nm, fun H2 dd s2 e2 => q H2 dd (s1.trans s2) e2⟩⟩
      · refine ⟨.str md, .str md, rfl, .str md, ?_, .inl ⟨im, fun H2 s2 => ?_⟩⟩
        · unfold SeqAt.shaped
          rw [om.lay]
          rfl
        have u2 := s1.trans s2
        walk_at "kk"
        have rest : ∀ H3, Same H H3 → (∀ H', Gr [a] H H' → StX K T.C_Step T.C_Rule H' (.ref a) ⟨rs, md⟩ xs → Q .non H') → tSeq (sFld K (tVar 0) (tCB (rTupOf K) (tCons (tVar 1) tNil)) "_rules") (sFld K (tVar 0) (tVar 2) "_mode") { nx := fun _ H' => Q .non H', rt := Q } [some (.ref a), some (.ref ra), some (.str md)] H3 := by
          intro H3 u3 q
          walk_at "kk"
          refine k_tupB (hx.up u3) fun l H4 s4 hl4 => ?_
          have u4 := u3.trans s4
          walk_at "kk"
          have e4 := u4 _ _ ha
          refine k_fldP e4 T.cl_Step T.n_Step_rules (by decide) ?_
          rw [put_sF1]
          walk_at "kk"
          refine k_fldP upd_same T.cl_Step T.n_Step_mode (by simp) ?_
          rw [put_sF2]
          have z5 : SamD H4 (upd H4 a (.ins T.C_Step dx (sF1 l))) := SamD.mut e4 rfl
          have z6 : SamD (upd H4 a (.ins T.C_Step dx (sF1 l))) (upd (upd H4 a (.ins T.C_Step dx (sF1 l))) a (.ins T.C_Step dx (sF2 l md))) := SamD.mut upd_same rfl
          refine q _ ((Gr.of u4).trans ((Gr.mut (by simp)).trans (Gr.mut (by simp)))) ⟨a, dx, _, l, rfl, upd_same, (look_sF l md).1, (look_sF l md).2, SqT.upD (SqT.upD hl4 z5) z6, ?_⟩
          exact ((hru.up u4).mut e4 rfl).mut upd_same (no_sF1 l)
        by_cases hmd : md = "longest"
        · subst hmd
          refine k_ite (fun _ => ?_) (fun hb => absurd (of_decide_eq_false hb) (by simp))
          walk_at "kk"
          rcases h with ⟨_, i, r, er, nd, mem, q⟩ | ⟨nd, q⟩
          · refine ⟨ra, t, xs, rs, rfl, hx.up u2, hru.up u2, hl, fun nd2 => ?_, fun j r2 er2 nd2 mem2 H3 dd s3 e3 => ?_⟩
            · exfalso
              have h1 : (rs.take (i + 1)).map RD.e = (rs.take i).map RD.e ++ [r.e] := by rw [List.take_add_one, er]; simp
              have h2 : ((rs.take (i + 1)).map RD.e).Nodup := by rw [List.map_take]; exact take_nodup nd2
              rw [h1, List.nodup_append] at h2
              exact h2.2.2 r.e mem r.e (by simp) rfl
            · have key : ∀ {i j : Nat} {r r2 : RD}, rs[i]? = some r → r.e ∈ (rs.take i).map RD.e → ((rs.take j).map RD.e).Nodup → ¬ i < j := by
                intro i j r r2 er mem nd lt
                have h1 : (rs.take (i + 1)).map RD.e = (rs.take i).map RD.e ++ [r.e] := by rw [List.take_add_one, er]; simp
                have h2 : ((rs.take (i + 1)).map RD.e).Nodup := by
                  have e : rs.take (i + 1) = (rs.take j).take (i + 1) := by rw [List.take_take, Nat.min_eq_left (by omega)]
                  rw [e, List.map_take]
                  exact take_nodup nd
                rw [h1, List.nodup_append] at h2
                exact h2.2.2 r.e mem r.e (by simp) rfl
              have c1 := key (r2 := r) er mem nd2
              have c2 := key (r2 := r) er2 mem2 nd
              have ij : i = j := by omega
              subst ij
              rw [er] at er2
              cases Option.some.inj er2
              exact q H3 dd (u2.trans s3) e3
          · refine ⟨ra, t, xs, rs, rfl, hx.up u2, hru.up u2, hl, fun _ H3 s3 => rest H3 (u2.trans s3) q, fun j r2 er2 nd2 mem2 H3 dd s3 e3 => ?_⟩
            exfalso
            have h1 : (rs.take (j + 1)).map RD.e = (rs.take j).map RD.e ++ [r2.e] := by rw [List.take_add_one, er2]; simp
            have h2 : ((rs.take (j + 1)).map RD.e).Nodup := by rw [List.map_take]; exact take_nodup (nd rfl)
            rw [h1, List.nodup_append] at h2
            exact h2.2.2 r2.e mem2 r2.e (by simp) rfl
        · refine k_ite (fun hb => absurd (of_decide_eq_true hb) hmd) (fun _ => ?_)
          rcases h with ⟨z, _⟩ | ⟨nd, q⟩
          · exact absurd z hmd
          · exact rest H2 u2 q
    · rw [List.getElem?_map] at e
      cases h2 : xs[i]? with
      | none => rw [h2] at e; cases e
      | some x => rw [h2] at e; cases e
theorem ok_Step_rules (T : Txt K mg) : FnOk P w K mg base CX0 1 T.aM_Step_rules T.fdM_Step_rules ["self"] (getSp T.C_Step "_rules") := by
  refine T.FM_Step_rules.ok sc_Step_rules (fun vs H Q E h => ?_) (fun cdv A outer s H vs Q E hr h => ?_)
  · obtain ⟨a, dx, fs, v, rfl, _⟩ := h
    rfl
  · obtain ⟨a, dx, fs, v, rfl, ha, l, q⟩ := h
    refine ⟨_, (pss_one (ps_ret (fldK K (pv 0)))), ?_⟩
    walk_at "kk"
    exact k_fldR ha T.cl_Step T.n_Step_rules l q
theorem ok_Step_mode (T : Txt K mg) : FnOk P w K mg base CX0 1 T.aM_Step_mode T.fdM_Step_mode ["self"] (getSp T.C_Step "_mode") := by
  refine T.FM_Step_mode.ok sc_Step_mode (fun vs H Q E h => ?_) (fun cdv A outer s H vs Q E hr h => ?_)
  · obtain ⟨a, dx, fs, v, rfl, _⟩ := h
    rfl
  · obtain ⟨a, dx, fs, v, rfl, ha, l, q⟩ := h
    refine ⟨_, (pss_one (ps_ret (fldK K (pv 0)))), ?_⟩
    walk_at "kk"
    exact k_fldR ha T.cl_Step T.n_Step_mode l q
end
set_option Elab.async false
set_option linter.all false
set_option maxRecDepth 100000
set_option maxHeartbeats 4000000
section
variable {P : Program} {w : World} {K : PySem.W.Frag} {mg : Str → Option Value} {base : Heap}
theorem Pu.same {H H' : Hp} {p : Addr} {n : Nat} (h : Pu H p n) (s : Same H H') : Pu H' p n := by
  obtain ⟨a, b, k, e, r⟩ := h
  exact ⟨a, b, k, s _ _ e, r⟩
/-- a drawn rule -/
def smR (z : Str) (r : RD) : Prop := (1 ≤ r.e.length ∧ r.e.length ≤ 2 ∧ ∀ c ∈ tl r.e, c ∈ tl z) ∧ (r.p.length ≤ 2 ∧ ∀ c ∈ tl r.p, c ∈ tl z) ∧ r.cs.length ≤ 2 ∧ ∀ c ∈ r.cs, smc z c
def spLRule (K : PySem.W.Frag) : Sp := fun vs H Q _ => ∃ (p : Addr) (z : Str) (n : Nat), vs = [.ref p, .str z] ∧ 0 < z.length ∧ z.length ≤ 100 ∧ Pu H p n ∧ n < 2 ^ 37 ∧
  ∀ (H' : Hp) (v : V) (r : RD), Gr [p] H H' → Pu H' p (n + 30000) → Dq K [p] H' v (encR r) → smR z r → Q v H'
theorem ok_law_rule (T : Txt K mg) : FnOk P w K mg base CX0 5 T.a_law_rule T.fd_law_rule ["purse", "signs"] (spLRule K) := by
  refine T.F_law_rule.ok sc_law_rule (fun vs H Q E h => ?_) (fun cdv A outer s H vs Q E hr h => ?_)
  · obtain ⟨p, z, n, rfl, _⟩ := h
    rfl
  · obtain ⟨p, z, n, rfl, hz, hz2, hp, hn, q⟩ := h
    refine ⟨_, (pss_cons (ps_setLc (i := 2) (own := [("turn", 3)]) (by rfl) sc_law_rule.nd rfl rfl (sw_true rfl rfl rfl (by decide +kernel)) (pi_range1 (by rfl) T.z_range (pa_cons (pe_ix (ixK K) (pe_lst (pa_cons pe_int (pa_cons pe_int (pa_cons pe_int (pa_cons pe_int (pa_cons pe_int pa_nil)))))) (pe_call (ok_law_draw T) (hr.mono (by decide)) (by rfl) T.m_law_draw T.F_law_draw.kp T.b_law_draw .nil pass0 (pa_cons (pv 0) (pa_cons pe_int pa_nil))) (fun _ _ => rfl)) pa_nil)) (blkOk_by (N := ["purse", "signs", "lots", "turn"]) (sc := defScope s_law_rule) (by decide +kernel)) (fun _ _ _ _ _ => (pg_name (i := 3) sc_law_rule.nd rfl (Or.inl rfl))) (fun _ _ _ _ _ => pts_nil) (fun _ _ _ _ _ => (pe_call (ok_law_condition T) (hr.mono (by decide)) (by rfl) T.m_law_condition T.F_law_condition.kp T.b_law_condition .nil pass0 (pa_cons (pv 0) (pa_cons (pv 1) pa_nil)))))
      (pss_one (ps_ret (pe_tup (pa_cons (pe_call (ok_law_text T) (hr.mono (by decide)) (by rfl) T.m_law_text T.F_law_text.kp T.b_law_text .nil pass0 (pa_cons (pv 0) (pa_cons (pv 1) (pa_cons pe_int (pa_cons pe_int pa_nil))))) (pa_cons (pe_call (ok_law_text T) (hr.mono (by decide)) (by rfl) T.m_law_text T.F_law_text.kp T.b_law_text .nil pass0 (pa_cons (pv 0) (pa_cons (pv 1) (pa_cons pe_int (pa_cons pe_int pa_nil))))) (pa_cons (pe_callTy (tupK K) (by rfl) T.z_tuple B_tuple (pa_cons (pv 2) pa_nil)) pa_nil))))))), ?_⟩
    walk_at "kk"
    intro l hl
    have p0 := hp.new (o := .lst [.int 0, .int 0, .int 1, .int 1, .int 2]) hl
    have nl : l ∉ [p] := fun z => hp.ne hl (List.mem_singleton.mp z).symm
    walk_at "kk"
    refine ⟨p, 5, n, rfl, by omega, by omega, p0, by omega, fun H1 d g1 p1 d1 d2 => ?_⟩
    obtain ⟨m, hm, m1, m2⟩ : ∃ m : Int, ([.int 0, .int 0, .int 1, .int 1, .int 2] : List V)[d.toNat]? = some (.int m) ∧ 0 ≤ m ∧ m ≤ 2 := by
      have h4 : d = 0 ∨ d = 1 ∨ d = 2 ∨ d = 3 ∨ d = 4 := by omega
      rcases h4 with rfl | rfl | rfl | rfl | rfl
      · exact ⟨0, rfl, by decide, by decide⟩
      · exact ⟨0, rfl, by decide, by decide⟩
      · exact ⟨1, rfl, by decide, by decide⟩
      · exact ⟨1, rfl, by decide, by decide⟩
      · exact ⟨2, rfl, by decide, by decide⟩
    apply k_rv
    · exact rv_ixL (Evl.sq_of (g1 l _ nl upd_same)) (at_int d1 hm)
    have g1' : Gr [p] H H1 := (Gr.new hl).trans g1
    walk_at "kk"
    refine k_onR1 (by omega) (lc_go (walk_range (lo := 0) (n := m.toNat)) (fun D i H' => p ≠ D ∧ H D = none ∧ Gr [D, p] H H' ∧ Pu H' p (n + 1 + i * 10000) ∧ ∃ (vs : List V) (cs : List Cond), H' D = some (.lst vs) ∧ DqAll K [D, p] H' vs (cs.map enc) ∧ cs.length = i ∧ ∀ c ∈ cs, smc z c) (by intro _; rfl) (fun D hD => ?_) (fun _ _ _ _ _ => trivial) (fun D i x Ha Hb hi iv hy => ?_) (fun D H2 iv => ?_))
    · have hpD := p1.ne hD
      exact ⟨hpD, g1'.free hD (by simpa using hpD.symm), (g1'.more (by simp)).trans (Gr.mut (by simp)), p1.up (upd_ne hpD) (by omega), [], [], upd_same, .nil, rfl, by simp⟩
    · obtain ⟨hpD, hD0, g2, p2, vs, cs, e2, dv2, l2, m2⟩ := iv
      obtain ⟨rfl, rfl⟩ := hy
      walk_at "kk"
      refine ⟨p, z, n + 1 + i * 10000, rfl, hz, hz2, p2, by omega, fun H3 v c g3 p3 dv sm => ?_⟩
      have e3 : H3 D = some (.lst vs) := g3 D _ (by simpa using hpD.symm) e2
      have g3' : Gr [D, p] Hb H3 := g3.more (by simp)
      have gm : Gr [D, p] H3 (upd H3 D (.lst (vs ++ [v]))) := Gr.mut (by simp)
      have dvD : Dq K [D, p] H3 v (enc c) := dv.avoid e3 (noLst_enc c)
      refine k_add e3 (by rw [dv2.len, List.length_map]; omega) ⟨hpD, hD0, (g2.trans g3').trans gm, p3.up (upd_ne hpD) (by omega), vs ++ [v], cs ++ [c], upd_same, ?_, by simp [l2], fun t ht => ?_⟩
      · rw [List.map_append]
        exact ((dv2.up g3').append (.cons dvD .nil)).up gm
      · rcases List.mem_append.mp ht with h | h
        · exact m2 t h
        · rw [List.mem_singleton.mp h]; exact sm
    · obtain ⟨hpD, hD0, g2, p2, vs, cs, e2, dv2, l2, m2'⟩ := iv
      have g2' := g2.less hD0
      walk_at "kk"
      refine ⟨p, z, 1, 2, n + 1 + m.toNat * 10000, rfl, by omega, by omega, by omega, hz, hz2, p2, by omega, fun H3 x g3 p3 mx lx1 lx2 => ?_⟩
      walk_at "kk"
      refine ⟨p, z, 0, 2, n + 1 + m.toNat * 10000 + 1001, rfl, by omega, by omega, by omega, hz, hz2, p3, by omega, fun H4 y g4 p4 my ly1 ly2 => ?_⟩
      have e4 : H4 D = some (.lst vs) := g4 D _ (by simpa using hpD.symm) (g3 D _ (by simpa using hpD.symm) e2)
      walk_at "kk"
      refine k_tupOfL (Evl.sq_of e4) fun t1 ht1 => ?_
      have dvs : DqAll K [p] (upd H4 t1 (.tup vs)) vs (cs.map enc) := ((dv2.less1.up g3).up g4).up (Gr.new ht1)
      walk_at "kk"
      intro t2 ht2
      have p5 := (p4.new (o := .tup vs) ht1).new (o := .tup [.str x, .str y, .ref t1]) ht2
      have np1 : t1 ∉ [p] := fun z => p4.ne ht1 (List.mem_singleton.mp z).symm
      have np2 : t2 ∉ [p] := fun z => (p4.new (o := .tup vs) ht1).ne ht2 (List.mem_singleton.mp z).symm
      have gAll : Gr [p] H (upd (upd H4 t1 (.tup vs)) t2 (.tup [.str x, .str y, .ref t1])) := g2'.trans (g3.trans (g4.trans ((Gr.new ht1).trans (Gr.new ht2))))
      refine q _ _ ⟨x, y, cs⟩ gAll (p5.up rfl (by omega)) ?_ ⟨⟨(show 1 ≤ x.length by omega), (show x.length ≤ 2 by omega), mx⟩, ⟨(show y.length ≤ 2 by omega), my⟩, (show cs.length ≤ 2 by omega), m2'⟩
      refine Dq.tup np2 upd_same (.cons (Dq.str x) (.cons (Dq.str y) (.cons ?_ .nil)))
      exact (Dq.tup np1 upd_same dvs).up (Gr.new ht2)
end
set_option Elab.async false
set_option linter.all false
set_option maxRecDepth 100000
set_option maxHeartbeats 4000000
section
variable {P : Program} {w : World} {K : PySem.W.Frag} {mg : Str → Option Value} {base : Heap}
theorem encR_at {S : List Addr} {H : Hp} {v : V} {r : RD} (h : Dp K H v (encR r)) : ∃ a c, v = .ref a ∧ SqT K H a [.str r.e, .str r.p, c] ∧ Dp K H c (encs r.cs) := by
  cases h with
  | @tup a xs _ ha hd =>
    cases hd with
    | cons h1 hr1 =>
      cases h1
      cases hr1 with
      | cons h2 hr2 =>
        cases h2
        cases hr2 with
        | @cons c _ _ _ h3 hr3 =>
          cases hr3
          exact ⟨a, c, rfl, ha, h3⟩
def fstE : PyData → V
  | .tuple (.str e :: _) => .str e
  | _ => .non
/-- a drawn step -/
def smS (z : Str) (top : Nat) (s : SD) : Prop := s.rs.length ≤ top ∧ (∀ r ∈ s.rs, smR z r) ∧ (s.mode = "longest" ∨ s.mode = "first") ∧ (s.mode = "longest" → (s.rs.map RD.e).Nodup)
def stepI (K : PySem.W.Frag) (H : Hp) (f p : Addr) (z md : Str) (n i : Nat) (H' : Hp) : Prop := Gr [f, p] H H' ∧ Pu H' p (n + 2 + i * 30000) ∧ ∃ (xs : List V) (rs : List RD), H' f = some (.lst xs) ∧ DqAll K [f, p] H' xs (rs.map encR) ∧ rs.length ≤ i ∧ (∀ r ∈ rs, smR z r) ∧ (md = "longest" → (rs.map RD.e).Nodup)
theorem fst_str {r : RD} {H : Hp} {v : V} (h : Dp K H v (encR r)) : ∃ a xs, v = .ref a ∧ SqT K H a (.str r.e :: xs) := by
  obtain ⟨a, c, rfl, h, _⟩ := encR_at (S := []) h
  exact ⟨a, _, rfl, h⟩
def spLStep (K : PySem.W.Frag) : Sp := fun vs H Q _ => ∃ (p : Addr) (z : Str) (top n : Nat), vs = [.ref p, .str z, .int (top : Nat)] ∧ top ≤ 8 ∧ 0 < z.length ∧ z.length ≤ 100 ∧ Pu H p n ∧ n < 2 ^ 36 ∧
  ∀ (H' : Hp) (v : V) (s : SD), Gr [p] H H' → Pu H' p (n + 400000) → Dq K [p] H' v (encS s) → (∀ D vs, D ≠ p → H D = some (.lst vs) → Dq K [D, p] H' v (encS s)) → smS z top s → Q v H'
theorem ok_law_step (T : Txt K mg) : FnOk P w K mg base CX0 6 T.a_law_step T.fd_law_step ["purse", "signs", "top"] (spLStep K) := by
  refine T.F_law_step.ok sc_law_step (fun vs H Q E h => ?_) (fun cdv A outer s H vs Q E hr h => ?_)
  · obtain ⟨p, z, top, n, rfl, _⟩ := h
    rfl
  · obtain ⟨p, z, top, n, rfl, htop, hz, hz2, hp, hn, q⟩ := h
    refine ⟨_, (pss_cons (ps_par (i := 3) (j := 4) (by rfl) sc_law_step.nd rfl rfl (by decide) rfl rfl (pa_cons (pe_lst pa_nil) (pa_cons (pe_ix (ixK K) (pe_lst (pa_cons pe_str (pa_cons pe_str pa_nil))) (pe_call (ok_law_draw T) (hr.mono (by decide)) (by rfl) T.m_law_draw T.F_law_draw.kp T.b_law_draw .nil pass0 (pa_cons (pv 0) (pa_cons pe_int pa_nil))) (fun _ _ => rfl)) pa_nil)) (by rfl))
      (pss_cons (ps_for PassesOwn.never rfl (pi_range1 (by rfl) T.z_range (pa_cons (pe_call (ok_law_draw T) (hr.mono (by decide)) (by rfl) T.m_law_draw T.F_law_draw.kp T.b_law_draw .nil pass0 (pa_cons (pv 0) (pa_cons (pe_op (addK K) (pv 2) pe_int) pa_nil))) pa_nil)) (pg_name (i := 5) sc_law_step.nd rfl (Or.inl rfl)) (pss_cons (ps_set (i := 6) sc_law_step.nd rfl (Or.inl rfl) (pe_call (ok_law_rule T) (hr.mono (by decide)) (by rfl) T.m_law_rule T.F_law_rule.kp T.b_law_rule .nil pass0 (pa_cons (pv 0) (pa_cons (pv 1) pa_nil))))
      (pss_one (ps_if (PW.pt (pw_or (pt_cmpR (eqK K hr) (pv 4) pe_str (nomark _)) (pw_or1 (pt_cmpR (notInSK K) (pe_ix (ixK K) (pv 6) pe_int (fun _ _ => rfl)) (pe_lc (own := [("one_rule", 7)]) (by rfl) sc_law_step.nd (listK K (pv 3)) (blkOk_by (N := ["purse", "signs", "top", "found", "how", "turn", "one", "one_rule"]) (sc := defScope s_law_step) (by decide +kernel)) (fun _ _ _ _ _ => (pg_name (i := 7) sc_law_step.nd rfl (Or.inl rfl))) (fun _ _ _ _ _ => pts_nil) (fun _ _ _ _ _ => (pe_ix (ixK K) (pv 7) pe_int (fun _ _ => rfl)))) (by rfl))))) (pss_one (ps_expr (appK K (pv 3) (pv 6)))) pss_nil))))
      (pss_one (ps_ret (pe_tup (pa_cons (pv 3) (pa_cons (pv 4) pa_nil))))))), ?_⟩
    walk_at "kk"
    intro f hf
    have p0 := hp.new (o := .lst []) hf
    have nf : f ∉ [p] := fun z => hp.ne hf (List.mem_singleton.mp z).symm
    walk_at "kk"
    intro l hl
    have p1 := p0.new (o := .lst [.str "longest", .str "first"]) hl
    have nl : l ∉ [p] := fun z => p0.ne hl (List.mem_singleton.mp z).symm
    walk_at "kk"
    refine ⟨p, 2, n, rfl, by omega, by omega, p1, by omega, fun H1 d g1 p2 d1 d2 => ?_⟩
    obtain ⟨md, hm, md2⟩ : ∃ md : Str, ([.str "longest", .str "first"] : List V)[d.toNat]? = some (.str md) ∧ (md = "longest" ∨ md = "first") := by
      have h4 : d = 0 ∨ d = 1 := by omega
      rcases h4 with rfl | rfl
      · exact ⟨"longest", rfl, .inl rfl⟩
      · exact ⟨"first", rfl, .inr rfl⟩
    apply k_rv
    · exact rv_ixL (Evl.sq_of (g1 l _ nl upd_same)) (at_int d1 hm)
    have ef1 : H1 f = some (.lst []) := g1 f _ nf (by rw [upd_ne (ne_of_none upd_same hl)]; exact upd_same)
    have gA : Gr [f, p] H H1 := ((Gr.new hf).trans ((Gr.new hl).trans g1)).more (by simp)
    walk_at "kk"
    have fp : f ≠ p := by simpa using nf
    refine ⟨p, (top : Nat) + 1, n + 1, rfl, by omega, by omega, p2, by omega, fun H2 m g2 p3 m1 m2 => ?_⟩
    walk_at "kk"
    have g2' : Gr [f, p] H H2 := gA.trans (g2.more (by simp))
    have ef2 := g2 f _ nf ef1
    refine k_onR1 (by omega) (for_go (walk_rng (n := m.toNat)) (fun i σ H' => stepI K H f p z md n i H' ∧ ∃ y1 y2 y3, σ = [some (.ref p), some (.str z), some (.int (top : Nat)), some (.ref f), some (.str md), y1, y2, y3]) ⟨⟨g2', p3, [], [], ef2, .nil, Nat.le_refl _, by simp, by simp⟩, none, none, none, rfl⟩ (fun _ _ _ _ _ => trivial) (fun i x σ Ha Hb hi iv hy => ?_) (fun σ H3 iv => ?_))
    · obtain ⟨⟨g3, p4, xs, rs, ef, dx, lr, sm, nd⟩, y1, y2, y3, rfl⟩ := iv
      obtain ⟨rfl, rfl⟩ := hy
      walk_at "kk"
      refine ⟨p, z, _, rfl, hz, hz2, p4, by omega, fun H4 v r g4 p5 dv smr => ?_⟩
      have ef4 : H4 f = some (.lst xs) := g4 f _ nf ef
      have g4' : Gr [f, p] Hb H4 := g4.more (by simp)
      have dvf : Dq K [f, p] H4 v (encR r) := dv.avoid ef4 (noLst_encR r)
      obtain ⟨av, cv, rfl, hv, _⟩ := encR_at (S := []) dv.dp
      walk_at "kk"
      have add : ∀ H5, Same H4 H5 → (md = "longest" → r.e ∉ rs.map RD.e) → stepI K H f p z md n (i + 1) (upd H5 f (.lst (xs ++ [.ref av]))) := by
        intro H5 s5 no
        have gm : Gr [f, p] H5 (upd H5 f (.lst (xs ++ [.ref av]))) := Gr.mut (by simp)
        have g5 : Gr [f, p] H4 H5 := Gr.of s5
        refine ⟨(g3.trans (g4'.trans g5)).trans gm, (p5.same s5).up (upd_ne (Ne.symm fp)) (by omega), xs ++ [.ref av], rs ++ [r], upd_same, ?_, by simp; omega, fun q hq => ?_, fun e => ?_⟩
        · rw [List.map_append]
          exact (((dx.up g4').up g5).append (.cons (dvf.up g5) .nil)).up gm
        · rcases List.mem_append.mp hq with h | h
          · exact sm q h
          · rw [List.mem_singleton.mp h]; exact smr
        · rw [List.map_append, List.nodup_append]
          refine ⟨nd e, by simp, fun x hx y hy => ?_⟩
          rw [List.mem_singleton.mp hy]
          intro z
          exact no e (z ▸ hx)
      have xl : xs.length ≤ 100 := by rw [dx.len, List.length_map]; omega
      refine k_ite (fun hb => ?_) (fun hb => ?_)
      · have hb := of_decide_eq_true hb
        walk_at "kk"
        refine k_appV rfl rfl ef4 (by omega) ?_
        exact ⟨add H4 (Same.refl H4) (fun e => by rw [e] at hb; exact absurd hb (by decide +kernel)), _, _, _, rfl⟩
      · walk_at "kk"
        have dp4 : DpAll K H4 xs (rs.map encR) := (dx.up g4').dp
        refine k_onL (Evl.sq_of ef4) (lc_mapLD fstE (Evl.sq_of ef4) dp4 (by rw [List.length_map]; omega) (by intro _; rfl) (fun v d H5 hd dv5 s5 Q2 k2 => ?_) (fun D H5 n5 s5 e5 => ?_))
        · obtain ⟨r2, _, rfl⟩ := List.mem_map.mp hd
          obtain ⟨a2, ys, rfl, h2⟩ := fst_str dv5
          walk_at "kk"
          apply k_rv
          · exact rv_ixT h2 (at_int (by decide) rfl)
          exact k2 _ (Same.refl _)
        · walk_at "kk"
          rw [List.map_map, show fstE ∘ encR = V.str ∘ RD.e from rfl, ← List.map_map] at e5
          refine k_inS (Evl.sq_of e5) ?_
          walk_at "kk"
          refine k_ite (fun hb2 => ?_) (fun hb2 => ?_)
          · walk_at "kk"
            refine k_appV rfl rfl (s5 _ _ ef4) (by omega) ?_
            refine ⟨add H5 s5 (fun _ mem => ?_), _, _, _, rfl⟩
            have z2 : ((rs.map RD.e).any fun t => t == r.e) = true := List.any_eq_true.mpr ⟨_, mem, by simp⟩
            rw [z2] at hb2
            cases hb2
          · walk_at "kk"
            exact ⟨⟨(g3.trans g4').trans (Gr.of s5), (p5.same s5).up rfl (by omega), xs, rs, s5 _ _ ef4, (dx.up g4').up (Gr.of s5), by omega, sm, nd⟩, _, _, _, rfl⟩
    · obtain ⟨⟨g3, p4, xs, rs, ef, dx, lr, sm, nd⟩, y1, y2, y3, rfl⟩ := iv
      walk_at "kk"
      intro t ht
      have np : t ∉ [p] := fun z => p4.ne ht (List.mem_singleton.mp z).symm
      refine q _ _ ⟨rs, md⟩ ((g3.less hf).trans (Gr.new ht)) ((p4.new ht).up rfl (by omega)) ?_ (fun D vs nD eD => ?_) ⟨(show rs.length ≤ top by omega), sm, md2, nd⟩
      · refine Dq.tup np upd_same (.cons ?_ (.cons (Dq.str md) .nil))
        exact (Dq.lst nf ef dx.less1).up (Gr.new ht)
      · have nfD : D ≠ f := ne_of_none eD hf
        have eD3 : H3 D = some (.lst vs) := g3 D _ (by simp [nfD, nD]) eD
        have ntD : D ≠ t := ne_of_none eD3 ht
        refine Dq.tup (by simp [ntD.symm]; exact fun z => np (by simp [z])) upd_same (.cons ?_ (.cons (Dq.str md) .nil))
        have da : DqAll K [D, p] H3 xs (rs.map encR) := DpAll.avoid eD3 dx.less1 (noLstA_all fun d hd => by
          obtain ⟨r, _, rfl⟩ := List.mem_map.mp hd
          exact noLst_encR r)
        exact (Dq.lst (by simp [nfD.symm]; exact fun z => nf (by simp [z])) ef da).up (Gr.new ht)
end
set_option Elab.async false
set_option linter.all false
set_option maxRecDepth 100000
set_option maxHeartbeats 4000000
section
variable {P : Program} {w : World} {K : PySem.W.Frag} {mg : Str → Option Value} {base : Heap}
/-- a rule that is let -/
structure Let (r : RD) : Prop where
  ze : r.e.length ≤ 50000
  zp : r.p.length ≤ 50000
  we : isWordOf (.str r.e) alph = true
  wp : isTextOf (.str r.p) alph = true
  lc : r.cs.length ≤ 50000
  ft : ∀ c ∈ r.cs, Fit c
def condsAt (K : PySem.W.Frag) (H : Hp) (c : V) (cs : List Cond) : Prop := ∃ (ca : Addr) (t : Bool) (xs : List V), c = .ref ca ∧ SqB K t H ca xs ∧ DpAll K H xs (cs.map enc)
theorem conds_dp {H : Hp} {c : V} {cs : List Cond} (h : Dp K H c (encs cs)) : condsAt K H c cs := by
  cases h with
  | tup h a => exact ⟨_, true, _, rfl, h, a⟩
theorem rule_ok (T : Txt K mg) {H : Hp} {r : RD} {c : V} {Q : VK} {E : XK} {x dx : Addr} (hc : condsAt K H c r.cs) (lt : Let r) (h1 : H x = none) (h2 : H dx = none) (ne : dx ≠ x) (k : ∀ x H', Same H H' → RuA K T.C_Rule H' x r → Q x H') :
    spRule T [.ref x, .str r.e, .str r.p, c] (upd (upd H dx (.own x)) x (.ins T.C_Rule dx [])) (fun v H2 => v = .non ∧ Q (.ref x) H2) E := by
  obtain ⟨ca, t, xs, rfl, hx, hd⟩ := hc
  have ms := made_same (C := T.C_Rule) h1 h2 ne
  exact ⟨x, dx, _, _, _, .str r.e, .str r.p, rfl, upd_same, .inl (.str _), lt.ze, .inl (.str _), lt.zp, .inr ⟨lt.we, .inr ⟨lt.wp, .inr ⟨r.e, r.p, r.cs, ca, t, xs, rfl, rfl, rfl, hx.up ms, DpAll.up ms hd, lt.lc, lt.ft, fun H' g ru => ⟨rfl, k (.ref x) H' (made_up h1 h2 ne g) ru⟩⟩⟩⟩⟩
theorem step_okX (T : Txt K mg) {H : Hp} {s : SD} {r : V} {xs : List V} {Q : VK} {E : XK} {x dx : Addr} (hr : rulesAt T r H s.rs xs) (om : okS s.mode) (im : isMode (.str s.mode) = true) (nd : s.mode = "longest" → (s.rs.map RD.e).Nodup) (h1 : H x = none) (h2 : H dx = none) (ne : dx ≠ x)
    (k : ∀ x H', Same H H' → StX K T.C_Step T.C_Rule H' x s xs → Q x H') : spStep T [.ref x, r, .str s.mode] (upd (upd H dx (.own x)) x (.ins T.C_Step dx [])) (fun v H2 => v = .non ∧ Q (.ref x) H2) E := by
  obtain ⟨ra, t, rfl, hx, hru, hl⟩ := hr
  have ms := made_same (C := T.C_Step) h1 h2 ne
  exact ⟨x, dx, _, _, rfl, upd_same, .inr ⟨s.rs, xs, ⟨ra, t, rfl, hx.up ms, hru.up ms, hl⟩, .inr ⟨s.mode, rfl, om, im, .inr ⟨nd, fun H' g st => ⟨rfl, k (.ref x) H' (made_up h1 h2 ne g) st⟩⟩⟩⟩⟩
theorem step_ok (T : Txt K mg) {H : Hp} {s : SD} {r : V} {Q : VK} {E : XK} {x dx : Addr} (hr : rulesOk T r H s.rs) (om : okS s.mode) (im : isMode (.str s.mode) = true) (nd : s.mode = "longest" → (s.rs.map RD.e).Nodup) (h1 : H x = none) (h2 : H dx = none) (ne : dx ≠ x)
    (k : ∀ x H', Same H H' → StA K T.C_Step T.C_Rule H' x s → Q x H') : spStep T [.ref x, r, .str s.mode] (upd (upd H dx (.own x)) x (.ins T.C_Step dx [])) (fun v H2 => v = .non ∧ Q (.ref x) H2) E := by
  obtain ⟨ra, t, xs, e, hx, hru, hl⟩ := hr
  exact step_okX T ⟨ra, t, e, hx, hru, hl⟩ om im nd h1 h2 ne fun x H' s st => k x H' s st.st
theorem rule_madeK (T : Txt K mg) {H : Hp} {r : RD} {c : V} {Q : VK} {E : XK} (hc : condsAt K H c r.cs) (lt : Let r) (k : ∀ x H', Same H H' → RuA K T.C_Rule H' x r → Q x H') :
    madeK T.C_Rule 2 1 (spRule T) (fun vs zs => vs ++ pick [0] zs) E [.str r.e, .str r.p] [c] H Q := ⟨rfl, rfl, fun x dx h1 h2 ne => rule_ok T hc lt h1 h2 ne k⟩
theorem step_madeK (T : Txt K mg) {H : Hp} {s : SD} {r : V} {Q : VK} {E : XK} (hr : rulesOk T r H s.rs) (om : okS s.mode) (im : isMode (.str s.mode) = true) (nd : s.mode = "longest" → (s.rs.map RD.e).Nodup)
    (k : ∀ x H', Same H H' → StA K T.C_Step T.C_Rule H' x s → Q x H') : madeK T.C_Step 1 1 (spStep T) (fun vs zs => vs ++ pick [0] zs) E [r] [.str s.mode] H Q := ⟨rfl, rfl, fun x dx h1 h2 ne => step_ok T hr om im nd h1 h2 ne k⟩
/-- a step that is let -/
structure LetS (s : SD) : Prop where
  len : s.rs.length ≤ 1000
  lt : ∀ r ∈ s.rs, Let r
  om : okS s.mode
  im : isMode (.str s.mode) = true
  nd : s.mode = "longest" → (s.rs.map RD.e).Nodup
def spMade (T : Txt K mg) : Sp := fun vs H Q _ => ∃ (v : V) (s : SD), vs = [v] ∧ Dp K H v (encS s) ∧ LetS s ∧ ∀ x H', Same H H' → StA K T.C_Step T.C_Rule H' x s → Q x H'
theorem encS_at {H : Hp} {v : V} {s : SD} (h : Dp K H v (encS s)) : ∃ a l xs, v = .ref a ∧ SqT K H a [.ref l, .str s.mode] ∧ SqL K H l xs ∧ DpAll K H xs (s.rs.map encR) := by
  cases h with
  | @tup a xs _ ha hd =>
    cases hd with
    | cons h1 hr1 =>
      cases h1 with
      | lst hl hd =>
        cases hr1 with
        | cons h2 hr2 =>
          cases h2
          cases hr2
          exact ⟨a, _, _, rfl, ha, hl, hd⟩
theorem ok_law_made_step (T : Txt K mg) : FnOk P w K mg base CX0 10 T.a_law_made_step T.fd_law_made_step ["raw"] (spMade T) := by
  refine T.F_law_made_step.ok sc_law_made_step (fun vs H Q E h => ?_) (fun cdv A outer s H vs Q E hr h => ?_)
  · obtain ⟨v, s, rfl, _⟩ := h
    rfl
  · obtain ⟨v, sd, rfl, hv, lt, q⟩ := h
    refine ⟨_, (pss_one (ps_ret (pe_makeK T.mk_Step (ok_Step_init T) (hr.mono (by decide)) (by rfl) T.mc_Step T.kb_Step_init_1_mode passL (pa_cons (pe_lc (own := [("one", 1)]) (by rfl) sc_law_made_step.nd (listK K (pe_ix (ixK K) (pv 0) pe_int (fun _ _ => rfl))) (blkOk_by (N := ["raw", "one"]) (sc := defScope s_law_made_step) (by decide +kernel)) (fun _ _ _ _ _ => (pg_name (i := 1) sc_law_made_step.nd rfl (Or.inl rfl))) (fun _ _ _ _ _ => pts_nil) (fun _ _ _ _ _ => (pe_makeK T.mk_Rule (ok_Rule_init T) (hr.mono (by decide)) (by rfl) T.mc_Rule T.kb_Rule_init_2_conditions passL (pa_cons (pe_ix (ixK K) (pv 1) pe_int (fun _ _ => rfl)) (pa_cons (pe_ix (ixK K) (pv 1) pe_int (fun _ _ => rfl)) pa_nil)) (pk_cons (pe_ix (ixK K) (pv 1) pe_int (fun _ _ => rfl)) pk_nil)))) pa_nil) (pk_cons (pe_ix (ixK K) (pv 0) pe_int (fun _ _ => rfl)) pk_nil)))), ?_⟩
    obtain ⟨a, l, xs, rfl, ha, hl, hd⟩ := encS_at hv
    walk_at "kk"
    have xl : xs.length = sd.rs.length := by rw [hd.len, List.length_map]
    refine k_onL hl (lc_go (walk_L (xs := xs)) (fun D i H' => H D = none ∧ Gr [D] H H' ∧ ∃ vs, H' D = some (.lst vs) ∧ RuAll K T.C_Rule (Hd [D] H') vs (sd.rs.take i)) (by intro _; rfl) (fun D hD => ?_) (fun D i H' _ iv => ?_) (fun D i x Ha Hb hi iv hy => ?_) (fun D H2 iv => ?_))
    · exact ⟨hD, Gr.new hD, [], upd_same, .nil⟩
    · exact (iv.2.1.less iv.1).same.seq hl
    · obtain ⟨hD, g1, vs, eD, ru⟩ := iv
      obtain ⟨rfl, rfl⟩ := hy
      have s1 := (g1.less hD).same
      have lr : i < sd.rs.length := by omega
      obtain ⟨x, hx, dx⟩ := DpAll.get hd (i := i) (d := encR sd.rs[i]) (by rw [List.getElem?_map, List.getElem?_eq_getElem lr]; rfl)
      have ex : xs.getD i .non = x := by rw [List.getD_eq_getElem?_getD, hx]; rfl
      rw [ex]
      obtain ⟨ar, c, rfl, har, hc⟩ := encR_at (S := []) (dx.up s1)
      walk_at "kk"
      refine rule_madeK T (r := sd.rs[i]) (conds_dp hc) (lt.lt _ (List.getElem_mem lr)) fun xr H4 s4 ru4 => ?_
      have e4 := s4 _ _ eD
      have gm : Gr [D] H4 (upd H4 D (.lst (vs ++ [xr]))) := Gr.mut (by simp)
      have tk : sd.rs.take (i + 1) = sd.rs.take i ++ [sd.rs[i]] := by rw [List.take_add_one, List.getElem?_eq_getElem lr]; rfl
      have l1 := ru.len
      rw [List.length_take] at l1
      have l2 := lt.len
      refine k_add e4 (by omega) ⟨hD, (g1.trans (Gr.of s4)).trans gm, vs ++ [xr], upd_same, ?_⟩
      rw [tk]
      exact ((ru.up (Gr.of s4).hd).append (.cons (ru4.d1 e4) .nil)).up gm.hd
    · obtain ⟨hD, g1, vs, eD, ru⟩ := iv
      have s1 := (g1.less hD).same
      rw [List.take_of_length_le (by omega)] at ru
      walk_at "kk"
      apply k_rv
      · exact rv_ixT (Evl.ex_t s1 ha) (at_int (by decide) rfl)
      walk_at "kk"
      exact step_madeK T (s := sd) ⟨D, false, vs, rfl, Evl.sq_of eD, ru.up (hd_same _ _), lt.len⟩ lt.om lt.im lt.nd fun xs H4 s4 st => q xs H4 (s1.trans s4) st
end
end K91
set_option Elab.async false
set_option linter.all false
set_option maxRecDepth 100000
set_option maxHeartbeats 4000000
namespace K91
open PySem PySem.Spec PyProof.Rows L2 TL Mi
 
/-! ### short words -/
local macro_rules | `(tactic| walk_at "idx") => `(tactic| first | assumption | exact Evl.sq_of (by assumption) | exact Evl.st_of (by assumption) | exact Evl.sq_of upd_same | exact Evl.st_of upd_same)
local macro_rules | `(tactic| walk_at "side") => `(tactic| first | omega | exact Or.inl ⟨by omega, by omega⟩ | exact Or.inr ⟨by omega, by omega⟩ | exact ⟨by omega, by omega⟩ | decide +kernel)
local macro_rules | `(tactic| walk_at "div") => `(tactic| exact wide_div (b := 30) (by omega) (by omega) (by decide) (by decide))
local macro_rules | `(tactic| walk_at "pow") => `(tactic| exact ⟨by decide +kernel, by decide +kernel, by decide +kernel⟩)
local macro_rules | `(tactic| walk_at "rv") => `(tactic| first
  | with_reducible exact rv_addI | with_reducible exact rv_sub | with_reducible exact rv_lt | with_reducible exact rv_le | with_reducible exact rv_gt | with_reducible exact rv_ge
  | with_reducible exact rv_inC | with_reducible exact rv_notInC | with_reducible exact rv_isB
  | (with_reducible apply rv_mul
     walk_at "side")
  | (with_reducible apply rv_mod
     walk_at "side")
  | (with_reducible apply rv_div
     walk_at "div")
  | (with_reducible apply rv_pow
     walk_at "pow")
  | (with_reducible apply rv_eq
     exact rfl)
  | (with_reducible apply rv_ne
     exact rfl)
  | (with_reducible apply rv_ixL
     · walk_at "idx"
     · exact rfl)
  | (with_reducible apply rv_ixT
     · walk_at "idx"
     · exact rfl)
  | (with_reducible apply rv_ixS
     · walk_at "side"
     · exact rfl)
  | (with_reducible apply rv_addS
     walk_at "side"))
local macro_rules | `(tactic| walk_at "val") => `(tactic| first
  | with_reducible exact val_c | exact val_c
  | (with_reducible apply val_var
     exact rfl)
  | (with_reducible apply val_bin
     · walk_at "val"
     · walk_at "val"
     · walk_at "rv")
  | (with_reducible apply val_int1
     walk_at "val")
  | (with_reducible apply val_max2
     · walk_at "val"
     · walk_at "val")
  | (with_reducible apply val_min2
     · walk_at "val"
     · walk_at "val")
  | (with_reducible apply val_endsw
     · walk_at "val"
     · walk_at "val")
  | (with_reducible apply val_lenS
     · walk_at "val"
     · walk_at "side")
  | (with_reducible apply val_lenL
     · walk_at "val"
     · walk_at "idx")
  | (with_reducible apply val_lenT
     · walk_at "val"
     · walk_at "idx")
  | (with_reducible apply val_notV
     walk_at "val"))
local macro_rules | `(tactic| walk_at "ans") => `(tactic| first
  | (with_reducible apply ans_T
     walk_at "val")
  | (with_reducible apply ans_B
     walk_at "val")
  | (with_reducible apply ans_not
     walk_at "ans"))
local macro_rules | `(tactic| walk_at "ifp") => `(tactic| first
  | (with_reducible refine Eq.mpr (if_pos ?_) ?_
     · decide +kernel)
  | (with_reducible refine Eq.mpr (if_neg ?_) ?_
     · decide +kernel))
local macro_rules | `(tactic| walk_at "k") => `(tactic| first
  | with_reducible apply k_seq | with_reducible apply k_asg | with_reducible apply k_ret | with_reducible apply k_ifS | with_reducible apply k_drop | with_reducible apply k_name
  | (with_reducible apply k_var
     · exact rfl)
  | with_reducible apply k_c
  | with_reducible apply k_op | with_reducible apply k_cb | with_reducible apply k_call | with_reducible apply k_cons | with_reducible apply k_nil | with_reducible apply k_tup | with_reducible apply k_lst
  | with_reducible apply k_ifE | with_reducible apply k_test | with_reducible apply k_tb | with_reducible apply k_not | with_reducible apply k_and | with_reducible apply k_or | with_reducible apply k_bl
  | with_reducible apply k_sl | with_reducible apply k_part | with_reducible apply k_isI | with_reducible apply k_nopart
  | with_reducible apply k_lcZS | with_reducible apply k_onZS | with_reducible apply k_un | with_reducible apply k_neg
  | with_reducible apply k_forIX | with_reducible apply k_forEB | with_reducible apply k_forSB | with_reducible apply k_lcSB | with_reducible apply k_fld | with_reducible apply k_prop | with_reducible apply k_sfld | with_reducible apply k_make | with_reducible apply k_makeK | with_reducible apply k_mkO | with_reducible apply k_par3 | with_reducible apply k_par3R | with_reducible apply k_par | with_reducible apply k_parR
  | with_reducible apply k_lcS | with_reducible apply k_lcR | with_reducible apply k_lcL | with_reducible apply k_lcT | with_reducible apply k_forS | with_reducible apply k_forR | with_reducible apply k_forL | with_reducible apply k_forT | with_reducible apply k_onS | with_reducible apply k_yes
  | (with_reducible apply k_augC
     · exact rfl)
  | with_reducible apply k_next | with_reducible apply k_eqInt | with_reducible apply k_neInt | with_reducible apply k_eqStr | with_reducible apply k_neStr
  | with_reducible apply k_andV | with_reducible apply k_orV | with_reducible apply k_notV
  | with_reducible apply k_lenSetX | with_reducible apply k_ckw | with_reducible apply k_vals | with_reducible apply k_dnewF | with_reducible apply k_meth | with_reducible apply k_din | with_reducible apply k_prs | with_reducible apply k_prn | with_reducible apply k_dispX
  | with_reducible apply k_m1 | with_reducible apply k_onStr | with_reducible apply k_endsw
  | (with_reducible apply k_slS
     · walk_at "side")
  | (with_reducible apply k_newTG
     · walk_at "len")
  | (with_reducible apply k_newLG
     · walk_at "len")
  | with_reducible apply k_int1 | with_reducible apply k_max2 | with_reducible apply k_min2
  | (with_reducible apply k_lenS
     · walk_at "side")
  | (with_reducible apply k_lenL
     · walk_at "idx")
  | (with_reducible apply k_lenT
     · walk_at "idx")
  | (with_reducible apply k_rv
     · walk_at "rv")
  | walk_at "ifp")
local macro_rules | `(tactic| walk_at "kk") => `(tactic| (repeat (walk_at "k")))
local macro_rules | `(tactic| walk_at "len") => `(tactic| first | exact (by decide : (1:Nat) ≤ 100000) | exact (by decide : (2:Nat) ≤ 100000) | exact (by decide : (3:Nat) ≤ 100000) | exact (by decide : (4:Nat) ≤ 100000) | exact (by decide : (7:Nat) ≤ 100000) | (simp only [List.length_cons, List.length_nil]; omega) | omega)
local macro_rules | `(tactic| walk_at "up") => `(tactic| first
  | assumption
  | (refine Dq.up ?_ (Gr.new (by assumption))
     walk_at "up")
  | (refine Dq.up ?_ (by assumption)
     walk_at "up"))
local macro_rules | `(tactic| walk_at "lit") => `(tactic| first
  | with_reducible exact lit_str | with_reducible exact lit_int | with_reducible exact lit_bl | with_reducible exact lit_non | with_reducible exact lit_neg | with_reducible exact lit_nil | with_reducible exact lit_dic
  | (with_reducible apply lit_cons
     · walk_at "lit"
     · walk_at "lit")
  | (with_reducible apply lit_tup
     · walk_at "lit"
     · decide)
  | (with_reducible apply lit_lst
     · walk_at "lit"
     · decide))
section
variable {K : PySem.W.Frag} {H : Hp} {Q : VK} {C : Addr} {r : RD} {x : V}
theorem ru_prop {f : Str} {E : XK} {v : V} (h : RuA K C H x r) (sel : ∀ a dx fs, x = .ref a → H a = some (.ins C dx fs) → fs.lookup ("_ending" : Str) = some (.str r.e) → fs.lookup ("_put" : Str) = some (.str r.p) → fs.lookup f = some v) (k : Q v H) : propR C (getSp C f) [] E x H Q := by
  obtain ⟨a, dx, fs, t, xs, rfl, h1, h2, h3, h4, h5, h6⟩ := h
  have := sel a dx fs rfl h1 h2 h3
  exact ⟨a, dx, fs, rfl, h1, a, dx, fs, v, rfl, h1, this, k⟩
theorem ru_ending {E : XK} (h : RuA K C H x r) (k : Q (.str r.e) H) : propR C (getSp C "_ending") [] E x H Q := ru_prop h (fun _ _ _ _ _ h1 _ => h1) k
theorem ru_put {E : XK} (h : RuA K C H x r) (k : Q (.str r.p) H) : propR C (getSp C "_put") [] E x H Q := ru_prop h (fun _ _ _ _ _ _ h2 => h2) k
theorem ru_conds {E : XK} (h : RuA K C H x r) (k : ∀ t xs, SqT K H t xs → DpAll K H xs (r.cs.map enc) → Q (.ref t) H) : propR C (getSp C "_conditions") [] E x H Q := by
  obtain ⟨a, dx, fs, t, xs, rfl, h1, h2, h3, h4, h5, h6⟩ := h
  exact ⟨a, dx, fs, rfl, h1, a, dx, fs, .ref t, rfl, h1, h4, k t xs h5 h6⟩
theorem cond_head {v : V} {c : C0} (h : Dp K H v (enc0 c)) : ∃ a k rest, v = .ref a ∧ SqT K H a (.str k :: rest) ∧ k ≠ "not" := by
  cases c <;> (
    cases h with
    | tup ha hd =>
      cases hd with
      | cons h1 h2 =>
        cases h1
        exact ⟨_, _, _, rfl, ha, by decide +kernel⟩)
end
section
variable {P : Program} {w : World} {K : PySem.W.Frag} {mg : Str → Option Value} {base : Heap}
def inner : Cond → C0
  | .pos c => c
  | .neg c => c
/-- the plain one of a condition -/
def spInner (K : PySem.W.Frag) : Sp := fun vs H Q _ => ∃ (v : V) (c : Cond), vs = [v] ∧ Dp K H v (enc c) ∧ (∀ u, Dp K H u (enc0 (inner c)) → Q u H)
theorem ok_plain_condition (T : Txt K mg) : FnOk P w K mg base CX0 1 T.a_plain_condition T.fd_plain_condition ["condition"] (spInner K) := by
  refine T.F_plain_condition.ok sc_plain_condition (fun vs H Q E h => ?_) (fun cdv A outer s H vs Q E hr h => ?_)
  · obtain ⟨v, c, rfl, _⟩ := h
    rfl
  · obtain ⟨v, c, rfl, hv, q⟩ := h
    refine ⟨_, (pss_cons (ps_if (pt_cmpR (eqK K hr) (pe_ix (ixK K) (pv 0) pe_int (fun _ _ => rfl)) pe_str (nomark _)) (pss_one (ps_ret (pe_ix (ixK K) (pv 0) pe_int (fun _ _ => rfl)))) pss_nil)
      (pss_one (ps_ret (pv 0)))), ?_⟩
    cases c with
    | neg c =>
      cases hv with
      | tup ha hd =>
        cases hd with
        | cons h1 h2 =>
          cases h1
          cases h2 with
          | cons h2 h3 =>
            cases h3
            walk_at "kk"
            exact q _ h2
    | pos c =>
      obtain ⟨a, k, rest, rfl, ha, ne⟩ := cond_head (c := c) hv
      walk_at "kk"
      apply k_rv
      · exact rv_ixT ha (at_int (by decide) rfl)
      walk_at "kk"
      refine k_ite (fun hb => absurd (of_decide_eq_true hb) ne) (fun _ => ?_)
      walk_at "kk"
      exact q _ hv
def texts1 : C0 → List Str
  | .ends ts => ts
  | _ => []
def textsC (cs : List Cond) : List Str := (cs.map fun c => texts1 (inner c)).flatten
def textsOf (r : RD) : List Str := [r.e, r.p] ++ textsC r.cs
theorem strs_inv {K : PySem.W.Frag} {H : Hp} : ∀ {ys : List V} {ts : List Str}, DpAll K H ys (ts.map .str) → ys = ts.map V.str
  | _, [], h => by
    cases h
    rfl
  | _, t :: ts, h => by
    cases h with
    | cons a b =>
      cases a
      rw [strs_inv b]
      rfl
theorem plain_cases {K : PySem.W.Frag} {H : Hp} {v : V} {c : C0} (h : Dp K H v (enc0 c)) : (∃ ts a tb, c = .ends ts ∧ v = .ref a ∧ SqT K H a [.str "ends", .ref tb] ∧ SqT K H tb (ts.map V.str)) ∨
    (∃ a k rest, v = .ref a ∧ SqT K H a (.str k :: rest) ∧ k ≠ "ends" ∧ texts1 c = []) := by
  cases c with
  | ends ts =>
    cases h with
    | tup ha hd =>
      cases hd with
      | cons h1 h2 =>
        cases h1
        cases h2 with
        | cons h2 h3 =>
          cases h3
          cases h2 with
          | tup hb hc =>
            cases strs_inv hc
            exact .inl ⟨ts, _, _, rfl, rfl, ha, hb⟩
  | _ =>
    cases h with
    | tup ha hd =>
      cases hd with
      | cons h1 h2 =>
        cases h1
        exact .inr ⟨_, _, _, rfl, ha, by decide +kernel, rfl⟩
def spTexts (T : Txt K mg) : Sp := fun vs H Q _ => ∃ (v : V) (r : RD), vs = [v] ∧ RuA K T.C_Rule H v r ∧ (textsOf r).length ≤ 1000 ∧ r.cs.length ≤ 1000 ∧ ∀ l H', Same H H' → H' l = some (.lst ((textsOf r).map V.str)) → Q (.ref l) H'
theorem textsC_len {cs : List Cond} {i : Nat} : (textsC (cs.take i)).length ≤ (textsC cs).length := by
  have : textsC cs = textsC (cs.take i) ++ textsC (cs.drop i) := by
    unfold textsC
    rw [← List.flatten_append, ← List.map_append, List.take_append_drop]
  rw [this, List.length_append]
  omega
theorem textsC_succ {cs : List Cond} {i : Nat} (h : i < cs.length) : textsC (cs.take (i + 1)) = textsC (cs.take i) ++ texts1 (inner cs[i]) := by
  unfold textsC
  rw [List.take_add_one, List.getElem?_eq_getElem h, List.map_append, List.flatten_append]
  simp
theorem ok_texts_of_rule (T : Txt K mg) : FnOk P w K mg base CX0 3 T.a_texts_of_rule T.fd_texts_of_rule ["rule"] (spTexts T) := by
  refine T.F_texts_of_rule.ok sc_texts_of_rule (fun vs H Q E h => ?_) (fun cdv A outer s H vs Q E hr h => ?_)
  · obtain ⟨v, r, rfl, _⟩ := h
    rfl
  · obtain ⟨v, r, rfl, hv, tl_, cl, q⟩ := h
    refine ⟨_, (pss_cons (ps_set (i := 1) sc_texts_of_rule.nd rfl (Or.inl rfl) (pe_lst (pa_cons (pe_prop (pv 0) T.cl_Rule T.pp_Rule_ending (ok_Rule_ending T) (hr.mono (by decide)) T.bM_Rule_ending .nil pass0 (by rfl)) (pa_cons (pe_prop (pv 0) T.cl_Rule T.pp_Rule_put (ok_Rule_put T) (hr.mono (by decide)) T.bM_Rule_put .nil pass0 (by rfl)) pa_nil))))
      (pss_cons (ps_for PassesOwn.never rfl (tupIK K (pe_prop (pv 0) T.cl_Rule T.pp_Rule_conditions (ok_Rule_conditions T) (hr.mono (by decide)) T.bM_Rule_conditions .nil pass0 (by rfl))) (pg_name (i := 2) sc_texts_of_rule.nd rfl (Or.inl rfl)) (pss_cons (ps_set (i := 3) sc_texts_of_rule.nd rfl (Or.inl rfl) (pe_call (ok_plain_condition T) (hr.mono (by decide)) (by rfl) T.m_plain_condition T.F_plain_condition.kp T.b_plain_condition .nil pass0 (pa_cons (pv 2) pa_nil)))
      (pss_one (ps_if (pt_cmpR (eqK K hr) (pe_ix (ixK K) (pv 3) pe_int (fun _ _ => rfl)) pe_str (nomark _)) (pss_one (ps_expr (extK K (pv 1) (pe_ix (ixK K) (pv 3) pe_int (fun _ _ => rfl))))) pss_nil))))
      (pss_one (ps_ret (pv 1))))), ?_⟩
    walk_at "kk"
    refine ru_ending hv ?_
    walk_at "kk"
    refine ru_put hv ?_
    walk_at "kk"
    intro l H1 s1 f1 e1
    walk_at "kk"
    refine ru_conds (hv.up s1) (fun t xs ht hd => ?_)
    have tl2 : (textsC r.cs).length + 2 ≤ 1000 := by
      have : (textsOf r).length = (textsC r.cs).length + 2 := by
        unfold textsOf
        rw [List.length_append]
        show 2 + _ = _
        omega
      omega
    have xl : xs.length = r.cs.length := by rw [hd.len, List.length_map]
    refine k_onT ht (for_go (walk_T (xs := xs)) (fun i σ H' => Gr [l] H1 H' ∧ H' l = some (.lst (([r.e, r.p] ++ textsC (r.cs.take i)).map V.str)) ∧ ∃ t2 t3, σ = [some v, some (.ref l), t2, t3]) ⟨Gr.refl, by rw [e1]; rfl, none, none, rfl⟩ (fun i σ H' _ iv => ?_) (fun i x σ Ha Hb hi iv hy => ?_) (fun σ H2 iv => ?_))
    · exact Evl.ex_t (hd_same _ _) (Evl.ex_t iv.1.hd (SqT.avoid (S := []) e1 (Evl.ex_t hd_nil ht)))
    · obtain ⟨g, e, t2, t3, rfl⟩ := iv
      obtain ⟨rfl, rfl⟩ := hy
      have lr : i < r.cs.length := by omega
      obtain ⟨x, hx, dx⟩ := DpAll.get hd (i := i) (d := enc r.cs[i]) (by rw [List.getElem?_map, List.getElem?_eq_getElem lr]; rfl)
      have ex : xs.getD i .non = x := by rw [List.getD_eq_getElem?_getD, hx]; rfl
      rw [ex]
      have dx2 : Dp K Hb x (enc r.cs[i]) := Dp.up (hd_same _ _) (Dp.up g.hd (Dq.avoid (S := []) (Dp.up hd_nil dx) e1 (noLst_enc _)))
      walk_at "kk"
      refine ⟨x, r.cs[i], rfl, dx2, fun u du => ?_⟩
      walk_at "k"
      walk_at "k"
      have tk := textsC_succ lr
      rcases plain_cases du with ⟨ts, b, tb, ec, rfl, hb, hts⟩ | ⟨b, k, rest, rfl, hb, ne, ec⟩
      · rw [ec] at tk
        walk_at "kk"
        refine ⟨.ref l, rfl, .inl ⟨rfl, _, Evl.sq_of e⟩, ?_⟩
        walk_at "kk"
        have l3 := textsC_len (cs := r.cs) (i := i + 1)
        rw [tk, List.length_append] at l3
        have l4 : (texts1 (.ends ts)).length = ts.length := rfl
        refine rExtG e (.inr hts) ?_ (fun H3 g3 e3 => ?_)
        · rw [List.length_map, List.length_append, List.length_map]
          show 2 + _ + _ ≤ 100000
          omega
        walk_at "kk"
        refine ⟨g.trans g3, ?_, _, _, rfl⟩
        rw [e3, tk, ← List.append_assoc, List.map_append (l₂ := texts1 (.ends ts))]
        rfl
      · rw [ec, List.append_nil] at tk
        walk_at "kk"
        apply k_rv
        · exact rv_ixT hb (at_int (by decide) rfl)
        walk_at "kk"
        refine k_ite (fun hb => absurd (of_decide_eq_true hb) ne) (fun _ => ?_)
        walk_at "kk"
        refine ⟨g, ?_, _, _, rfl⟩
        rw [tk]
        exact e
    · obtain ⟨g, e, t2, t3, rfl⟩ := iv
      rw [List.take_of_length_le (by omega)] at e
      walk_at "kk"
      exact q l _ ((((Gr.of s1).trans g).less f1).same) e
end
set_option Elab.async false
set_option linter.all false
set_option maxRecDepth 100000
set_option maxHeartbeats 4000000
section
variable {P : Program} {w : World} {K : PySem.W.Frag} {mg : Str → Option Value} {base : Heap}
def fitsR (y : Str) (r : RD) : Bool := (textsOf r).all fun t => isTextOf (.str t) y
/-- sizes of what a rule names -/
structure SzR (r : RD) : Prop where
  tl : (textsOf r).length ≤ 1000
  cl : r.cs.length ≤ 1000
  sz : ∀ t ∈ textsOf r, t.length ≤ 50000
def spFits (T : Txt K mg) : Sp := fun vs H Q _ => ∃ (v : V) (r : RD) (y : Str), vs = [v, .str y] ∧ RuA K T.C_Rule H v r ∧ SzR r ∧ ∀ H', Same H H' → Q (.bl (fitsR y r)) H'
theorem ok_rule_fits (T : Txt K mg) : FnOk P w K mg base CX0 4 T.a_rule_fits T.fd_rule_fits ["rule", "letters"] (spFits T) := by
  refine T.F_rule_fits.ok sc_rule_fits (fun vs H Q E h => ?_) (fun cdv A outer s H vs Q E hr h => ?_)
  · obtain ⟨v, r, y, rfl, _⟩ := h
    rfl
  · obtain ⟨v, r, y, rfl, hv, sz, q⟩ := h
    refine ⟨_, (pss_one (ps_ret (pe_callB (allK K) (by rfl) T.z_all B_all (pa_cons (pe_lc (own := [("text", 2)]) (by rfl) sc_rule_fits.nd (listK K (pe_call (ok_texts_of_rule T) (hr.mono (by decide)) (by rfl) T.m_texts_of_rule T.F_texts_of_rule.kp T.b_texts_of_rule .nil pass0 (pa_cons (pv 0) pa_nil))) (blkOk_by (N := ["rule", "letters", "text"]) (sc := defScope s_rule_fits) (by decide +kernel)) (fun _ _ _ _ _ => (pg_name (i := 2) sc_rule_fits.nd rfl (Or.inl rfl))) (fun _ _ _ _ _ => pts_nil) (fun _ _ _ _ _ => (pe_call (ok_is_text_of T) (hr.mono (by decide)) (by rfl) T.m_is_text_of T.F_is_text_of.kp T.b_is_text_of .nil pass0 (pa_cons (pv 2) (pa_cons (pv 1) pa_nil))))) pa_nil)))), ?_⟩
    walk_at "kk"
    refine ⟨v, r, rfl, hv, sz.tl, sz.cl, fun l H1 s1 e1 => ?_⟩
    refine k_onL (Evl.sq_of e1) (lc_keysL (textsOf r) "" (fun v t => v = .str t) (fun t => .bl (isTextOf (.str t) y)) (Evl.sq_of e1) (by rw [List.length_map]) (rel_strs _) (by have := sz.tl; omega) (by intro _; rfl) (fun v t Hx ht hv sx Q2 k2 => ?_) (fun D H2 n2 s2 e2 => ?_))
    · subst hv
      walk_at "kk"
      exact ⟨.str t, .str t, y, rfl, .inl (.str t), sz.sz t ht, fun H' s => k2 _ s⟩
    · walk_at "kk"
      refine k_all (bs := (textsOf r).map fun t => isTextOf (.str t) y) (Evl.sq_of (by rw [e2, List.map_map]; rfl)) ?_
      rw [List.all_map]
      exact q _ (s1.trans s2)
end
set_option Elab.async false
set_option linter.all false
set_option maxRecDepth 100000
set_option maxHeartbeats 4000000
section
variable {K : PySem.W.Frag} {H : Hp} {Q : VK} {C : Addr} {r : RD} {x : V}
theorem st_rules {CS CR : Addr} {s : SD} {E : XK} {t : Addr} {a dx : Addr} {fs : List (Str × V)} (hx : x = .ref a) (h1 : H a = some (.ins CS dx fs)) (h2 : fs.lookup ("_rules" : Str) = some (.ref t)) (k : Q (.ref t) H) : propR CS (getSp CS "_rules") [] E x H Q := by
  subst hx
  exact ⟨a, dx, fs, rfl, h1, a, dx, fs, .ref t, rfl, h1, h2, k⟩
end
section
variable {P : Program} {w : World} {K : PySem.W.Frag} {mg : Str → Option Value} {base : Heap}
/-- no step, or a step, and whether it fits -/
def StF (T : Txt K mg) (y : Str) (H : Hp) (x : V) (b : Bool) : Prop := (Ob K T.C_Step H x false ∧ b = false) ∨
  (∃ s, StA K T.C_Step T.C_Rule H x s ∧ (∀ r ∈ s.rs, SzR r) ∧ s.rs.length ≤ 1000 ∧ b = s.rs.all (fitsR y))
theorem StF.up {T : Txt K mg} {y : Str} {H H' : Hp} {x : V} {b : Bool} (h : StF T y H x b) (e : Same H H') : StF T y H' x b := by
  rcases h with ⟨h, hb⟩ | ⟨s, h, r⟩
  · exact .inl ⟨h.same e, hb⟩
  · exact .inr ⟨s, h.up e, r⟩
def stepsR (T : Txt K mg) (v : V) (y : Str) (H : Hp) (N : Hp → Prop) (E : XK) : Prop :=
  (∃ d, Th K H v d ∧ PySem.W.kitAny K (.type (tyName d)) (["list", "tuple"].map Value.type) = some false ∧ ∀ H' dd, Same H H' → H' dd = some (.xd [("place", .non)]) → E (.ref T.C_InvalidSteps) (some dd) H') ∨
  (∃ (a : Addr) (t : Bool) (xs : List V) (bs : List Bool), v = .ref a ∧ SqB K t H a xs ∧ bs.length = xs.length ∧ xs.length ≤ 50000 ∧ (∀ (i : Nat) (x : V), xs[i]? = some x → ∃ b, bs[i]? = some b ∧ StF T y H x b) ∧
    ((∀ b ∈ bs, b = true) → ∀ H', Same H H' → N H') ∧
    (∀ i : Nat, bs[i]? = some false → (∀ (j : Nat) b, j < i → bs[j]? = some b → b = true) → ∀ H' dd, Same H H' → H' dd = some (.xd [("place", .int (i : Nat))]) → E (.ref T.C_InvalidSteps) (some dd) H'))
theorem ok_check_steps (T : Txt K mg) : FnOk P w K mg base (L2.CX P w) 10 T.a_check_steps T.fd_check_steps ["steps", "letters"] (fun vs H Q E => ∃ v y, vs = [v, .str y] ∧ stepsR T v y H (Q .non) E) := by
  refine T.F_check_steps.okX sc_check_steps (fun vs H Q E h => ?_) (fun cdv A outer s H vs Q E hr h => ?_)
  · obtain ⟨v, y, rfl, _⟩ := h
    rfl
  · obtain ⟨v, y, rfl, h⟩ := h
    refine ⟨_, (pss_cons (ps_if (pt_not (pt_val (pe_call (ok_is_list T) (hr.mono (by decide)) (by rfl) T.m_is_list T.F_is_list.kp T.b_is_list .nil pass0 (pa_cons (pv 0) pa_nil)))) (pss_one (ps_raise rfl (takes_of rfl rfl rfl rfl) (pmk_oex T.x_InvalidSteps T.i_InvalidSteps T.t_InvalidSteps (ok_InvalidSteps_init T) (hr.mono (by decide)) T.bI_InvalidSteps .nil pass0 (by rfl) T.mc_InvalidSteps (pa_cons pe_non pa_nil)))) pss_nil)
      (pss_one (ps_for (passes_of rfl) rfl (enumK K (by rfl) T.z_enumerate (pa_cons (pv 0) pa_nil)) (tupleK K (n := 2) rfl (pgs_cons (pg_name (i := 2) sc_check_steps.nd rfl (Or.inl rfl)) (pgs_cons (pg_name (i := 3) sc_check_steps.nd rfl (Or.inl rfl)) pgs_nil))) (pss_one (ps_if (PW.pt (pw_or (pt_not (pt_val (pe_callB (isiK K) (by rfl) T.z_isinstance B_isinstance (pa_cons (pv 3) (pa_cons (C8.pe_gc (v := .ref T.C_Step) (by rfl) ⟨_, T.mc_Step, rfl⟩) pa_nil))))) (pw_or1 (pt_not (pt_val (pe_callB (allK K) (by rfl) T.z_all B_all (pa_cons (pe_lc (own := [("rule", 4)]) (by rfl) sc_check_steps.nd (tupIK K (pe_prop (pv 3) T.cl_Step T.pp_Step_rules (ok_Step_rules T) (hr.mono (by decide)) T.bM_Step_rules .nil pass0 (by rfl))) (blkOk_by (N := ["steps", "letters", "place", "step", "rule"]) (sc := defScope s_check_steps) (by decide +kernel)) (fun _ _ _ _ _ => (pg_name (i := 4) sc_check_steps.nd rfl (Or.inl rfl))) (fun _ _ _ _ _ => pts_nil) (fun _ _ _ _ _ => (pe_call (ok_rule_fits T) (hr.mono (by decide)) (by rfl) T.m_rule_fits T.F_rule_fits.kp T.b_rule_fits .nil pass0 (pa_cons (pv 4) (pa_cons (pv 1) pa_nil))))) pa_nil))))))) (pss_one (ps_raise rfl (takes_of rfl rfl rfl rfl) (pmk_oex T.x_InvalidSteps T.i_InvalidSteps T.t_InvalidSteps (ok_InvalidSteps_init T) (hr.mono (by decide)) T.bI_InvalidSteps .nil pass0 (by rfl) T.mc_InvalidSteps (pa_cons (pv 2) pa_nil)))) pss_nil))))), ?_⟩
    walk_at "kk"
    rcases h with ⟨d, hv, e, q⟩ | ⟨a, t, xs, bs, rfl, hx, hdl, hl, hd, q1, q2⟩
    · refine ⟨v, _, false, rfl, hv.ty, e, fun H1 s1 => ?_⟩
      walk_at "kk"
      exact k_mkR fun H2 dd s2 e2 => q H2 dd (s1.trans s2) e2
    · refine ⟨.ref a, _, true, rfl, hx.ty, kit_lt K t, fun H1 s1 => ?_⟩
      walk_at "kk"
      refine k_onEB (hx.up s1) ?_
      refine for_go (walk_eB (xs := xs)) (fun i σ H' => Same H H' ∧ (∀ (j : Nat) b, j < i → bs[j]? = some b → b = true) ∧ ∃ y1 y2 y3, σ = [some (.ref a), some (.str y), y1, y2, y3]) ⟨s1, (fun j d' hj => (nomatch hj)), none, none, none, rfl⟩ (fun i σ H' _ iv => hx.up iv.1) (fun i x σ Ha Hb hi iv hy => ?_) (fun σ H' iv => ?_)
      · obtain ⟨s2, good, y1, y2, y3, rfl⟩ := iv
        obtain ⟨p, rfl, hp, rfl⟩ := hy
        obtain ⟨b, ed, ob⟩ := hd i (xs.getD i .non) (by rw [List.getD_eq_getElem?_getD, List.getElem?_eq_getElem hi]; rfl)
        have s3 := s2.trans (same_new (o := .tup [.int (i : Nat), xs.getD i .non]) hp)
        refine k_unp2 (Evl.st_of upd_same) ?_
        walk_at "kk"
        rcases ob with ⟨o, rfl⟩ | ⟨s, st, sz, len, eb⟩
        · refine k_ob (o.same s3) ?_
          walk_at "kk"
          exact k_mkR fun H6 dd s6 e6 => q2 i ed good H6 dd (s3.trans s6) e6
        · obtain ⟨sa, sdx, sfs, stt, sxs, ex, h1, h2, h3, h4, h5⟩ := st.up s3
          rw [ex] at h1 h4 h5 s3 ⊢
          refine k_ob (ob_ins T.in_Step h1) ?_
          walk_at "kk"
          refine st_rules (CR := T.C_Rule) (s := s) rfl h1 h2 ?_
          refine k_onT h4 (lc_keysT s.rs nul (fun v r => RuA K T.C_Rule (upd Ha p (.tup [.int (i : Nat), .ref sa])) v r ∧ SzR r) (fun r => .bl (fitsR y r)) h4 h5.len (fun m hm => ?_) (by omega) (by intro _; rfl) (fun v r Hx hr1 hv sx Q2 k2 => ?_) (fun D H2 n2 s2_ e2 => ?_))
          · obtain ⟨r, er, hr2⟩ := h5.get (i := m) (x := sxs.getD m .non) (by rw [List.getD_eq_getElem?_getD, List.getElem?_eq_getElem (by rw [h5.len]; exact hm)]; rfl)
            have : s.rs.getD m nul = r := by rw [List.getD_eq_getElem?_getD, er]; rfl
            rw [this]
            exact ⟨hr2, sz r (List.mem_of_getElem? er)⟩
          · walk_at "kk"
            exact ⟨v, r, y, rfl, hv.1.up sx, hv.2, fun H' s => k2 _ s⟩
          · walk_at "kk"
            refine k_all (bs := s.rs.map (fitsR y)) (Evl.sq_of (by rw [e2, List.map_map]; rfl)) ?_
            rw [List.all_map]
            have eb2 : s.rs.all (id ∘ fitsR y) = b := by rw [eb]; rfl
            rw [eb2]
            have s4 : Same H H2 := s3.trans s2_
            cases b with
            | true =>
              walk_at "kk"
              refine ⟨s4, fun j d' hj e => ?_, _, _, _, rfl⟩
              rcases Nat.lt_succ_iff_lt_or_eq.mp hj with hj | rfl
              · exact good j d' hj e
              · rw [ed] at e
                cases Option.some.inj e
                rfl
            | false =>
              walk_at "kk"
              exact k_mkR fun H6 dd s6 e6 => q2 i ed good H6 dd (s4.trans s6) e6
      · obtain ⟨s2, good, y1, y2, y3, rfl⟩ := iv
        walk_at "kk"
        refine q1 (fun b hb => ?_) _ s2
        obtain ⟨j, hj⟩ := List.getElem?_of_mem hb
        exact good j b (by have := (List.getElem?_eq_some_iff.mp hj).1; omega) hj
end
set_option Elab.async false
set_option linter.all false
set_option maxRecDepth 100000
set_option maxHeartbeats 4000000
section
variable {P : Program} {w : World} {K : PySem.W.Frag} {mg : Str → Option Value} {base : Heap}
def spCheckText (T : Txt K mg) : Sp := fun vs H Q E => ∃ (v : V) (d : PyData) (y : Str), vs = [v, .str y] ∧ Th K H v d ∧ szd d ∧
  ((isTextOf d y = true ∧ ∀ H', Same H H' → Q .non H') ∨ (isTextOf d y = false ∧ ∀ H' dd, Same H H' → H' dd = some (.xd [("thing", v)]) → E (.ref T.C_InvalidText) (some dd) H'))
theorem ok_check_text (T : Txt K mg) : FnOk P w K mg base (L2.CX P w) 3 T.a_check_text T.fd_check_text ["text", "letters"] (spCheckText T) := by
  refine T.F_check_text.okX sc_check_text (fun vs H Q E h => ?_) (fun cdv A outer s H vs Q E hr h => ?_)
  · obtain ⟨v, d, y, rfl, _⟩ := h
    rfl
  · obtain ⟨v, d, y, rfl, hv, hz, h⟩ := h
    refine ⟨_, (pss_one (ps_if (pt_not (pt_val (pe_call (ok_is_text_of T) (hr.mono (by decide)) (by rfl) T.m_is_text_of T.F_is_text_of.kp T.b_is_text_of .nil pass0 (pa_cons (pv 0) (pa_cons (pv 1) pa_nil))))) (pss_one (ps_raise rfl (takes_of rfl rfl rfl rfl) (pmk_oex T.x_InvalidText T.i_InvalidText T.t_InvalidText (ok_InvalidText_init T) (hr.mono (by decide)) T.bI_InvalidText .nil pass0 (by rfl) T.mc_InvalidText (pa_cons (pv 0) pa_nil)))) pss_nil)), ?_⟩
    walk_at "kk"
    refine ⟨v, d, y, rfl, hv, hz, fun H1 s1 => ?_⟩
    rcases h with ⟨b, q⟩ | ⟨b, q⟩
    · rw [b]
      walk_at "kk"
      exact q _ s1
    · rw [b]
      walk_at "kk"
      exact k_mkR fun H2 dd s2 e2 => q H2 dd (s1.trans s2) e2
end
set_option Elab.async false
set_option linter.all false
set_option maxRecDepth 100000
set_option maxHeartbeats 4000000
section
variable {P : Program} {w : World} {K : PySem.W.Frag} {mg : Str → Option Value} {base : Heap}
/-- a row of steps -/
def StAll (T : Txt K mg) (H : Hp) (xs : List V) (ss : List SD) : Prop := xs.length = ss.length ∧ ∀ (i : Nat) s, ss[i]? = some s → ∃ x, xs[i]? = some x ∧ StA K T.C_Step T.C_Rule H x s
theorem StAll.up {T : Txt K mg} {H H' : Hp} {xs : List V} {ss : List SD} (h : StAll T H xs ss) (e : Same H H') : StAll T H' xs ss :=
  ⟨h.1, fun i s q => by obtain ⟨x, a, b⟩ := h.2 i s q; exact ⟨x, a, b.up e⟩⟩
end
set_option Elab.async false
set_option linter.all false
set_option maxRecDepth 100000
set_option maxHeartbeats 4000000
section
variable {P : Program} {w : World} {K : PySem.W.Frag} {mg : Str → Option Value} {base : Heap}
theorem any_mem_swap (r v : List Nat) : (r.any fun c => decide (c ∈ v)) = v.any fun c => decide (c ∈ r) := by
  rw [Bool.eq_iff_iff, List.any_eq_true, List.any_eq_true]
  constructor
  · rintro ⟨c, h1, h2⟩
    exact ⟨c, of_decide_eq_true h2, decide_eq_true h1⟩
  · rintro ⟨c, h1, h2⟩
    exact ⟨c, of_decide_eq_true h2, decide_eq_true h1⟩
def spVow : Sp := fun vs H Q _ => ∃ x y : Str, vs = [.str x, .str y] ∧ y.length ≤ 50000 ∧ ∀ H', Same H H' → Q (.bl ((tl x).any fun c => decide (c ∈ tl y))) H'
theorem ok_has_vowel (T : Txt K mg) : FnOk P w K mg base CX0 1 T.a_has_vowel T.fd_has_vowel ["text", "vowels"] spVow := by
  refine T.F_has_vowel.ok sc_has_vowel (fun vs H Q E h => ?_) (fun cdv A outer s H vs Q E hr h => ?_)
  · obtain ⟨x, y, rfl, _⟩ := h
    rfl
  · obtain ⟨x, y, rfl, hx, q⟩ := h
    refine ⟨_, (pss_one (ps_ret (pe_callB (anyK K) (by rfl) T.z_any B_any (pa_cons (pe_lc (own := [("vowel", 2)]) (by rfl) sc_has_vowel.nd (pi_str (pv 1)) (blkOk_by (N := ["text", "vowels", "vowel"]) (sc := defScope s_has_vowel) (by decide +kernel)) (fun _ _ _ _ _ => (pg_name (i := 2) sc_has_vowel.nd rfl (Or.inl rfl))) (fun _ _ _ _ _ => pts_nil) (fun _ _ _ _ _ => (pe_cmpR op_inC (pv 2) (pv 0) (by rfl)))) pa_nil)))), ?_⟩
    walk_at "kk"
    refine lc_mapS (fun c => .bl (decide (c ∈ tl x))) hx (by intro _; rfl) (fun c H1 hc s1 => EvS.of (by walk_at "val")) (fun D H' h1 h2 h3 => ?_)
    walk_at "kk"
    refine k_any (bs := (tl y).map fun c => decide (c ∈ tl x)) (Evl.sq_of (by rw [h3, List.map_map]; rfl)) ?_
    rw [List.any_map]
    have e : ((tl x).any fun c => decide (c ∈ tl y)) = (tl y).any (id ∘ fun c => decide (c ∈ tl x)) := any_mem_swap _ _
    rw [← e]
    exact q H' h2
/-- the runs of a text -/
def spRuns : Sp := fun vs H Q _ => ∃ x y : Str, vs = [.str x, .str y] ∧ x.length ≤ 50000 ∧ Q (.int (runs (tl y) (tl x) : Nat)) H
theorem sign_at {x : Str} {i : Nat} (h : i < x.length) : x.cps.toList[i]? = some ((tl x).getD i 0) := by
  have h' : i < (tl x).length := by rw [← len_tl]; exact h
  show (tl x)[i]? = _
  rw [List.getD_eq_getElem?_getD, List.getElem?_eq_getElem h']
  rfl
theorem ok_count_runs (T : Txt K mg) : FnOk P w K mg base CX0 1 T.a_count_runs T.fd_count_runs ["text", "vowels"] spRuns := by
  refine T.F_count_runs.ok sc_count_runs (fun vs H Q E h => ?_) (fun cdv A outer s H vs Q E hr h => ?_)
  · obtain ⟨x, y, rfl, _⟩ := h
    rfl
  · obtain ⟨x, y, rfl, hx, q⟩ := h
    refine ⟨_, (pss_cons (ps_set (i := 2) sc_count_runs.nd rfl (Or.inl rfl) pe_int)
      (pss_cons (ps_for PassesOwn.never rfl (pi_range1 (by rfl) T.z_range (pa_cons (pe_op op_subA (pe_callB (lenK K) (by rfl) T.z_len B_len (pa_cons (pv 0) pa_nil)) pe_int) pa_nil)) (pg_name (i := 3) sc_count_runs.nd rfl (Or.inl rfl)) (pss_one (ps_if (PW.pt (pw_and (pt_cmpR op_inC (pe_ix (ixK K) (pv 0) (pv 3) (fun _ _ => rfl)) (pv 1) (by rfl)) (pw_and1 (pt_cmpR op_notInC (pe_ix (ixK K) (pv 0) (pe_op (addK K) (pv 3) pe_int) (fun _ _ => rfl)) (pv 1) (by rfl))))) (pss_one (ps_aug (i := 2) sc_count_runs.nd rfl (Or.inl rfl) pe_int ip_add)) pss_nil)))
      (pss_one (ps_ret (pv 2))))), ?_⟩
    walk_at "kk"
    have hxl := len_tl x
    refine k_onR1 (by omega) (for_go (walk_rng (n := ((x.length : Int) - 1).toNat)) (fun i σ H' => H' = H ∧ ∃ y3, σ = [some (.str x), some (.str y), some (.int (runs (tl y) ((tl x).take (i + 1)) : Nat)), y3]) ?_ (fun _ _ _ _ _ => trivial) (fun i v σ Ha Hb hi iv hy => ?_) (fun σ H' iv => ?_))
    · exact ⟨rfl, none, by rw [runs_zero]; rfl⟩
    · obtain ⟨rfl, y3, rfl⟩ := iv
      obtain ⟨rfl, rfl⟩ := hy
      have st := runs_step (tl y) (tl x) i (by omega)
      have s0 := sign_at (x := x) (i := i) (by omega)
      have s1 := sign_at (x := x) (i := i + 1) (by omega)
      walk_at "kk"
      apply k_rv
      · exact rv_ixS (by omega) (at_int (by omega) s0)
      walk_at "kk"
      refine k_ite (fun hb => ?_) (fun hb => ?_)
      · have b0 := of_decide_eq_true hb
        walk_at "kk"
        apply k_rv
        · exact rv_ixS (by omega) (at_int (by omega) s1)
        walk_at "kk"
        refine k_ite (fun hb2 => ?_) (fun hb2 => ?_)
        · walk_at "kk"
          refine ⟨rfl, some (.int (i : Nat)), ?_⟩
          have b1 : (tl x).getD (i + 1) 0 ∉ tl y := by simpa using hb2
          have e : runs (tl y) ((tl x).take (i + 1 + 1)) = runs (tl y) ((tl x).take (i + 1)) + 1 := by rw [show i + 1 + 1 = i + 2 from rfl, st, if_pos ⟨b0, b1⟩]
          rw [e]
          rfl
        · walk_at "kk"
          refine ⟨rfl, some (.int (i : Nat)), ?_⟩
          have b1 : ¬ (tl x).getD (i + 1) 0 ∉ tl y := by simpa using hb2
          have e : runs (tl y) ((tl x).take (i + 1 + 1)) = runs (tl y) ((tl x).take (i + 1)) := by rw [show i + 1 + 1 = i + 2 from rfl, st, if_neg (fun h => b1 h.2)]; rfl
          rw [e]
          rfl
      · refine k_ite (fun h => by cases h) (fun _ => ?_)
        have b0 : ¬ (tl x).getD i 0 ∈ tl y := of_decide_eq_false hb
        walk_at "kk"
        refine ⟨rfl, some (.int (i : Nat)), ?_⟩
        have e : runs (tl y) ((tl x).take (i + 1 + 1)) = runs (tl y) ((tl x).take (i + 1)) := by rw [show i + 1 + 1 = i + 2 from rfl, st, if_neg (fun h => b0 h.1)]; rfl
        rw [e]
        rfl
    · obtain ⟨rfl, y3, rfl⟩ := iv
      walk_at "kk"
      have e : (tl x).take (((x.length : Int) - 1).toNat + 1) = tl x := List.take_of_length_le (by omega)
      rw [e]
      exact q
end
set_option Elab.async false
set_option linter.all false
set_option maxRecDepth 100000
set_option maxHeartbeats 4000000
section
variable {P : Program} {w : World} {K : PySem.W.Frag} {mg : Str → Option Value} {base : Heap}
def condsR (rs : List RD) : List C0 := (rs.map fun r => r.cs.map inner).flatten
def condsS (ss : List SD) : List C0 := (ss.map fun s => condsR s.rs).flatten
theorem condsR_cut (rs : List RD) (j : Nat) : condsR rs = condsR (rs.take j) ++ condsR (rs.drop j) := by
  unfold condsR
  rw [← List.flatten_append, ← List.map_append, List.take_append_drop]
theorem condsS_cut (ss : List SD) (i : Nat) : condsS ss = condsS (ss.take i) ++ condsS (ss.drop i) := by
  unfold condsS
  rw [← List.flatten_append, ← List.map_append, List.take_append_drop]
theorem condsR_succ {rs : List RD} {j : Nat} {r : RD} (h : rs[j]? = some r) : condsR (rs.take (j + 1)) = condsR (rs.take j) ++ r.cs.map inner := by
  unfold condsR
  rw [List.take_add_one, h, List.map_append, List.flatten_append]
  simp
theorem condsS_succ {ss : List SD} {i : Nat} {s : SD} (h : ss[i]? = some s) : condsS (ss.take (i + 1)) = condsS (ss.take i) ++ condsR s.rs := by
  unfold condsS
  rw [List.take_add_one, h, List.map_append, List.flatten_append]
  simp
theorem noLst_enc0A (cs : List C0) : noLstA (cs.map enc0) = true := noLstA_all fun d hd => by
  obtain ⟨c, _, rfl⟩ := List.mem_map.mp hd
  exact noLst_enc0 c
/-- [plain_condition(condition) for condition in ..] -/
theorem plain_lc (T : Txt K mg) {j : Nat} {vs0 : List Nat} {σ : L2.St} {Q : VK} {a : Addr} {H : Hp} {xs : List V} (cs : List Cond) (ha : SqT K H a xs) (hd : DpAll K H xs (cs.map enc)) (len : cs.length ≤ 1000)
    (hw : ∀ x, wipe ((wipe σ vs0).set j (some x)) vs0 = wipe σ vs0) (hj : j < (wipe σ vs0).length)
    (k : ∀ D H' ws, H D = none → Same H H' → H' D = some (.lst ws) → DpAll K H' ws ((cs.map inner).map enc0) → Q (.ref D) H') :
    lcOn (gName j) tYes (tCall (spInner K) [] E0 (tCons (tVar j) tNil)) vs0 σ Q (Itt K a) H := by
  have xl : xs.length = cs.length := by rw [hd.len, List.length_map]
  refine lc_go (walk_T (xs := xs)) (fun D i H' => H D = none ∧ Gr [D] H H' ∧ ∃ ws, H' D = some (.lst ws) ∧ DpAll K (Hd [D] H') ws (((cs.take i).map inner).map enc0)) hw (fun D hD => ⟨hD, Gr.new hD, [], upd_same, .nil⟩) (fun D i H' _ iv => Evl.ex_t (iv.2.1.less iv.1).same ha) (fun D i x Ha Hb hi iv hy => ?_) (fun D H2 iv => ?_)
  · obtain ⟨hD, g1, ws, eD, du⟩ := iv
    obtain ⟨rfl, rfl⟩ := hy
    have s1 := (g1.less hD).same
    have lr : i < cs.length := by omega
    obtain ⟨x, hx, dx⟩ := DpAll.get hd (i := i) (d := enc cs[i]) (by rw [List.getElem?_map, List.getElem?_eq_getElem lr]; rfl)
    have ex : xs.getD i .non = x := by rw [List.getD_eq_getElem?_getD, hx]; rfl
    rw [ex]
    have wl : ws.length ≤ 1000 := by
      have : ws.length = ((cs.take i).map inner).length := by
        have := du.len
        rw [List.length_map] at this
        exact this
      rw [this, List.length_map, List.length_take]
      omega
    apply k_yes
    refine iteT ?_
    refine ⟨x, by rw [List.getElem?_set_self hj], ?_⟩
    refine ⟨x, cs[i], rfl, dx.up s1, fun u hu => ?_⟩
    have gm : Gr [D] Hb (upd Hb D (.lst (ws ++ [u]))) := Gr.mut (by simp)
    have tk : cs.take (i + 1) = cs.take i ++ [cs[i]] := by rw [List.take_add_one, List.getElem?_eq_getElem lr]; rfl
    refine k_add eD (by omega) ⟨hD, g1.trans gm, ws ++ [u], upd_same, ?_⟩
    rw [tk, List.map_append, List.map_append]
    refine DpAll.up gm.hd (DpAll.append du (.cons ?_ .nil))
    exact Dq.avoid (S := []) (Dp.up hd_nil hu) eD (noLst_enc0 _)
  · obtain ⟨hD, g1, ws, eD, du⟩ := iv
    rw [List.take_of_length_le (by omega)] at du
    exact k D H2 ws hD (g1.less hD).same eD (DpAll.up (hd_same _ _) du)
def spPlainC (T : Txt K mg) : Sp := fun vs H Q _ => ∃ (t : Addr) (xs : List V) (ss : List SD), vs = [.ref t] ∧ SqT K H t xs ∧ StAll T H xs ss ∧ (condsS ss).length ≤ 1000 ∧
  ∀ l H' ys, Same H H' → H' l = some (.lst ys) → DpAll K H' ys ((condsS ss).map enc0) → Q (.ref l) H'
theorem ok_plain_conditions (T : Txt K mg) : FnOk P w K mg base CX0 3 T.a_plain_conditions T.fd_plain_conditions ["steps"] (spPlainC T) := by
  refine T.F_plain_conditions.ok sc_plain_conditions (fun vs H Q E h => ?_) (fun cdv A outer s H vs Q E hr h => ?_)
  · obtain ⟨t, xs, ss, rfl, _⟩ := h
    rfl
  · obtain ⟨t, xs, ss, rfl, ht, hs, cl, q⟩ := h
    refine ⟨_, (pss_cons (ps_set (i := 1) sc_plain_conditions.nd rfl (Or.inl rfl) (pe_lst pa_nil))
      (pss_cons (ps_for PassesOwn.never rfl (tupIK K (pv 0)) (pg_name (i := 2) sc_plain_conditions.nd rfl (Or.inl rfl)) (pss_one (ps_for PassesOwn.never rfl (tupIK K (pe_prop (pv 2) T.cl_Step T.pp_Step_rules (ok_Step_rules T) (hr.mono (by decide)) T.bM_Step_rules .nil pass0 (by rfl))) (pg_name (i := 3) sc_plain_conditions.nd rfl (Or.inl rfl)) (pss_one (ps_expr (extK K (pv 1) (pe_lc (own := [("condition", 4)]) (by rfl) sc_plain_conditions.nd (tupIK K (pe_prop (pv 3) T.cl_Rule T.pp_Rule_conditions (ok_Rule_conditions T) (hr.mono (by decide)) T.bM_Rule_conditions .nil pass0 (by rfl))) (blkOk_by (N := ["steps", "plain", "step", "rule", "condition"]) (sc := defScope s_plain_conditions) (by decide +kernel)) (fun _ _ _ _ _ => (pg_name (i := 4) sc_plain_conditions.nd rfl (Or.inl rfl))) (fun _ _ _ _ _ => pts_nil) (fun _ _ _ _ _ => (pe_call (ok_plain_condition T) (hr.mono (by decide)) (by rfl) T.m_plain_condition T.F_plain_condition.kp T.b_plain_condition .nil pass0 (pa_cons (pv 4) pa_nil))))))))))
      (pss_one (ps_ret (pv 1))))), ?_⟩
    walk_at "kk"
    intro l H1 s1 f1 e1
    walk_at "kk"
    refine k_onT (Evl.ex_t s1 ht) (for_go (walk_T (xs := xs)) (fun i σ H' => Gr [l] H H' ∧ (∃ ys, H' l = some (.lst ys) ∧ DpAll K (Hd [l] H') ys ((condsS (ss.take i)).map enc0)) ∧ ∃ t2 t3, σ = [some (.ref t), some (.ref l), t2, t3, none]) ⟨Gr.of s1, ⟨[], e1, .nil⟩, none, none, rfl⟩ (fun i σ H' _ iv => Evl.ex_t (iv.1.less f1).same ht) (fun i x σ Ha Hb hi iv hy => ?_) (fun σ H2 iv => ?_))
    · obtain ⟨g, ⟨ys, e, dy⟩, t2, t3, rfl⟩ := iv
      obtain ⟨rfl, rfl⟩ := hy
      have sH := (g.less f1).same
      have li : i < ss.length := by
        have := hs.1
        omega
      have es : ss[i]? = some ss[i] := List.getElem?_eq_getElem li
      obtain ⟨x, ex, sx⟩ := hs.2 i ss[i] es
      have exx : xs.getD i .non = x := by rw [List.getD_eq_getElem?_getD, ex]; rfl
      rw [exx]
      obtain ⟨sa, sdx, sfs, stt, sxs, rfl, h1, h2, h3, h4, h5⟩ := sx
      walk_at "kk"
      refine st_rules (CR := T.C_Rule) (s := ss[i]) rfl (sH _ _ h1) h2 ?_
      refine k_onT (Evl.ex_t sH h4) (for_go (walk_T (xs := sxs)) (fun j σ H' => Gr [l] H H' ∧ (∃ ys, H' l = some (.lst ys) ∧ DpAll K (Hd [l] H') ys ((condsS (ss.take i) ++ condsR (ss[i].rs.take j)).map enc0)) ∧ ∃ t3, σ = [some (.ref t), some (.ref l), some (.ref sa), t3, none]) ⟨g, ⟨ys, e, by simpa [condsR] using dy⟩, t3, rfl⟩ (fun j σ H' _ iv => Evl.ex_t (iv.1.less f1).same h4) (fun j y σ Hc Hd2 hj iv hy => ?_) (fun σ H3 iv => ?_))
      · obtain ⟨g2, ⟨zs, e2, dz⟩, t3', rfl⟩ := iv
        obtain ⟨rfl, rfl⟩ := hy
        have sC := (g2.less f1).same
        obtain ⟨r, er, hr1⟩ := h5.get (i := j) (x := sxs.getD j .non) (by rw [List.getD_eq_getElem?_getD, List.getElem?_eq_getElem hj]; rfl)
        have sz : (condsS (ss.take i) ++ condsR (ss[i].rs.take (j + 1))).length ≤ 1000 := by
          have a1 := condsS_cut ss (i + 1)
          rw [condsS_succ es, condsR_cut ss[i].rs (j + 1)] at a1
          have a2 := congrArg List.length a1
          simp only [List.length_append] at a2 ⊢
          omega
        have sz2 := sz
        rw [condsR_succ er] at sz2
        simp only [List.length_append, List.length_map] at sz2
        have zl : zs.length = (condsS (ss.take i)).length + (condsR (ss[i].rs.take j)).length := by
          have := dz.len
          rw [List.length_map, List.length_append] at this
          exact this
        walk_at "kk"
        refine ⟨.ref l, rfl, .inl ⟨rfl, _, Evl.sq_of e2⟩, ?_⟩
        walk_at "kk"
        refine ru_conds (hr1.up sC) (fun tc xc htc hdc => ?_)
        refine k_onT htc (plain_lc T r.cs htc hdc (by omega) (by intro _; rfl) (by exact (by decide : 4 < 5)) (fun D H4 ws nD s4 e4 dw => ?_))
        walk_at "kk"
        have wl : ws.length = r.cs.length := by
          have := dw.len
          rw [List.length_map, List.length_map] at this
          exact this
        refine rExtG (s4 _ _ e2) (.inl e4) (by omega) (fun H5 g5 e5 => ?_)
        walk_at "kk"
        refine ⟨(g2.trans (Gr.of s4)).trans g5, ⟨zs ++ ws, e5, ?_⟩, _, rfl⟩
        rw [condsR_succ er, ← List.append_assoc, List.map_append]
        exact DpAll.up g5.hd (DpAll.append (DpAll.up (s4.hid [l]) dz) (DpAll.avoid (S := []) (s4 _ _ e2) (DpAll.up hd_nil dw) (noLst_enc0A _)))
      · obtain ⟨g2, ⟨zs, e2, dz⟩, t3', rfl⟩ := iv
        rw [List.take_of_length_le (l := ss[i].rs) (Nat.le_of_eq h5.len.symm)] at dz
        refine ⟨g2, ⟨zs, e2, ?_⟩, _, _, rfl⟩
        rw [condsS_succ es]
        exact dz
    · obtain ⟨g, ⟨ys, e, dy⟩, t2, t3, rfl⟩ := iv
      rw [List.take_of_length_le (by rw [← hs.1]; omega)] at dy
      walk_at "kk"
      exact q l _ ys (g.less f1).same e (DpAll.up (hd_same _ _) dy)
end
set_option Elab.async false
set_option linter.all false
set_option maxRecDepth 100000
set_option maxHeartbeats 4000000
section
variable {P : Program} {w : World} {K : PySem.W.Frag} {mg : Str → Option Value} {base : Heap}
def abc26 : Str := "abcdefghijklmnopqrstuvwxyz"
def isChoice (d : PyData) (y : Str) : Bool := isTextOf d y && (match d with
  | .str x => decide ((nuq x : Int) = (x.length : Int))
  | _ => false)
def sz4 (d : PyData) : Prop := ∀ x, d = .str x → x.cps.size ≤ 4000
def spChoice (K : PySem.W.Frag) : Sp := fun vs H Q _ => ∃ (v : V) (d : PyData) (y : Str), vs = [v, .str y] ∧ Th K H v d ∧ szd d ∧ sz4 d ∧ ∀ H', Same H H' → Q (.bl (isChoice d y)) H'
theorem ok_is_choice_of (T : Txt K mg) : FnOk P w K mg base CX0 2 T.a_is_choice_of T.fd_is_choice_of ["thing", "letters"] (spChoice K) := by
  refine T.F_is_choice_of.ok sc_is_choice_of (fun vs H Q E h => ?_) (fun cdv A outer s H vs Q E hr h => ?_)
  · obtain ⟨x, d, y, rfl, _⟩ := h
    rfl
  · obtain ⟨v, d, y, rfl, ht, hz, h4, q⟩ := h
    refine ⟨_, (pss_one (ps_ret (pe_and (pe_call (ok_is_text_of T) (hr.mono (by decide)) (by rfl) T.m_is_text_of T.F_is_text_of.kp T.b_is_text_of .nil pass0 (pa_cons (pv 0) (pa_cons (pv 1) pa_nil))) (pe_one (pe_cmpR (eqK K hr) (lenSetK (by rfl) T.z_len (by rfl) T.z_set (pv 0)) (pe_callB (lenK K) (by rfl) T.z_len B_len (pa_cons (pv 0) pa_nil)) (nomark _)))))), ?_⟩
    walk_at "kk"
    refine ⟨v, d, y, rfl, ht, hz, fun H1 s1 => ?_⟩
    walk_at "kk"
    refine k_ite (fun hb => ?_) (fun hb => ?_)
    · cases d <;> try (cases hb)
      rename_i x
      rcases ht with ht | ⟨a, kvs, _, _, e⟩
      · cases ht
        have hz : x.length ≤ 50000 := hz
        walk_at "kk"
        refine ⟨x, rfl, h4 x rfl, ?_⟩
        walk_at "kk"
        have e : isChoice (.str x) y = decide ((nuq x : Int) = (x.length : Int)) := by
          show (isTextOf (.str x) y && decide ((nuq x : Int) = (x.length : Int))) = _
          rw [hb, Bool.true_and]
        rw [← e]
        exact q _ s1
      · cases e
    · have e : isChoice d y = false := by unfold isChoice; rw [hb]; rfl
      rw [← e]
      exact q _ s1
def isLets (d : PyData) : Bool := isChoice d abc26 && (match d with
  | .str x => !decide ((x.length : Int) = 0)
  | _ => false)
def spLetsC (T : Txt K mg) : Sp := fun vs H Q E => ∃ (v : V) (d : PyData), vs = [v] ∧ Th K H v d ∧ szd d ∧ sz4 d ∧
  ((isLets d = true ∧ ∀ H', Same H H' → Q .non H') ∨ (isLets d = false ∧ ∀ H' dd, Same H H' → H' dd = some (.xd [("thing", v)]) → E (.ref T.C_InvalidLetters) (some dd) H'))
theorem ok_check_letters (T : Txt K mg) : FnOk P w K mg base (L2.CX P w) 3 T.a_check_letters T.fd_check_letters ["letters"] (spLetsC T) := by
  refine T.F_check_letters.okX sc_check_letters (fun vs H Q E h => ?_) (fun cdv A outer s H vs Q E hr h => ?_)
  · obtain ⟨v, d, rfl, _⟩ := h
    rfl
  · obtain ⟨v, d, rfl, hv, hz, h4, h⟩ := h
    refine ⟨_, (pss_one (ps_if (PW.pt (pw_or (pt_not (pt_val (pe_call (ok_is_choice_of T) (hr.mono (by decide)) (by rfl) T.m_is_choice_of T.F_is_choice_of.kp T.b_is_choice_of .nil pass0 (pa_cons (pv 0) (pa_cons (C8.pe_gc (by rfl) T.c_ALPHABET) pa_nil))))) (pw_or1 (pt_cmpR (eqK K hr) (pe_callB (lenK K) (by rfl) T.z_len B_len (pa_cons (pv 0) pa_nil)) pe_int (nomark _))))) (pss_one (ps_raise rfl (takes_of rfl rfl rfl rfl) (pmk_oex T.x_InvalidLetters T.i_InvalidLetters T.t_InvalidLetters (ok_InvalidLetters_init T) (hr.mono (by decide)) T.bI_InvalidLetters .nil pass0 (by rfl) T.mc_InvalidLetters (pa_cons (pv 0) pa_nil)))) pss_nil)), ?_⟩
    walk_at "kk"
    refine ⟨v, d, _, rfl, hv, hz, h4, fun H1 s1 => ?_⟩
    walk_at "kk"
    cases hc : isChoice d "abcdefghijklmnopqrstuvwxyz" with
    | false =>
      have e : isLets d = false := by
        unfold isLets
        rw [show isChoice d abc26 = false from hc]
        rfl
      rcases h with ⟨b, q⟩ | ⟨b, q⟩
      · rw [e] at b
        cases b
      · walk_at "kk"
        exact k_mkR fun H2 dd s2 e2 => q H2 dd (s1.trans s2) e2
    | true =>
      cases d <;> first | (cases hc; done) | skip
      rename_i x
      rcases hv with hv | ⟨a, kvs, _, _, e⟩
      · cases hv
        have hz : x.length ≤ 50000 := hz
        walk_at "kk"
        have e : isLets (.str x) = !decide ((x.length : Int) = 0) := by
          show (isChoice (.str x) abc26 && !decide ((x.length : Int) = 0)) = _
          rw [show isChoice (.str x) abc26 = true from hc, Bool.true_and]
        rcases h with ⟨b, q⟩ | ⟨b, q⟩
        · rw [e] at b
          refine k_ite (fun hb => ?_) (fun _ => ?_)
          · rw [hb] at b
            cases b
          · walk_at "kk"
            exact q _ s1
        · rw [e] at b
          refine k_ite (fun hb => ?_) (fun hb => ?_)
          · walk_at "kk"
            exact k_mkR fun H2 dd s2 e2 => q H2 dd (s1.trans s2) e2
          · rw [hb] at b
            cases b
      · cases e
def spVowels (T : Txt K mg) : Sp := fun vs H Q E => ∃ (v : V) (d : PyData) (y : Str), vs = [v, .str y] ∧ Th K H v d ∧ szd d ∧ sz4 d ∧
  ((isChoice d y = true ∧ ∀ H', Same H H' → Q .non H') ∨ (isChoice d y = false ∧ ∀ H' dd, Same H H' → H' dd = some (.xd [("thing", v)]) → E (.ref T.C_InvalidVowels) (some dd) H'))
theorem ok_check_vowels (T : Txt K mg) : FnOk P w K mg base (L2.CX P w) 3 T.a_check_vowels T.fd_check_vowels ["vowels", "letters"] (spVowels T) := by
  refine T.F_check_vowels.okX sc_check_vowels (fun vs H Q E h => ?_) (fun cdv A outer s H vs Q E hr h => ?_)
  · obtain ⟨v, d, y, rfl, _⟩ := h
    rfl
  · obtain ⟨v, d, y, rfl, hv, hz, h4, h⟩ := h
    refine ⟨_, (pss_one (ps_if (pt_not (pt_val (pe_call (ok_is_choice_of T) (hr.mono (by decide)) (by rfl) T.m_is_choice_of T.F_is_choice_of.kp T.b_is_choice_of .nil pass0 (pa_cons (pv 0) (pa_cons (pv 1) pa_nil))))) (pss_one (ps_raise rfl (takes_of rfl rfl rfl rfl) (pmk_oex T.x_InvalidVowels T.i_InvalidVowels T.t_InvalidVowels (ok_InvalidVowels_init T) (hr.mono (by decide)) T.bI_InvalidVowels .nil pass0 (by rfl) T.mc_InvalidVowels (pa_cons (pv 0) pa_nil)))) pss_nil)), ?_⟩
    walk_at "kk"
    refine ⟨v, d, y, rfl, hv, hz, h4, fun H1 s1 => ?_⟩
    rcases h with ⟨b, q⟩ | ⟨b, q⟩
    · rw [b]
      walk_at "kk"
      exact q _ s1
    · rw [b]
      walk_at "kk"
      exact k_mkR fun H2 dd s2 e2 => q H2 dd (s1.trans s2) e2
/-- exceptions: None, a thing that is no dict, or a dict and its pairs -/
def excR (T : Txt K mg) (y : Str) (v : V) (H : Hp) (N : Hp → Prop) (E : XK) : Prop :=
  (v = .non ∧ ∀ H', Same H H' → N H') ∨
  (∃ d, Th K H v d ∧ v ≠ .non ∧ kitB (tyName d) "dict" = some false ∧ ∀ H' dd, Same H H' → H' dd = some (.xd [("word", .non)]) → E (.ref T.C_InvalidExceptions) (some dd) H') ∨
  (∃ (a : Addr) (ps : List (V × V)) (ds : List (PyData × PyData)), v = .ref a ∧ DI H a ps ∧ ds.length = ps.length ∧ ps.length ≤ 50000 ∧ (∀ (i : Nat) (x z : V), ps[i]? = some (x, z) → ∃ d e, ds[i]? = some (d, e) ∧ Th K H x d ∧ szd d ∧ Th K H z e ∧ szd e) ∧
    ((∀ p ∈ ds, (isWordOf p.1 y && isTextOf p.2 y) = true) → ∀ H', Same H H' → N H') ∧
    (∀ (i : Nat) (d e : PyData) (x z : V), ds[i]? = some (d, e) → ps[i]? = some (x, z) → (isWordOf d y && isTextOf e y) = false → (∀ (j : Nat) p, j < i → ds[j]? = some p → (isWordOf p.1 y && isTextOf p.2 y) = true) → ∀ H' dd, Same H H' → H' dd = some (.xd [("word", x)]) → E (.ref T.C_InvalidExceptions) (some dd) H'))
theorem ok_check_exceptions (T : Txt K mg) : FnOk P w K mg base (L2.CX P w) 3 T.a_check_exceptions T.fd_check_exceptions ["exceptions", "letters"] (fun vs H Q E => ∃ v y, vs = [v, .str y] ∧ excR T y v H (Q .non) E) := by
  refine T.F_check_exceptions.okX sc_check_exceptions (fun vs H Q E h => ?_) (fun cdv A outer s H vs Q E hr h => ?_)
  · obtain ⟨v, y, rfl, _⟩ := h
    rfl
  · obtain ⟨v, y, rfl, h⟩ := h
    refine ⟨_, (pss_cons (ps_if (pt_cmpR op_isN (pv 0) pe_non (nomark _)) (pss_one ps_retN) pss_nil)
      (pss_cons (ps_if (pt_not (pt_val (pe_callB (isiXK (K := K)) (by rfl) T.z_isinstance B_isinstance (pa_cons (pv 0) (pa_cons (pe_bltn (v := .ty "dict") (by rfl) T.z_dict B_dict (by rfl)) pa_nil))))) (pss_one (ps_raise rfl (takes_of rfl rfl rfl rfl) (pmk_oex T.x_InvalidExceptions T.i_InvalidExceptions T.t_InvalidExceptions (ok_InvalidExceptions_init T) (hr.mono (by decide)) T.bI_InvalidExceptions .nil pass0 (by rfl) T.mc_InvalidExceptions (pa_cons pe_non pa_nil)))) pss_nil)
      (pss_one (ps_for (passes_of rfl) rfl (pi_itemsX (pv 0)) (tupleK K (n := 2) rfl (pgs_cons (pg_name (i := 2) sc_check_exceptions.nd rfl (Or.inl rfl)) (pgs_cons (pg_name (i := 3) sc_check_exceptions.nd rfl (Or.inl rfl)) pgs_nil))) (pss_one (ps_if (PW.pt (pw_or (pt_not (pt_val (pe_call (ok_is_word_of T) (hr.mono (by decide)) (by rfl) T.m_is_word_of T.F_is_word_of.kp T.b_is_word_of .nil pass0 (pa_cons (pv 2) (pa_cons (pv 1) pa_nil))))) (pw_or1 (pt_not (pt_val (pe_call (ok_is_text_of T) (hr.mono (by decide)) (by rfl) T.m_is_text_of T.F_is_text_of.kp T.b_is_text_of .nil pass0 (pa_cons (pv 3) (pa_cons (pv 1) pa_nil)))))))) (pss_one (ps_raise rfl (takes_of rfl rfl rfl rfl) (pmk_oex T.x_InvalidExceptions T.i_InvalidExceptions T.t_InvalidExceptions (ok_InvalidExceptions_init T) (hr.mono (by decide)) T.bI_InvalidExceptions .nil pass0 (by rfl) T.mc_InvalidExceptions (pa_cons (pv 2) pa_nil)))) pss_nil)))))), ?_⟩
    walk_at "kk"
    rcases h with ⟨rfl, q⟩ | ⟨d, hv, nn, e, q⟩ | ⟨a, ps, ds, rfl, hx, hdl, hl, hd, q1, q2⟩
    · refine ⟨rfl, ?_⟩
      walk_at "kk"
      exact q _ (Same.refl _)
    · refine ⟨rfl, ?_⟩
      rw [decide_eq_false nn]
      walk_at "kk"
      refine .inl (k_isiD hv e ?_)
      walk_at "kk"
      exact k_mkR fun H2 dd s2 e2 => q H2 dd s2 e2
    · refine ⟨rfl, ?_⟩
      rw [decide_eq_false (show ¬ (V.ref a = .non) from fun z => nomatch z)]
      walk_at "kk"
      refine hx.isi (n := "dict") (b := true) (by decide +kernel) ?_
      walk_at "kk"
      refine hx.go (fun J G wk up => ?_)
      refine for_go wk (fun i σ H' => Same H H' ∧ (∀ (j : Nat) p, j < i → ds[j]? = some p → (isWordOf p.1 y && isTextOf p.2 y) = true) ∧ ∃ y1 y2, σ = [some (.ref a), some (.str y), y1, y2]) ⟨Same.refl _, (fun j d' hj => (nomatch hj)), none, none, rfl⟩ (fun i σ H' _ iv => up _ iv.1) (fun i x σ Ha Hb hi iv hy => ?_) (fun σ H' iv => ?_)
      · obtain ⟨s2, good, y1, y2, rfl⟩ := iv
        obtain ⟨p, rfl, hp, rfl⟩ := hy
        obtain ⟨⟨u, z⟩, hu⟩ : ∃ p, ps[i]? = some p := ⟨ps[i], List.getElem?_eq_getElem hi⟩
        obtain ⟨d, e, ed, tu, su, tz, sz⟩ := hd i u z hu
        have eg : ps.getD i pN = (u, z) := by rw [List.getD_eq_getElem?_getD, hu]; rfl
        rw [eg]
        have s3 := s2.trans (same_new (o := .tup [u, z]) hp)
        refine k_unp2 (Evl.st_of upd_same) ?_
        walk_at "kk"
        refine ⟨_, d, y, rfl, tu.up s3, su, fun H4 s4 => ?_⟩
        walk_at "kk"
        cases h1 : isWordOf d y with
        | false =>
          walk_at "kk"
          exact k_mkR fun H6 dd s6 e6 => q2 i d e u z ed hu (by rw [h1]; rfl) good H6 dd ((s3.trans s4).trans s6) e6
        | true =>
          walk_at "kk"
          refine ⟨_, e, y, rfl, tz.up (s3.trans s4), sz, fun H5 s5 => ?_⟩
          walk_at "kk"
          cases h2 : isTextOf e y with
          | false =>
            walk_at "kk"
            exact k_mkR fun H6 dd s6 e6 => q2 i d e u z ed hu (by rw [h1, h2]; rfl) good H6 dd (((s3.trans s4).trans s5).trans s6) e6
          | true =>
            walk_at "kk"
            refine ⟨(s3.trans s4).trans s5, fun j p hj e3 => ?_, _, _, rfl⟩
            rcases Nat.lt_succ_iff_lt_or_eq.mp hj with hj | rfl
            · exact good j p hj e3
            · rw [ed] at e3
              cases Option.some.inj e3
              rw [h1, h2]
              rfl
      · obtain ⟨s2, good, y1, y2, rfl⟩ := iv
        refine q1 (fun d hd' => ?_) _ s2
        obtain ⟨j, hj⟩ := List.getElem?_of_mem hd'
        have lt := (List.getElem?_eq_some_iff.mp hj).1
        exact good j d (by omega) hj
end
set_option Elab.async false
set_option linter.all false
set_option maxRecDepth 100000
set_option maxHeartbeats 4000000
section
variable {P : Program} {w : World} {K : PySem.W.Frag} {mg : Str → Option Value} {base : Heap}
def spLongM (K : PySem.W.Frag) : Sp := fun vs H Q _ => ∃ (a : Addr) (t : Bool) (xs : List Str), vs = [.ref a] ∧ SqB K t H a (xs.map V.str) ∧ xs.length ≤ 50000 ∧ (∀ x ∈ xs, x.length ≤ 50000) ∧ ∀ H', Same H H' → Q (.int (mx (lens xs))) H'
theorem ok_longest_measures (T : Txt K mg) : FnOk P w K mg base CX0 1 T.a_longest_measures T.fd_longest_measures ["texts"] (spLongM K) := by
  refine T.F_longest_measures.ok sc_longest_measures (fun vs H Q E h => ?_) (fun cdv A outer s H vs Q E hr h => ?_)
  · obtain ⟨a, t, xs, rfl, _⟩ := h
    rfl
  · obtain ⟨a, t, xs, rfl, hx, hl, hz, q⟩ := h
    refine ⟨_, (pss_one (ps_ret (pe_callBK (maxDefK K hr) (by rfl) T.z_max B_max (pa_cons (pe_lc (own := [("text", 1)]) (by rfl) sc_longest_measures.nd (seqK K (pv 0)) (blkOk_by (N := ["texts", "text"]) (sc := defScope s_longest_measures) (by decide +kernel)) (fun _ _ _ _ _ => (pg_name (i := 1) sc_longest_measures.nd rfl (Or.inl rfl))) (fun _ _ _ _ _ => pts_nil) (fun _ _ _ _ _ => (pe_callB (lenK K) (by rfl) T.z_len B_len (pa_cons (pv 1) pa_nil)))) pa_nil) (pk_cons pe_int pk_nil)))), ?_⟩
    walk_at "kk"
    refine k_onSB hx ?_
    have gx : ∀ i, i < xs.length → (xs.map V.str).getD i .non = .str (xs.getD i "") := fun i hi => by rw [List.getD_eq_getElem?_getD, List.getElem?_map, List.getElem?_eq_getElem hi, List.getD_eq_getElem?_getD, List.getElem?_eq_getElem hi]; rfl
    refine lc_map (fun i => (xs.map V.str).getD i .non) walk_B (fun i => .int ((xs.getD i "").length : Nat)) (by rw [List.length_map]; exact hl) (fun H' s => hx.up s) (by intro _; rfl) (fun i H1 hi s1 Q2 k => ?_) (fun D H' n1 s1 e1 => ?_)
    · rw [List.length_map] at hi
      have lz : (xs.getD i "").length ≤ 50000 := by
        rw [List.getD_eq_getElem?_getD, List.getElem?_eq_getElem hi]
        exact hz _ (List.getElem_mem hi)
      rw [gx i hi]
      walk_at "kk"
      exact k _ (Same.refl _)
    · walk_at "kk"
      have ee : (List.range (xs.map V.str).length).map (fun i => V.int ((xs.getD i "").length : Nat)) = (lens xs).map V.int := by
        unfold lens
        rw [List.length_map, List.map_map]
        apply List.ext_getElem
        · simp
        · intro i h1 h2
          simp only [List.getElem_map, List.getElem_range, Function.comp]
          have hi : i < xs.length := by simpa using h1
          rw [List.getD_eq_getElem?_getD, List.getElem?_eq_getElem hi]
          rfl
      rw [ee] at e1
      refine k_maxDef (Evl.sq_of e1) (fun m hm => ?_)
      rw [mx_of (lens_nn xs) hm]
      exact q _ s1
theorem range_getD {α : Type} (d : α) (l : List α) : (List.range l.length).map (fun i => l.getD i d) = l := by
  apply List.ext_getElem
  · simp
  · intro i h1 h2
    simp only [List.getElem_map, List.getElem_range]
    rw [List.getD_eq_getElem?_getD, List.getElem?_eq_getElem h2]
    rfl
theorem range_filt {α : Type} (d : α) (p : α → Bool) (g : α → V) (f : α → Int) (e : ∀ c, g c = V.int (f c)) (l : List α) : (List.filter (fun i => p (l.getD i d)) (List.range l.length)).map (fun i => g (l.getD i d)) = ((l.filter p).map f).map V.int := by
  have h : (l.filter p).map f = (((List.range l.length).map (fun i => l.getD i d)).filter p).map f := by rw [range_getD d l]
  rw [h, List.filter_map, List.map_map, List.map_map]
  apply List.map_congr_left
  intro i _
  exact e _
/-- a row of plain conditions -/
def spGreat (K : PySem.W.Frag) : Sp := fun vs H Q _ => ∃ (a : Addr) (xs : List V) (cs : List C0) (k : Str), vs = [.ref a, .str k] ∧ (k = "runs" ∨ k = "least") ∧ SqL K H a xs ∧ DpAll K H xs (cs.map enc0) ∧ cs.length ≤ 1000 ∧ (∀ c ∈ cs, 0 ≤ numC c) ∧ ∀ H', Same H H' → Q (.int (mx (numsK k cs))) H'
theorem head0 {K : PySem.W.Frag} {H : Hp} {v : V} {c : C0} {k : Str} (hk : k = "runs" ∨ k = "least") (h : Dp K H v (enc0 c)) : ∃ a k2 rest, v = .ref a ∧ SqT K H a (.str k2 :: rest) ∧ decide (k2 = k) = isKd k c ∧ (isKd k c = true → rest = [.int (numC c)]) := by
  cases c <;>
  · cases h with
    | tup ha hd =>
      cases hd with
      | cons h1 h2 =>
        cases h1
        refine ⟨_, _, _, rfl, ha, ?_, fun e => ?_⟩
        · rcases hk with rfl | rfl <;> first | (simp only [isKd]; done) | (simp only [isKd]; decide +kernel)
        · first
          | (exfalso; rcases hk with rfl | rfl <;> exact absurd e (by first | (simp only [isKd]; done) | (simp only [isKd]; decide +kernel)))
          | (cases h2 with
            | cons h2 h3 =>
              cases h3
              cases h2
              rfl)
theorem ok_greatest_number (T : Txt K mg) : FnOk P w K mg base CX0 1 T.a_greatest_number T.fd_greatest_number ["plain", "kind"] (spGreat K) := by
  refine T.F_greatest_number.ok sc_greatest_number (fun vs H Q E h => ?_) (fun cdv A outer s H vs Q E hr h => ?_)
  · obtain ⟨a, xs, cs, k, rfl, _⟩ := h
    rfl
  · obtain ⟨a, xs, cs, k, rfl, hk, hx, hd, hl, hp, q⟩ := h
    refine ⟨_, (pss_one (ps_ret (pe_callBK (maxDefK K hr) (by rfl) T.z_max B_max (pa_cons (pe_lc (own := [("condition", 2)]) (by rfl) sc_greatest_number.nd (listK K (pv 0)) (blkOk_by (N := ["plain", "kind", "condition"]) (sc := defScope s_greatest_number) (by decide +kernel)) (fun _ _ _ _ _ => (pg_name (i := 2) sc_greatest_number.nd rfl (Or.inl rfl))) (fun _ _ _ _ _ => (pts_one (pt_cmpR (eqK K hr) (pe_ix (ixK K) (pv 2) pe_int (fun _ _ => rfl)) (pv 1) (nomark _)))) (fun _ _ _ _ _ => (pe_ix (ixK K) (pv 2) pe_int (fun _ _ => rfl)))) pa_nil) (pk_cons pe_int pk_nil)))), ?_⟩
    have xl : xs.length = cs.length := by rw [hd.len, List.length_map]
    walk_at "kk"
    have at_ : ∀ i H1, i < xs.length → Same H H1 → ∃ b k2 rest, xs.getD i .non = .ref b ∧ SqT K H1 b (.str k2 :: rest) ∧ decide (k2 = k) = isKd k (cs.getD i .vowel) ∧ (isKd k (cs.getD i .vowel) = true → rest = [.int (numC (cs.getD i .vowel))]) := by
      intro i H1 hi s1
      have lr : i < cs.length := by omega
      obtain ⟨x, hx', dx⟩ := DpAll.get hd (i := i) (d := enc0 cs[i]) (by rw [List.getElem?_map, List.getElem?_eq_getElem lr]; rfl)
      have ex : xs.getD i .non = x := by rw [List.getD_eq_getElem?_getD, hx']; rfl
      have ec : cs.getD i .vowel = cs[i] := by rw [List.getD_eq_getElem?_getD, List.getElem?_eq_getElem lr]; rfl
      rw [ex, ec]
      exact head0 hk (dx.up s1)
    refine k_onL hx (lc_filt (fun i => xs.getD i .non) walk_L (fun i => isKd k (cs.getD i .vowel)) (fun i => .int (numC (cs.getD i .vowel))) (by omega) (fun H' s => s.seq hx) (by intro _; rfl) (fun i H1 hi s1 QB kk => ?_) (fun i H1 hi s1 hg Q2 kk => ?_) (fun D H' n1 s1 e1 => ?_))
    · obtain ⟨b, k2, rest, eb, hb, e2, _⟩ := at_ i H1 hi s1
      rw [eb]
      walk_at "kk"
      apply k_rv
      · exact rv_ixT hb (at_int (by decide) rfl)
      walk_at "kk"
      rw [e2]
      exact kk _ (Same.refl _)
    · obtain ⟨b, k2, rest, eb, hb, e2, e3⟩ := at_ i H1 hi s1
      rw [eb]
      cases e3 hg
      walk_at "kk"
      exact kk _ (Same.refl _)
    · walk_at "kk"
      have ee : (List.filter (fun i => isKd k (cs.getD i .vowel)) (List.range xs.length)).map (fun i => V.int (numC (cs.getD i .vowel))) = (numsK k cs).map V.int := by
        rw [xl]
        exact range_filt .vowel (isKd k) (fun c => V.int (numC c)) (fun c => numC c) (fun c => rfl) cs
      rw [ee] at e1
      refine k_maxDef (Evl.sq_of e1) (fun m hm => ?_)
      rw [mx_of (fun x hx => ?_) hm]
      · exact q _ s1
      · obtain ⟨c, hc, rfl⟩ := List.mem_map.mp hx
        exact hp c (List.mem_filter.mp hc).1
/-- what a plain condition looks at -/
def spSeen (K : PySem.W.Frag) : Sp := fun vs H Q _ => ∃ (v : V) (c : C0), vs = [v] ∧ Dp K H v (enc0 c) ∧ (∀ x ∈ texts1 c, x.length ≤ 50000) ∧ (texts1 c).length ≤ 50000 ∧ (∀ x, c = .shape x → x.length ≤ 50000) ∧ ∀ H', Same H H' → Q (.int (seenC c)) H'
theorem ok_letters_seen (T : Txt K mg) : FnOk P w K mg base CX0 2 T.a_letters_seen T.fd_letters_seen ["condition"] (spSeen K) := by
  refine T.F_letters_seen.ok sc_letters_seen (fun vs H Q E h => ?_) (fun cdv A outer s H vs Q E hr h => ?_)
  · obtain ⟨v, c, rfl, _⟩ := h
    rfl
  · obtain ⟨v, c, rfl, hv, hz, hl, hs, q⟩ := h
    refine ⟨_, (pss_cons (ps_set (i := 1) sc_letters_seen.nd rfl (Or.inl rfl) (pe_ix (ixK K) (pv 0) pe_int (fun _ _ => rfl)))
      (pss_cons (ps_if (pt_cmpR (eqK K hr) (pv 1) pe_str (nomark _)) (pss_one (ps_ret (pe_call (ok_longest_measures T) (hr.mono (by decide)) (by rfl) T.m_longest_measures T.F_longest_measures.kp T.b_longest_measures .nil pass0 (pa_cons (pe_ix (ixK K) (pv 0) pe_int (fun _ _ => rfl)) pa_nil)))) pss_nil)
      (pss_cons (ps_if (pt_cmpR (eqK K hr) (pv 1) pe_str (nomark _)) (pss_one (ps_ret (pe_callB (lenK K) (by rfl) T.z_len B_len (pa_cons (pe_ix (ixK K) (pv 0) pe_int (fun _ _ => rfl)) pa_nil)))) pss_nil)
      (pss_cons (ps_if (pt_cmpR (eqK K hr) (pv 1) pe_str (nomark _)) (pss_one (ps_ret pe_int)) pss_nil)
      (pss_cons (ps_if (pt_cmpR (eqK K hr) (pv 1) pe_str (nomark _)) (pss_one (ps_ret pe_int)) pss_nil)
      (pss_one (ps_ret pe_int))))))), ?_⟩
    cases c with
    | ends ts =>
      cases hv with
      | tup ha hd =>
        cases hd with
        | cons h1 h2 =>
          cases h1
          cases h2 with
          | cons h2 h3 =>
            cases h3
            cases h2 with
            | tup hb hc =>
              cases strs_inv hc
              walk_at "kk"
              exact ⟨_, true, ts, rfl, hb, hl, hz, fun H' s => q H' s⟩
    | shape x =>
      have hx := hs x rfl
      cases hv with
      | tup ha hd =>
        cases hd with
        | cons h1 h2 =>
          cases h1
          cases h2 with
          | cons h2 h3 =>
            cases h3
            cases h2
            walk_at "kk"
            exact q _ (Same.refl _)
    | _ =>
      cases hv with
      | tup ha hd =>
        cases hd with
        | cons h1 h2 =>
          cases h1
          walk_at "kk"
          apply k_rv
          · exact rv_ixT ha (at_int (by decide) rfl)
          walk_at "kk"
          exact q _ (Same.refl _)
end
set_option Elab.async false
set_option linter.all false
set_option maxRecDepth 100000
set_option maxHeartbeats 4000000
section
variable {P : Program} {w : World} {K : PySem.W.Frag} {mg : Str → Option Value} {base : Heap}
/-- a dict of words with their stems -/
def ExD (H : Hp) (d : Addr) (es : List (Str × Str)) : Prop := Rd H d (.dK (es.map fun p => ((.inr p.1 : Key), V.str p.2)))
structure SzE (es : List (Str × Str)) : Prop where
  len : es.length ≤ 1000
  key : ∀ p ∈ es, p.1.length ≤ 50000
  val : ∀ p ∈ es, p.2.length ≤ 50000
theorem Rd.up {H H' : Hp} {a : Addr} {u : HO} (h : Rd H a u) (s : Same H H') : Rd H' a u := by
  rcases h with h | ⟨o, h⟩
  · exact .inl (s _ _ h)
  · exact .inr ⟨o, s _ _ h⟩
theorem range_ints {α : Type} (d : α) (g : α → Int) (l : List α) {n : Nat} (h : n = l.length) : (List.range n).map (fun i => V.int (g (l.getD i d))) = (l.map g).map V.int := by
  subst h
  have e : l.map g = ((List.range l.length).map (fun i => l.getD i d)).map g := by rw [range_getD d l]
  rw [e, List.map_map, List.map_map]
  rfl
def nulS : SD := ⟨[], "longest"⟩
def longE (s : SD) : Int := mx (lens (s.rs.map fun r => r.e))
def longP (s : SD) : Int := mx (lens (s.rs.map fun r => r.p))
/-- the six numbers -/
def bD (ss : List SD) : Int := (ss.map longE).sum
def bP (ss : List SD) : Int := (ss.map longP).sum
def bM (ss : List SD) : Int := mx (numsK "runs" (condsS ss))
def bK (ss : List SD) : Int := mx (numsK "least" (condsS ss))
def bX (es : List (Str × Str)) : Int := mx (lens (es.map (fun p => p.1) ++ es.map (fun p => p.2)))
def bC (ss : List SD) : Int := mx ((condsS ss).map seenC)
def bnds (ss : List SD) (es : List (Str × Str)) : List V := [.int (bD ss), .int (bP ss), .int (bM ss), .int (bK ss), .int (bX es), .int (bC ss)]
theorem seenC_nn (c : C0) : 0 ≤ seenC c := by
  cases c with
  | ends ts => exact mx_nn _
  | shape x => exact Int.natCast_nonneg _
  | _ => simp only [seenC] <;> omega
structure SzS (ss : List SD) : Prop where
  len : ss.length ≤ 1000
  rules : ∀ s ∈ ss, s.rs.length ≤ 1000
  rule : ∀ s ∈ ss, ∀ r ∈ s.rs, SzR r
  conds : (condsS ss).length ≤ 1000
  texts : ∀ c ∈ condsS ss, (∀ x ∈ texts1 c, x.length ≤ 50000) ∧ (texts1 c).length ≤ 50000 ∧ (∀ x, c = .shape x → x.length ≤ 50000)
  nn : ∀ c ∈ condsS ss, 0 ≤ numC c
def spBounds (T : Txt K mg) : Sp := fun vs H Q _ => ∃ (t d : Addr) (xs : List V) (ss : List SD) (es : List (Str × Str)), vs = [.ref t, .ref d] ∧ SqT K H t xs ∧ StAll T H xs ss ∧ SzS ss ∧ ExD H d es ∧ SzE es ∧
  ∀ (l : Addr) (H' : Hp), Same H H' → H' l = some (.tup (bnds ss es)) → Q (.ref l) H'
theorem ok_bounds_of (T : Txt K mg) : FnOk P w K mg base CX0 4 T.a_bounds_of T.fd_bounds_of ["steps", "exceptions"] (spBounds T) := by
  refine T.F_bounds_of.ok sc_bounds_of (fun vs H Q E h => ?_) (fun cdv A outer s H vs Q E hr h => ?_)
  · obtain ⟨t, d, xs, ss, es, rfl, _⟩ := h
    rfl
  · obtain ⟨t, d, xs, ss, es, rfl, ht, hs, sz, hd, ze, q⟩ := h
    refine ⟨_, (pss_cons (ps_set (i := 2) sc_bounds_of.nd rfl (Or.inl rfl) (pe_call (ok_plain_conditions T) (hr.mono (by decide)) (by rfl) T.m_plain_conditions T.F_plain_conditions.kp T.b_plain_conditions .nil pass0 (pa_cons (pv 0) pa_nil)))
      (pss_one (ps_ret (pe_tup (pa_cons (pe_callB (sumK K) (by rfl) T.z_sum B_sum (pa_cons (pe_lc (own := [("step", 3)]) (by rfl) sc_bounds_of.nd (tupIK K (pv 0)) (blkOk_by (N := ["steps", "exceptions", "plain", "step", "rule", "condition"]) (sc := defScope s_bounds_of) (by decide +kernel)) (fun _ _ _ _ _ => (pg_name (i := 3) sc_bounds_of.nd rfl (Or.inl rfl))) (fun _ _ _ _ _ => pts_nil) (fun _ _ _ _ _ => (pe_call (ok_longest_measures T) (hr.mono (by decide)) (by rfl) T.m_longest_measures T.F_longest_measures.kp T.b_longest_measures .nil pass0 (pa_cons (pe_lc (own := [("rule", 4)]) (by rfl) sc_bounds_of.nd (tupIK K (pe_prop (pv 3) T.cl_Step T.pp_Step_rules (ok_Step_rules T) (hr.mono (by decide)) T.bM_Step_rules .nil pass0 (by rfl))) (blkOk_by (N := ["steps", "exceptions", "plain", "step", "rule", "condition"]) (sc := ({ kind := .function, names := [(Str.ofString ".0", .local), (Str.ofString "step", .local), (Str.ofString "longest_measures", .globalImplicit)], isGenerator := false, isCoroutine := false, more := [] } : Scope)) (by decide +kernel)) (fun _ _ _ _ _ => (pg_name (i := 4) sc_bounds_of.nd rfl (Or.inl rfl))) (fun _ _ _ _ _ => pts_nil) (fun _ _ _ _ _ => (pe_prop (pv 4) T.cl_Rule T.pp_Rule_ending (ok_Rule_ending T) (hr.mono (by decide)) T.bM_Rule_ending .nil pass0 (by rfl)))) pa_nil)))) pa_nil)) (pa_cons (pe_callB (sumK K) (by rfl) T.z_sum B_sum (pa_cons (pe_lc (own := [("step", 3)]) (by rfl) sc_bounds_of.nd (tupIK K (pv 0)) (blkOk_by (N := ["steps", "exceptions", "plain", "step", "rule", "condition"]) (sc := defScope s_bounds_of) (by decide +kernel)) (fun _ _ _ _ _ => (pg_name (i := 3) sc_bounds_of.nd rfl (Or.inl rfl))) (fun _ _ _ _ _ => pts_nil) (fun _ _ _ _ _ => (pe_call (ok_longest_measures T) (hr.mono (by decide)) (by rfl) T.m_longest_measures T.F_longest_measures.kp T.b_longest_measures .nil pass0 (pa_cons (pe_lc (own := [("rule", 4)]) (by rfl) sc_bounds_of.nd (tupIK K (pe_prop (pv 3) T.cl_Step T.pp_Step_rules (ok_Step_rules T) (hr.mono (by decide)) T.bM_Step_rules .nil pass0 (by rfl))) (blkOk_by (N := ["steps", "exceptions", "plain", "step", "rule", "condition"]) (sc := ({ kind := .function, names := [(Str.ofString ".0", .local), (Str.ofString "step", .local), (Str.ofString "longest_measures", .globalImplicit)], isGenerator := false, isCoroutine := false, more := [] } : Scope)) (by decide +kernel)) (fun _ _ _ _ _ => (pg_name (i := 4) sc_bounds_of.nd rfl (Or.inl rfl))) (fun _ _ _ _ _ => pts_nil) (fun _ _ _ _ _ => (pe_prop (pv 4) T.cl_Rule T.pp_Rule_put (ok_Rule_put T) (hr.mono (by decide)) T.bM_Rule_put .nil pass0 (by rfl)))) pa_nil)))) pa_nil)) (pa_cons (pe_call (ok_greatest_number T) (hr.mono (by decide)) (by rfl) T.m_greatest_number T.F_greatest_number.kp T.b_greatest_number .nil pass0 (pa_cons (pv 2) (pa_cons pe_str pa_nil))) (pa_cons (pe_call (ok_greatest_number T) (hr.mono (by decide)) (by rfl) T.m_greatest_number T.F_greatest_number.kp T.b_greatest_number .nil pass0 (pa_cons (pv 2) (pa_cons pe_str pa_nil))) (pa_cons (pe_call (ok_longest_measures T) (hr.mono (by decide)) (by rfl) T.m_longest_measures T.F_longest_measures.kp T.b_longest_measures .nil pass0 (pa_cons (pe_op (addK K) (pe_callTy listDK (by rfl) T.z_list B_list (pa_cons (pv 1) pa_nil)) (pe_callTy listVK (by rfl) T.z_list B_list (pa_cons (pe_vals (pv 1)) pa_nil))) pa_nil)) (pa_cons (pe_callBK (maxDefK K hr) (by rfl) T.z_max B_max (pa_cons (pe_lc (own := [("condition", 5)]) (by rfl) sc_bounds_of.nd (listK K (pv 2)) (blkOk_by (N := ["steps", "exceptions", "plain", "step", "rule", "condition"]) (sc := defScope s_bounds_of) (by decide +kernel)) (fun _ _ _ _ _ => (pg_name (i := 5) sc_bounds_of.nd rfl (Or.inl rfl))) (fun _ _ _ _ _ => pts_nil) (fun _ _ _ _ _ => (pe_call (ok_letters_seen T) (hr.mono (by decide)) (by rfl) T.m_letters_seen T.F_letters_seen.kp T.b_letters_seen .nil pass0 (pa_cons (pv 5) pa_nil)))) pa_nil) (pk_cons pe_int pk_nil)) pa_nil)))))))))), ?_⟩
    walk_at "kk"
    refine ⟨t, xs, ss, rfl, ht, hs, sz.conds, fun l H1 ys s1 e1 d1 => ?_⟩
    walk_at "kk"
    refine k_onT (Evl.ex_t s1 ht) (lc_map (fun i => xs.getD i .non) walk_T (fun i => .int (longE (ss.getD i nulS))) (by have := sz.len; have := hs.1; omega) (fun H' s => Evl.ex_t (s1.trans s) ht) (by intro _; rfl) (fun i H2 hi s2 R k => ?_) (fun D H2 n1 s2 e2 => ?_))
    · have li : i < ss.length := by
        have := hs.1
        omega
      have es : ss[i]? = some ss[i] := List.getElem?_eq_getElem li
      obtain ⟨x, ex, sx⟩ := hs.2 i ss[i] es
      have exx : xs.getD i .non = x := by rw [List.getD_eq_getElem?_getD, ex]; rfl
      rw [exx]
      obtain ⟨sa, sdx, sfs, stt, sxs, rfl, h1, h2, h3, h4, h5⟩ := sx.up (s1.trans s2)
      have hm : ss[i] ∈ ss := List.getElem_mem li
      rw [show ss.getD i nulS = ss[i] from by rw [List.getD_eq_getElem?_getD, es]; rfl] at k
      walk_at "kk"
      refine st_rules (CR := T.C_Rule) (s := ss[i]) rfl h1 h2 ?_
      refine k_onT h4 (lc_keysT ss[i].rs nul (fun v r => RuA K T.C_Rule H2 v r ∧ r ∈ ss[i].rs) (fun r => .str r.e) h4 h5.len (fun m hm => ?_) (by have := sz.rules _ hm; omega) (by intro _; rfl) (fun v r Hx hr1 hv sx Q2 k2 => ?_) (fun D H3 n2 s3 e3 => ?_))
      · obtain ⟨r, er, hr2⟩ := h5.get (i := m) (x := sxs.getD m .non) (by rw [List.getD_eq_getElem?_getD, List.getElem?_eq_getElem (by rw [h5.len]; exact hm)]; rfl)
        have : ss[i].rs.getD m nul = r := by rw [List.getD_eq_getElem?_getD, er]; rfl
        rw [this]
        exact ⟨hr2, List.mem_of_getElem? er⟩
      · walk_at "kk"
        refine ru_ending (hv.1.up sx) (k2 _ (Same.refl _))
      · walk_at "kk"
        refine ⟨_, false, ss[i].rs.map RD.e, rfl, Evl.sq_of (by rw [e3, List.map_map]; rfl), ?_, ?_, fun H' s => k H' (s3.trans s)⟩
        · rw [List.length_map]
          have := sz.rules _ hm
          omega
        · intro y hy
          obtain ⟨r, hr, rfl⟩ := List.mem_map.mp hy
          exact (sz.rule _ hm r hr).sz _ (by simp [textsOf])
    · walk_at "kk"
      refine ⟨_, ss.map longE, rfl, Evl.sq_of (by rw [e2, range_ints nulS longE ss hs.1]), ?_⟩
      walk_at "kk"
      refine k_onT (Evl.ex_t (s1.trans s2) ht) (lc_map (fun i => xs.getD i .non) walk_T (fun i => .int (longP (ss.getD i nulS))) (by have := sz.len; have := hs.1; omega) (fun H' s => Evl.ex_t ((s1.trans s2).trans s) ht) (by intro _; rfl) (fun i H3 hi s3 R k => ?_) (fun D2 H3 n2 s3 e3 => ?_))
      · have li : i < ss.length := by
          have := hs.1
          omega
        have es : ss[i]? = some ss[i] := List.getElem?_eq_getElem li
        obtain ⟨x, ex, sx⟩ := hs.2 i ss[i] es
        have exx : xs.getD i .non = x := by rw [List.getD_eq_getElem?_getD, ex]; rfl
        rw [exx]
        obtain ⟨sa, sdx, sfs, stt, sxs, rfl, h1, h2, h3, h4, h5⟩ := sx.up ((s1.trans s2).trans s3)
        have hm : ss[i] ∈ ss := List.getElem_mem li
        rw [show ss.getD i nulS = ss[i] from by rw [List.getD_eq_getElem?_getD, es]; rfl] at k
        walk_at "kk"
        refine st_rules (CR := T.C_Rule) (s := ss[i]) rfl h1 h2 ?_
        refine k_onT h4 (lc_keysT ss[i].rs nul (fun v r => RuA K T.C_Rule H3 v r ∧ r ∈ ss[i].rs) (fun r => .str r.p) h4 h5.len (fun m hm => ?_) (by have := sz.rules _ hm; omega) (by intro _; rfl) (fun v r Hx hr1 hv sx Q2 k2 => ?_) (fun D H4 n2 s4 e4 => ?_))
        · obtain ⟨r, er, hr2⟩ := h5.get (i := m) (x := sxs.getD m .non) (by rw [List.getD_eq_getElem?_getD, List.getElem?_eq_getElem (by rw [h5.len]; exact hm)]; rfl)
          have : ss[i].rs.getD m nul = r := by rw [List.getD_eq_getElem?_getD, er]; rfl
          rw [this]
          exact ⟨hr2, List.mem_of_getElem? er⟩
        · walk_at "kk"
          refine ru_put (hv.1.up sx) (k2 _ (Same.refl _))
        · walk_at "kk"
          refine ⟨_, false, ss[i].rs.map RD.p, rfl, Evl.sq_of (by rw [e4, List.map_map]; rfl), ?_, ?_, fun H' s => k H' (s4.trans s)⟩
          · rw [List.length_map]
            have := sz.rules _ hm
            omega
          · intro y hy
            obtain ⟨r, hr, rfl⟩ := List.mem_map.mp hy
            exact (sz.rule _ hm r hr).sz _ (by simp [textsOf])
      · walk_at "kk"
        refine ⟨_, ss.map longP, rfl, Evl.sq_of (by rw [e3, range_ints nulS longP ss hs.1]), ?_⟩
        have s13 := (s1.trans s2).trans s3
        have s23 := s2.trans s3
        have d3 := d1.up s23
        walk_at "kk"
        refine ⟨l, ys, condsS ss, _, rfl, .inl rfl, Evl.sq_of (s23 _ _ e1), d3, sz.conds, sz.nn, fun H4 s4 => ?_⟩
        walk_at "kk"
        refine ⟨l, ys, condsS ss, _, rfl, .inr rfl, Evl.sq_of ((s23.trans s4) _ _ e1), d3.up s4, sz.conds, sz.nn, fun H5 s5 => ?_⟩
        have s15 := (s13.trans s4).trans s5
        walk_at "kk"
        refine ⟨d, _, rfl, Rd.up hd s15, fun p hp => ?_⟩
        walk_at "kk"
        refine ⟨d, _, rfl, Rd.up hd (s15.trans (same_new hp)), fun q2 hq => ?_⟩
        have s16 := (same_new (o := .lst ((es.map fun p => ((.inr p.1 : Key), V.str p.2)).map fun kv => kV kv.1)) hp).trans (same_new (o := valsO q2 d) hq)
        walk_at "kk"
        refine ⟨q2, d, _, rfl, upd_same, Rd.up hd (s15.trans s16), fun r2 hr2 => ?_⟩
        have s17 := s16.trans (same_new (o := .lst ((es.map fun p => ((.inr p.1 : Key), V.str p.2)).map Prod.snd)) hr2)
        have ep : (upd (upd (upd H5 p (.lst ((es.map fun p => ((.inr p.1 : Key), V.str p.2)).map fun kv => kV kv.1))) q2 (valsO q2 d)) r2 (.lst ((es.map fun p => ((.inr p.1 : Key), V.str p.2)).map Prod.snd))) p = some (.lst ((es.map fun p => ((.inr p.1 : Key), V.str p.2)).map fun kv => kV kv.1)) :=
          ((same_new (o := valsO q2 d) hq).trans (same_new hr2)) _ _ upd_same
        refine k_catG ep upd_same ?_ (fun b2 H6 s6 n6 e6 => ?_)
        · simp only [List.length_map]
          have := ze.len
          omega
        walk_at "kk"
        refine ⟨b2, false, es.map (fun p => p.1) ++ es.map (fun p => p.2), rfl, Evl.sq_of (by rw [e6, List.map_append, List.map_map, List.map_map, List.map_map, List.map_map]; rfl), ?_, ?_, fun H7 s7 => ?_⟩
        · simp only [List.length_append, List.length_map]
          have := ze.len
          omega
        · intro x hx
          rcases List.mem_append.mp hx with hx | hx
          · obtain ⟨p, hp, rfl⟩ := List.mem_map.mp hx
            exact ze.key p hp
          · obtain ⟨p, hp, rfl⟩ := List.mem_map.mp hx
            exact ze.val p hp
        have s57 := (s17.trans s6).trans s7
        have s17' := (((s23.trans s4).trans s5).trans s57)
        have yl : ys.length = (condsS ss).length := by rw [d1.len, List.length_map]
        walk_at "kk"
        refine k_onL (Evl.sq_of (s17' _ _ e1)) (lc_map (fun i => ys.getD i .non) walk_L (fun i => .int (seenC ((condsS ss).getD i .vowel))) (by have := sz.conds; omega) (fun H' s => Evl.sq_of ((s17'.trans s) _ _ e1)) (by intro _; rfl) (fun i H8 hi s8 R k => ?_) (fun D3 H8 n8 s8 e8 => ?_))
        · have lr : i < (condsS ss).length := by omega
          obtain ⟨x, hx', dx⟩ := DpAll.get (d1.up (s17'.trans s8)) (i := i) (d := enc0 (condsS ss)[i]) (by rw [List.getElem?_map, List.getElem?_eq_getElem lr]; rfl)
          have ex : ys.getD i .non = x := by rw [List.getD_eq_getElem?_getD, hx']; rfl
          rw [ex]
          obtain ⟨z1, z2, z3⟩ := sz.texts _ (List.getElem_mem lr)
          rw [show (condsS ss).getD i .vowel = (condsS ss)[i] from by rw [List.getD_eq_getElem?_getD, List.getElem?_eq_getElem lr]; rfl] at k
          walk_at "kk"
          exact ⟨x, _, rfl, dx, z1, z2, z3, fun H' s => k H' s⟩
        · walk_at "kk"
          rw [range_ints .vowel seenC (condsS ss) yl] at e8
          refine k_maxDef (Evl.sq_of e8) (fun m4 hm4 => ?_)
          have em : m4 = bC ss := mx_of (fun x hx => by
            obtain ⟨c, _, rfl⟩ := List.mem_map.mp hx
            exact seenC_nn c) hm4
          subst em
          walk_at "kk"
          intro l9 H9 s9 n9 e9
          walk_at "kk"
          exact q l9 H9 (((s15.trans s57).trans s8).trans s9) e9
end
set_option Elab.async false
set_option linter.all false
set_option maxRecDepth 100000
set_option maxHeartbeats 4000000
section
variable {P : Program} {w : World} {K : PySem.W.Frag} {mg : Str → Option Value} {base : Heap}
def spSight (K : PySem.W.Frag) : Sp := fun vs H Q _ => ∃ (x y : Str) (l : Addr) (a b c e f g : Int), vs = [.str x, .str y, .ref l] ∧ x.length ≤ 50000 ∧ y.length ≤ 50000 ∧ 0 ≤ c ∧ SqT K H l [.int a, .int b, .int c, .int e, .int f, .int g] ∧ ∀ p H', Same H H' → H' p = some (.tup (sgO y x c e g)) → Q (.ref p) H'
theorem ok_sight_of (T : Txt K mg) : FnOk P w K mg base CX0 2 T.a_sight_of T.fd_sight_of ["text", "vowels", "bounds"] (spSight K) := by
  refine T.F_sight_of.ok sc_sight_of (fun vs H Q E h => ?_) (fun cdv A outer s H vs Q E hr h => ?_)
  · obtain ⟨x, y, l, a, b, c, e, f, g, rfl, _⟩ := h
    rfl
  · obtain ⟨x, y, l, a, b, c, e, f, g, rfl, hx, hy, hc, hl, q⟩ := h
    refine ⟨_, (pss_cons (ps_par3 (i := 3) (j := 4) (l := 5) (by rfl) sc_sight_of.nd rfl rfl rfl (by decide) (by decide) (by decide) rfl rfl rfl (pa_cons (pe_ix (ixK K) (pv 2) pe_int (fun _ _ => rfl)) (pa_cons (pe_ix (ixK K) (pv 2) pe_int (fun _ _ => rfl)) (pa_cons (pe_ix (ixK K) (pv 2) pe_int (fun _ _ => rfl)) pa_nil))) (by rfl))
      (pss_one (ps_ret (pe_tup (pa_cons (pe_slice (slK K) (pv 0) (po_some (pe_callB (call_maxA rfl) (by rfl) T.z_max B_max (pa_cons pe_int (pa_cons (pe_op op_subA (pe_callB (lenK K) (by rfl) T.z_len B_len (pa_cons (pv 0) pa_nil)) (pv 5)) pa_nil)))) po_none) (pa_cons (pe_call (ok_has_vowel T) (hr.mono (by decide)) (by rfl) T.m_has_vowel T.F_has_vowel.kp T.b_has_vowel .nil pass0 (pa_cons (pv 0) (pa_cons (pv 1) pa_nil))) (pa_cons (pe_ifExp (pt_cmpR op_gtA (pv 3) pe_int (nomark _)) (pe_callB (call_minA rfl) (by rfl) T.z_min B_min (pa_cons (pv 3) (pa_cons (pe_call (ok_count_runs T) (hr.mono (by decide)) (by rfl) T.m_count_runs T.F_count_runs.kp T.b_count_runs .nil pass0 (pa_cons (pv 0) (pa_cons (pv 1) pa_nil))) pa_nil))) pe_int) (pa_cons (pe_callB (call_minA rfl) (by rfl) T.z_min B_min (pa_cons (pv 4) (pa_cons (pe_callB (lenK K) (by rfl) T.z_len B_len (pa_cons (pv 0) pa_nil)) pa_nil))) pa_nil)))))))), ?_⟩
    walk_at "kk"
    trace_state
    refine ⟨x, y, rfl, hy, fun H1 s1 => ?_⟩
    walk_at "kk"
    refine k_ite (fun hb => ?_) (fun hb => ?_)
    · walk_at "kk"
      refine ⟨x, y, rfl, hx, ?_⟩
      walk_at "kk"
      intro p H2 s2 f2 e2
      exact q _ _ (s1.trans s2) e2
    · walk_at "kk"
      intro p H2 s2 f2 e2
      have hb' : ¬ (c > 0) := fun h => by simp [h] at hb
      have z : mn2 c (sgR y x) = 0 := by
        unfold mn2
        have := Int.natCast_nonneg (sgR y x)
        split <;> omega
      refine q _ _ (s1.trans s2) ?_
      rw [e2]
      unfold sgO
      rw [z]
      rfl
end
set_option Elab.async false
set_option linter.all false
set_option maxRecDepth 100000
set_option maxHeartbeats 4000000
section
variable {P : Program} {w : World} {K : PySem.W.Frag} {mg : Str → Option Value} {base : Heap}
theorem stepsR_up (T : Txt K mg) {v : V} {y : Str} {H H1 : Hp} {N : Hp → Prop} {E : XK} (s : Same H H1) (h : stepsR T v y H (fun _ => False) E) : stepsR T v y H1 N E := by
  rcases h with ⟨d, hv, e, q⟩ | ⟨a, t, xs, bs, rfl, hx, hdl, hl, hd, q1, q2⟩
  · exact .inl ⟨d, hv.up s, e, fun H2 dd s2 e2 => q H2 dd (s.trans s2) e2⟩
  · exact .inr ⟨a, t, xs, bs, rfl, hx.up s, hdl, hl, fun i x e => (hd i x e).imp fun b z => ⟨z.1, z.2.up s⟩, fun all H2 s2 => (q1 all H2 (s.trans s2)).elim, fun i e g H2 dd s2 e2 => q2 i e g H2 dd (s.trans s2) e2⟩
theorem excR_up (T : Txt K mg) {y : Str} {v : V} {H H1 : Hp} {N : Hp → Prop} {E : XK} (s : Same H H1) (h : excR T y v H (fun _ => False) E) : excR T y v H1 N E := by
  rcases h with ⟨rfl, q⟩ | ⟨d, hv, nn, e, q⟩ | ⟨a, ps, ds, rfl, hx, hdl, hl, hd, q1, q2⟩
  · exact (q _ (Same.refl _)).elim
  · exact .inr (.inl ⟨d, hv.up s, nn, e, fun H2 dd s2 e2 => q H2 dd (s.trans s2) e2⟩)
  · exact .inr (.inr ⟨a, ps, ds, rfl, hx.up s, hdl, hl, fun i x z e => by
      obtain ⟨d, e, h1, h2, h3, h4, h5⟩ := hd i x z e
      exact ⟨d, e, h1, h2.up s, h3, h4.up s, h5⟩, fun all H2 s2 => (q1 all H2 (s.trans s2)).elim, fun i d e x z h1 h2 h3 h4 H2 dd s2 e2 => q2 i d e x z h1 h2 h3 h4 H2 dd (s.trans s2) e2⟩)
/-- the vowels in the order of the letters -/
def vowelsOf (L W : Str) : Str := mk ((tl L).filter fun c => decide (c ∈ tl W))
def sG1 (L : Str) : List (Str × V) := [("_letters", .str L)]
def sG2 (L W : Str) : List (Str × V) := [("_letters", .str L), ("_vowels", .str W)]
def sG3 (L W : Str) (t : Addr) : List (Str × V) := [("_letters", .str L), ("_vowels", .str W), ("_steps", .ref t)]
def sG4 (L W : Str) (t d : Addr) : List (Str × V) := [("_letters", .str L), ("_vowels", .str W), ("_steps", .ref t), ("_exceptions", .ref d)]
def sG5 (L W : Str) (t d b : Addr) : List (Str × V) := [("_letters", .str L), ("_vowels", .str W), ("_steps", .ref t), ("_exceptions", .ref d), ("_bounds", .ref b)]
theorem put_sG1 (L : Str) : putF "_letters" (.str L) [] = sG1 L := rfl
theorem put_sG2 (L W : Str) : putF "_vowels" (.str W) (sG1 L) = sG2 L W := by
  unfold sG1 sG2
  simp only [putF]
  rw [if_neg (by decide)]
theorem put_sG3 (L W : Str) (t : Addr) : putF "_steps" (.ref t) (sG2 L W) = sG3 L W t := by
  unfold sG2 sG3
  simp only [putF]
  rw [if_neg (by decide), if_neg (by decide)]
theorem put_sG4 (L W : Str) (t d : Addr) : putF "_exceptions" (.ref d) (sG3 L W t) = sG4 L W t d := by
  unfold sG3 sG4
  simp only [putF]
  rw [if_neg (by decide), if_neg (by decide), if_neg (by decide)]
theorem put_sG5 (L W : Str) (t d b : Addr) : putF "_bounds" (.ref b) (sG4 L W t d) = sG5 L W t d b := by
  unfold sG4 sG5
  simp only [putF]
  rw [if_neg (by decide), if_neg (by decide), if_neg (by decide), if_neg (by decide)]
/-- words with their stems, locked -/
def ExF (H : Hp) (d : Addr) (es : List (Str × Str)) : Prop := ∃ o, H d = some (.frz o (.dK (es.map fun p => ((.inr p.1 : Key), V.str p.2))))
/-- a stemmer: letters, vowels, steps, exceptions -/
def Ste (T : Txt K mg) (H : Hp) (v : V) (L W : Str) (xs : List V) (ss : List SD) (es : List (Str × Str)) : Prop :=
  ∃ (a dx t d b : Addr), v = .ref a ∧ H a = some (.ins T.C_Stemmer dx (sG5 L W t d b)) ∧ SqT K H t xs ∧ StAll T H xs ss ∧ ExF H d es ∧ SqT K H b (bnds ss es)
theorem ExF.up {H H' : Hp} {d : Addr} {es : List (Str × Str)} (h : ExF H d es) (s : Same H H') : ExF H' d es := let ⟨o, e⟩ := h; ⟨o, s _ _ e⟩
theorem Ste.up {T : Txt K mg} {H H' : Hp} {v : V} {L W : Str} {xs : List V} {ss : List SD} {es : List (Str × Str)} (h : Ste T H v L W xs ss es) (s : Same H H') : Ste T H' v L W xs ss es := by
  obtain ⟨a, dx, t, d, b, rfl, h1, h2, h3, h4, h5⟩ := h
  exact ⟨a, dx, t, d, b, rfl, s _ _ h1, Evl.ex_t s h2, h3.up s, h4.up s, Evl.ex_t s h5⟩
theorem excR_right (T : Txt K mg) {L : Str} {x : V} {H : Hp} {N : Hp → Prop} {E : XK} {es : List (Str × Str)} (ze : SzE es) (hx : (x = .non ∧ es = []) ∨ ∃ d, x = .ref d ∧ ExF H d es) (ok : ∀ p ∈ es, (isWordOf (.str p.1) L && isTextOf (.str p.2) L) = true) (q : ∀ H', Same H H' → N H') : excR T L x H N E := by
  rcases hx with ⟨rfl, _⟩ | ⟨d, rfl, o, e⟩
  · exact .inl ⟨rfl, q⟩
  · refine .inr (.inr ⟨d, _, es.map fun p => (.str p.1, .str p.2), rfl, .inl ⟨o, _, e, rfl⟩, by simp, by simp only [List.length_map]; have := ze.len; omega, fun i x z hi => ?_, fun _ => q, fun i d e x z h1 h2 h3 _ => ?_⟩)
    · rw [List.map_map, List.getElem?_map] at hi
      cases he : es[i]? with
      | none => rw [he] at hi; cases hi
      | some p =>
        rw [he] at hi
        cases hi
        have m := List.mem_of_getElem? he
        exact ⟨_, _, by rw [List.getElem?_map, he]; rfl, .inl (.str _), ze.key p m, .inl (.str _), ze.val p m⟩
    · rw [List.getElem?_map] at h1
      cases he : es[i]? with
      | none => rw [he] at h1; cases h1
      | some p =>
        rw [he] at h1
        cases h1
        rw [ok p (List.mem_of_getElem? he)] at h3
        cases h3
theorem look_cons {f g : Str} {v : V} {r : List (Str × V)} (h : (f == g) = false) : List.lookup f ((g, v) :: r) = List.lookup f r := by
  show (match f == g with
    | true => some v
    | false => List.lookup f r) = _
  rw [h]
theorem look_here {f : Str} {v : V} {r : List (Str × V)} : List.lookup f ((f, v) :: r) = some v := by
  simp [List.lookup]
theorem stem_tail (T : Txt K mg) {H H0 : Hp} {a dx p l : Addr} {L W : Str} {xs : List V} {ss : List SD} {es : List (Str × Str)} {σ : L2.St} {D : Ends} {od : Obj}
    (k0 : Same (Hd [a] H) (Hd [a] H0)) (a0 : H0 a = some (.ins T.C_Stemmer dx (sG3 L W l))) (hl : SqT K H0 l xs) (hs : StAll T (Hd [a] H) xs ss) (zs : SzS ss) (ze : SzE es)
    (e0 : H0 p = some (.frz od (.dK (es.map fun p => ((.inr p.1 : Key), V.str p.2))))) (hσ : σ[0]? = some (some (.ref a))) (q : ∀ H', Same (Hd [a] H) H' → Ste T H' (.ref a) L W xs ss es → D.nx σ H') :
    fldP K "_exceptions" (.ref p) (.ref a) (sFld K (tVar 0) (tCall (spBounds T) [] E0 (tCons (tFld K (tVar 0) "_steps") (tCons (tFld K (tVar 0) "_exceptions") tNil))) "_bounds" D σ) H0 := by
  refine k_fldP a0 T.cl_Stemmer T.n_Stemmer_exceptions (by simp [sG3]) ?_
  rw [put_sG4]
  have m1 : Gr [a] H0 (upd H0 a (.ins T.C_Stemmer dx (sG4 L W l p))) := Gr.mut (by simp)
  have k1 : Same (Hd [a] H) (Hd [a] (upd H0 a (.ins T.C_Stemmer dx (sG4 L W l p)))) := k0.trans m1.hd
  have a1 : (upd H0 a (.ins T.C_Stemmer dx (sG4 L W l p))) a = some (.ins T.C_Stemmer dx (sG4 L W l p)) := upd_same
  have z1 : SamD H0 (upd H0 a (.ins T.C_Stemmer dx (sG4 L W l p))) := SamD.mut a0 rfl
  have hl1 := SqT.upD hl z1
  have e1 := z1 _ _ e0 rfl
  generalize (upd H0 a (.ins T.C_Stemmer dx (sG4 L W l p))) = H1 at k1 a1 hl1 e1
  have u1 := k1.trans (hd_same _ _)
  apply k_sfld
  walk_at "kk"
  refine ⟨_, hσ, ?_⟩
  refine k_fldR (v := .ref l) a1 T.cl_Stemmer T.n_Stemmer_steps ?_ ?_
  · unfold sG4
    rw [look_cons (by decide), look_cons (by decide)]
    exact look_here
  walk_at "kk"
  refine ⟨_, hσ, ?_⟩
  refine k_fldR (v := .ref p) a1 T.cl_Stemmer T.n_Stemmer_exceptions ?_ ?_
  · unfold sG4
    rw [look_cons (by decide), look_cons (by decide), look_cons (by decide)]
    exact look_here
  walk_at "kk"
  refine ⟨l, p, xs, ss, es, rfl, hl1, hs.up u1, zs, .inr ⟨od, e1⟩, ze, fun b H2 s2 e2 => ?_⟩
  refine ⟨_, hσ, ?_⟩
  have a2 := s2 _ _ a1
  refine k_fldP a2 T.cl_Stemmer T.n_Stemmer_bounds (by simp [sG4]) ?_
  rw [put_sG5]
  have m3 : Gr [a] H2 (upd H2 a (.ins T.C_Stemmer dx (sG5 L W l p b))) := Gr.mut (by simp)
  have k3 : Same (Hd [a] H) (Hd [a] (upd H2 a (.ins T.C_Stemmer dx (sG5 L W l p b)))) := (k1.trans (s2.hid [a])).trans m3.hd
  have z3 : SamD H2 (upd H2 a (.ins T.C_Stemmer dx (sG5 L W l p b))) := SamD.mut a2 rfl
  have u3 := k3.trans (hd_same _ _)
  exact q _ u3 ⟨a, dx, l, p, b, rfl, upd_same, SqT.upD (Evl.ex_t s2 hl1) z3, hs.up u3, ⟨od, z3 _ _ (s2 _ _ e1) rfl⟩, SqT.upD (Evl.st_of e2) z3⟩
/-- the sizes of a text -/
structure SzL (L : Str) : Prop where
  a : L.length ≤ 4000
  b : L.cps.size ≤ 4000
def spStemmer (T : Txt K mg) : Sp := fun vs H Q E => ∃ (a dx : Addr) (l v s x : V), vs = [.ref a, l, v, s, x] ∧ H a = some (.ins T.C_Stemmer dx []) ∧
  ((∃ d, Th K (Hd [a] H) l d ∧ szd d ∧ sz4 d ∧ isLets d = false ∧ ∀ H' dd, Same (Hd [a] H) H' → H' dd = some (.xd [("thing", l)]) → E (.ref T.C_InvalidLetters) (some dd) H') ∨
   ∃ L : Str, l = .str L ∧ SzL L ∧ isLets (.str L) = true ∧
    ((∃ d, Th K (Hd [a] H) v d ∧ szd d ∧ sz4 d ∧ isChoice d L = false ∧ ∀ H' dd, Same (Hd [a] H) H' → H' dd = some (.xd [("thing", v)]) → E (.ref T.C_InvalidVowels) (some dd) H') ∨
     ∃ W : Str, v = .str W ∧ SzL W ∧ isChoice (.str W) L = true ∧
      (stepsR T s L (Hd [a] H) (fun _ => False) E ∨
       ∃ (sa : Addr) (t : Bool) (xs : List V) (ss : List SD), s = .ref sa ∧ SqB K t (Hd [a] H) sa xs ∧ StAll T (Hd [a] H) xs ss ∧ SzS ss ∧ (∀ s ∈ ss, s.rs.all (fitsR L) = true) ∧
        (excR T L x (Hd [a] H) (fun _ => False) E ∨
         ∃ es : List (Str × Str), SzE es ∧ ((x = .non ∧ es = []) ∨ ∃ d, x = .ref d ∧ ExF (Hd [a] H) d es) ∧ (∀ p ∈ es, (isWordOf (.str p.1) L && isTextOf (.str p.2) L) = true) ∧
          ∀ H', Same (Hd [a] H) H' → Ste T H' (.ref a) L (vowelsOf L W) xs ss es → Q .non H'))))
theorem ok_Stemmer_init (T : Txt K mg) : FnOk P w K mg base (L2.CX P w) 11 T.aM_Stemmer_init T.fdM_Stemmer_init ["self", "letters", "vowels", "steps", "exceptions"] (spStemmer T) := by
  refine T.FM_Stemmer_init.okX sc_Stemmer_init (fun vs H Q E h => ?_) (fun cdv A outer s H vs Q E hr h => ?_)
  · obtain ⟨a, dx, l, v, s, x, rfl, _⟩ := h
    rfl
  · obtain ⟨a, dx, l, v, st, x, rfl, ha, h⟩ := h
    refine ⟨_, (pss_cons (ps_expr (pe_call (ok_check_letters T) (hr.mono (by decide)) (by rfl) T.m_check_letters T.F_check_letters.kp T.b_check_letters .nil (passes_call (takes_of rfl rfl rfl rfl) (fun _ _ _ _ h => h)) (pa_cons (pv 1) pa_nil)))
      (pss_cons (ps_expr (pe_call (ok_check_vowels T) (hr.mono (by decide)) (by rfl) T.m_check_vowels T.F_check_vowels.kp T.b_check_vowels .nil (passes_call (takes_of rfl rfl rfl rfl) (fun _ _ _ _ h => h)) (pa_cons (pv 2) (pa_cons (pv 1) pa_nil))))
      (pss_cons (ps_expr (pe_call (ok_check_steps T) (hr.mono (by decide)) (by rfl) T.m_check_steps T.F_check_steps.kp T.b_check_steps .nil (passes_call (takes_of rfl rfl rfl rfl) (fun _ _ _ _ h => h)) (pa_cons (pv 3) (pa_cons (pv 1) pa_nil))))
      (pss_cons (ps_expr (pe_call (ok_check_exceptions T) (hr.mono (by decide)) (by rfl) T.m_check_exceptions T.F_check_exceptions.kp T.b_check_exceptions .nil (passes_call (takes_of rfl rfl rfl rfl) (fun _ _ _ _ h => h)) (pa_cons (pv 4) (pa_cons (pv 1) pa_nil))))
      (pss_cons (ps_fld (pv 0) (pv 1) rfl)
      (pss_cons (ps_fld (pv 0) (joinK K pe_str (pe_lc (own := [("letter", 5)]) (by rfl) sc_Stemmer_init.nd (pi_str (pv 1)) (blkOk_by (N := ["self", "letters", "vowels", "steps", "exceptions", "letter"]) (sc := defScope s_Stemmer_init) (by decide +kernel)) (fun _ _ _ _ _ => (pg_name (i := 5) sc_Stemmer_init.nd rfl (Or.inl rfl))) (fun _ _ _ _ _ => (pts_one (pt_cmpR op_inC (pv 5) (pv 2) (by rfl)))) (fun _ _ _ _ _ => (pv 5)))) rfl)
      (pss_cons (ps_fld (pv 0) (pe_callTy (tupK K) (by rfl) T.z_tuple B_tuple (pa_cons (pv 3) pa_nil)) rfl)
      (pss_cons (ps_fld (pv 0) (pe_ifExp (pt_cmpR op_isN (pv 4) pe_non (nomark _)) pe_dnewF (pe_callTy dictFK (by rfl) T.z_dict B_dict (pa_cons (pv 4) pa_nil))) rfl)
      (pss_one (ps_fld (pv 0) (pe_call (ok_bounds_of T) (hr.mono (by decide)) (by rfl) T.m_bounds_of T.F_bounds_of.kp T.b_bounds_of .nil pass0 (pa_cons (fldK K (pv 0)) (pa_cons (fldK K (pv 0)) pa_nil))) rfl)))))))))), ?_⟩
    have up0 := hd_same [a] H
    walk_at "kk"
    rcases h with ⟨d, th, z1, z2, b, q⟩ | ⟨L, rfl, zL, bL, h⟩
    · exact ⟨l, d, rfl, th.up up0, z1, z2, .inr ⟨b, fun H2 dd s2 e2 => q H2 dd (up0.trans s2) e2⟩⟩
    refine ⟨.str L, .str L, rfl, .inl (.str L), (show L.length ≤ 50000 from by have := zL.a; omega), (fun x e => by cases e; exact zL.b), .inl ⟨bL, fun H1 s1 => ?_⟩⟩
    walk_at "kk"
    have u1 := up0.trans s1
    rcases h with ⟨d, th, z1, z2, b, q⟩ | ⟨W, rfl, zW, bW, h⟩
    · exact ⟨v, d, L, rfl, th.up u1, z1, z2, .inr ⟨b, fun H2 dd s2 e2 => q H2 dd (u1.trans s2) e2⟩⟩
    refine ⟨.str W, .str W, L, rfl, .inl (.str W), (show W.length ≤ 50000 from by have := zW.a; omega), (fun x e => by cases e; exact zW.b), .inl ⟨bW, fun H2 s2 => ?_⟩⟩
    walk_at "kk"
    have u2 := u1.trans s2
    rcases h with h | ⟨sa, t, xs, ss, rfl, hx, hs, zs, fit, h⟩
    · exact ⟨st, L, rfl, stepsR_up T u2 h⟩
    have xl := hs.1
    refine ⟨.ref sa, L, rfl, .inr ⟨sa, t, xs, xs.map fun _ => true, rfl, hx.up u2, by simp, by have := zs.len; omega, fun i y e => ?_, fun _ H3 s3 => ?_, fun i e => ?_⟩⟩
    · have lt : i < ss.length := by
        have := (List.getElem?_eq_some_iff.mp e).1
        omega
      obtain ⟨y2, e2, hy⟩ := hs.2 i ss[i] (List.getElem?_eq_getElem lt)
      rw [e] at e2
      cases Option.some.inj e2
      have hm : ss[i] ∈ ss := List.getElem_mem lt
      exact ⟨true, by rw [List.getElem?_map, e]; rfl, .inr ⟨ss[i], hy.up u2, zs.rule _ hm, zs.rules _ hm, (fit _ hm).symm⟩⟩
    · walk_at "kk"
      have u3 := u2.trans s3
      rcases h with h | ⟨es, ze, hex, fe, q⟩
      · exact ⟨x, L, rfl, excR_up T u3 h⟩
      have v3 := s1.trans (s2.trans s3)
      refine ⟨x, L, rfl, excR_right T ze (hex.imp (fun z => z) fun ⟨d, e, hd⟩ => ⟨d, e, hd.up u3⟩) fe (fun H4 s4 => ?_)⟩
      have u4 := u3.trans s4
      have a4 := (v3.trans s4) _ _ ha
      walk_at "kk"
      refine k_fldP a4 T.cl_Stemmer T.n_Stemmer_letters (by decide) ?_
      rw [put_sG1]
      have fl : ((tl L).filter fun c => decide (c ∈ tl W)).length ≤ 4000 := by
        have h1 := List.length_filter_le (fun c => decide (c ∈ tl W)) (tl L)
        have h2 := zL.a
        rw [len_tl] at h2
        omega
      have m5 : Gr [a] H4 (upd H4 a (.ins T.C_Stemmer dx (sG1 L))) := Gr.mut (by simp)
      have k5 : Same (Hd [a] H) (Hd [a] (upd H4 a (.ins T.C_Stemmer dx (sG1 L)))) := (Gr.hd (Gr.of (v3.trans s4))).trans m5.hd
      have a5 : (upd H4 a (.ins T.C_Stemmer dx (sG1 L))) a = some (.ins T.C_Stemmer dx (sG1 L)) := upd_same
      generalize (upd H4 a (.ins T.C_Stemmer dx (sG1 L))) = H5 at k5 a5
      walk_at "kk"
      refine lc_filtS (fun c => decide (c ∈ tl W)) (fun c => .str ⟨#[c]⟩) (by have := zL.a; omega) (by intro _; rfl) (fun c H6 hc s6 QB k => ?_) (fun c H6 hc s6 => EvS.of (by walk_at "val")) (fun D H6 n6 s6 e6 => ?_)
      · walk_at "kk"
        exact k _ (Same.refl _)
      walk_at "kk"
      refine k_joinL (ys := singles ((tl L).filter fun c => decide (c ∈ tl W))) (Evl.sq_of (by rw [e6]; unfold singles; rw [List.map_map]; rfl)) (join_cost _ (by omega)) ?_
      rw [join_singles, show mk ((tl L).filter fun c => decide (c ∈ tl W)) = vowelsOf L W from rfl]
      walk_at "kk"
      have a6 := s6 _ _ a5
      refine k_fldP a6 T.cl_Stemmer T.n_Stemmer_vowels (by simp [sG1]) ?_
      rw [put_sG2]
      have m7 : Gr [a] H6 (upd H6 a (.ins T.C_Stemmer dx (sG2 L (vowelsOf L W)))) := Gr.mut (by simp)
      have k7 : Same (Hd [a] H) (Hd [a] (upd H6 a (.ins T.C_Stemmer dx (sG2 L (vowelsOf L W))))) := (k5.trans (s6.hid [a])).trans m7.hd
      have a7 : (upd H6 a (.ins T.C_Stemmer dx (sG2 L (vowelsOf L W)))) a = some (.ins T.C_Stemmer dx (sG2 L (vowelsOf L W))) := upd_same
      generalize (upd H6 a (.ins T.C_Stemmer dx (sG2 L (vowelsOf L W)))) = H7 at k7 a7
      have l7 := k7.trans (hd_same _ _)
      walk_at "kk"
      refine k_tupB (hx.up l7) fun l H8 s8 hl8 => ?_
      walk_at "kk"
      have a8 := s8 _ _ a7
      refine k_fldP a8 T.cl_Stemmer T.n_Stemmer_steps (by simp [sG2]) ?_
      rw [put_sG3]
      have m9 : Gr [a] H8 (upd H8 a (.ins T.C_Stemmer dx (sG3 L (vowelsOf L W) l))) := Gr.mut (by simp)
      have k9 : Same (Hd [a] H) (Hd [a] (upd H8 a (.ins T.C_Stemmer dx (sG3 L (vowelsOf L W) l)))) := (k7.trans (s8.hid [a])).trans m9.hd
      have a9 : (upd H8 a (.ins T.C_Stemmer dx (sG3 L (vowelsOf L W) l))) a = some (.ins T.C_Stemmer dx (sG3 L (vowelsOf L W) l)) := upd_same
      have hl9 := SqT.upD hl8 (SamD.mut a8 rfl : SamD H8 (upd H8 a (.ins T.C_Stemmer dx (sG3 L (vowelsOf L W) l))))
      generalize (upd H8 a (.ins T.C_Stemmer dx (sG3 L (vowelsOf L W) l))) = H9 at k9 a9 hl9
      walk_at "kk"
      refine ⟨rfl, ?_⟩
      rcases hex with ⟨rfl, rfl⟩ | ⟨d, rfl, hd⟩
      · rw [decide_eq_true rfl]
        walk_at "kk"
        intro p od hp
        walk_at "kk"
        have np : a ≠ p := fun z => by
          rw [z] at a9
          rw [a9] at hp
          cases hp
        exact stem_tail T (k9.trans ((same_new (o := .frz od (.dK [])) hp).hid [a])) ((same_new hp) _ _ a9) (Evl.ex_t (same_new hp) hl9) hs zs ze upd_same rfl q
      · rw [decide_eq_false (show ¬ (V.ref d = .non) from fun z => nomatch z)]
        walk_at "kk"
        obtain ⟨o, hd⟩ := hd
        refine ⟨d, _, rfl, .inr ⟨o, hd_same _ _ _ _ (k9 _ _ hd)⟩, fun p od hp => ?_⟩
        walk_at "kk"
        exact stem_tail T (k9.trans ((same_new hp).hid [a])) ((same_new hp) _ _ a9) (Evl.ex_t (same_new hp) hl9) hs zs ze upd_same rfl q
    · rw [List.getElem?_map] at e
      cases h2 : xs[i]? with
      | none => rw [h2] at e; cases e
      | some x => rw [h2] at e; cases e
end
set_option Elab.async false
set_option linter.all false
set_option maxRecDepth 100000
set_option maxHeartbeats 4000000
section
variable {P : Program} {w : World} {K : PySem.W.Frag} {mg : Str → Option Value} {base : Heap}
section
variable (L W : Str) (t d b : Addr)
theorem no_sG5 {f L W : Str} {t d b : Addr} (h1 : (f == ("_letters" : Str)) = false) (h2 : (f == ("_vowels" : Str)) = false) (h3 : (f == ("_steps" : Str)) = false) (h4 : (f == ("_exceptions" : Str)) = false) (h5 : (f == ("_bounds" : Str)) = false) : (sG5 L W t d b).lookup f = none := by
  unfold sG5
  rw [look_cons h1, look_cons h2, look_cons h3, look_cons h4, look_cons h5]
  rfl
theorem lk_letters : (sG5 L W t d b).lookup ("_letters" : Str) = some (.str L) := look_here
theorem lk_vowels : (sG5 L W t d b).lookup ("_vowels" : Str) = some (.str W) := by
  unfold sG5
  rw [look_cons (by decide)]
  exact look_here
theorem lk_steps : (sG5 L W t d b).lookup ("_steps" : Str) = some (.ref t) := by
  unfold sG5
  rw [look_cons (by decide), look_cons (by decide)]
  exact look_here
theorem lk_exceptions : (sG5 L W t d b).lookup ("_exceptions" : Str) = some (.ref d) := by
  unfold sG5
  rw [look_cons (by decide), look_cons (by decide), look_cons (by decide)]
  exact look_here
theorem lk_bounds : (sG5 L W t d b).lookup ("_bounds" : Str) = some (.ref b) := by
  unfold sG5
  rw [look_cons (by decide), look_cons (by decide), look_cons (by decide), look_cons (by decide)]
  exact look_here
end
theorem made_hid {C x dx : Addr} {H : Hp} (h1 : H x = none) (h2 : H dx = none) : Same H (Hd [x] (upd (upd H dx (.own x)) x (.ins C dx []))) := fun a o e => by
  have na : a ≠ x := ne_of_none e h1
  have nb : a ≠ dx := ne_of_none e h2
  rw [hd_out (by simpa using na), upd_ne na, upd_ne nb]
  exact e
/-- what a right stemmer is made of -/
structure Good (L W : Str) (ss : List SD) (es : List (Str × Str)) : Prop where
  zL : SzL L
  le : isLets (.str L) = true
  zW : SzL W
  ch : isChoice (.str W) L = true
  vw : vowelsOf L W = W
  zs : SzS ss
  fit : ∀ s ∈ ss, s.rs.all (fitsR L) = true
  st : ∀ s ∈ ss, LetS s
  ze : SzE es
  fe : ∀ p ∈ es, (isWordOf (.str p.1) L && isTextOf (.str p.2) L) = true
theorem stem_right (T : Txt K mg) {L W : Str} {ss : List SD} {es : List (Str × Str)} {s x : V} {xs : List V} {t : Bool} {sa : Addr} {H : Hp} {N : VK} {E : XK} {a dx : Addr} (g : Good L W ss es) (es' : s = .ref sa) (hx : SqB K t H sa xs) (hs : StAll T H xs ss)
    (he : (x = .non ∧ es = []) ∨ ∃ d, x = .ref d ∧ ExF H d es) (h1 : H a = none) (h2 : H dx = none) (q : ∀ v H', Same H H' → Ste T H' v L W xs ss es → N v H') :
    spStemmer T [.ref a, .str L, .str W, s, x] (upd (upd H dx (.own a)) a (.ins T.C_Stemmer dx [])) (fun v H2 => v = .non ∧ N (.ref a) H2) E := by
  have ms := made_hid (C := T.C_Stemmer) (x := a) h1 h2
  refine ⟨a, dx, _, _, s, x, rfl, upd_same, .inr ⟨L, rfl, g.zL, g.le, .inr ⟨W, rfl, g.zW, g.ch, .inr ⟨sa, t, xs, ss, es', hx.up ms, hs.up ms, g.zs, g.fit, .inr ⟨es, g.ze, he.imp (fun z => z) fun ⟨d, e, hd⟩ => ⟨d, e, hd.up ms⟩, g.fe, fun H' s' st => ⟨rfl, q _ H' (ms.trans s') ?_⟩⟩⟩⟩⟩⟩
  rw [g.vw] at st
  exact st
theorem stem_rightK (T : Txt K mg) {L W : Str} {ss : List SD} {es : List (Str × Str)} {s x : V} {xs : List V} {t : Bool} {sa : Addr} {H : Hp} {N : VK} {E : XK} (g : Good L W ss es) (es' : s = .ref sa) (hx : SqB K t H sa xs) (hs : StAll T H xs ss)
    (he : (x = .non ∧ es = []) ∨ ∃ d, x = .ref d ∧ ExF H d es) (q : ∀ v H', Same H H' → Ste T H' v L W xs ss es → N v H') :
    madeK T.C_Stemmer 3 1 (spStemmer T) (fun vs zs => vs ++ pick [0] zs) E [.str L, .str W, s] [x] H N := ⟨rfl, rfl, fun _ _ h1 h2 _ => stem_right T g es' hx hs he h1 h2 q⟩
/-! a rule less -/
def lessR (s : SD) (j : Nat) : SD := ⟨s.rs.take j ++ s.rs.drop (j + 1), s.mode⟩
def lessS (ss : List SD) (i : Nat) (s : SD) (j : Nat) : List SD := (ss.take i ++ [lessR s j]) ++ ss.drop (i + 1)
theorem cut_one {α : Type} {l : List α} {i : Nat} {x : α} (h : l[i]? = some x) : l = (l.take i ++ [x]) ++ l.drop (i + 1) := by
  have lt := (List.getElem?_eq_some_iff.mp h).1
  have e := (List.getElem?_eq_some_iff.mp h).2
  rw [← e, List.append_assoc]
  show l = l.take i ++ (l[i] :: l.drop (i + 1))
  rw [← List.drop_eq_getElem_cons lt, List.take_append_drop]
theorem lessR_sub (s : SD) (j : Nat) : (lessR s j).rs.Sublist s.rs := by
  show (s.rs.take j ++ s.rs.drop (j + 1)).Sublist s.rs
  have h : (s.rs.take j ++ s.rs.drop (j + 1)).Sublist (s.rs.take j ++ s.rs.drop j) := by
    refine List.Sublist.append (List.Sublist.refl _) ?_
    rw [← List.drop_drop]
    exact List.drop_sublist _ _
  rwa [List.take_append_drop] at h
theorem condsS_app (a b : List SD) : condsS (a ++ b) = condsS a ++ condsS b := by
  unfold condsS
  rw [List.map_append, List.flatten_append]
theorem condsR_sub {a b : List RD} (h : a.Sublist b) : (condsR a).Sublist (condsR b) := flat_sub (h.map _)
theorem less_sub {ss : List SD} {i : Nat} {s : SD} (j : Nat) (h : ss[i]? = some s) : (condsS (lessS ss i s j)).Sublist (condsS ss) := by
  have e : condsS ss = (condsS (ss.take i) ++ condsS [s]) ++ condsS (ss.drop (i + 1)) := by rw [← condsS_app, ← condsS_app, ← cut_one h]
  rw [e]
  unfold lessS
  rw [condsS_app, condsS_app]
  refine List.Sublist.append (List.Sublist.append (List.Sublist.refl _) ?_) (List.Sublist.refl _)
  show ([condsR (lessR s j).rs].flatten).Sublist [condsR s.rs].flatten
  rw [List.flatten_singleton, List.flatten_singleton]
  exact condsR_sub (lessR_sub s j)
theorem less_mem {ss : List SD} {i j : Nat} {s x : SD} (h : x ∈ lessS ss i s j) : x ∈ ss ∨ x = lessR s j := by
  rcases List.mem_append.mp h with h | h
  · rcases List.mem_append.mp h with h | h
    · exact .inl (List.mem_of_mem_take h)
    · exact .inr (List.mem_singleton.mp h)
  · exact .inl (List.mem_of_mem_drop h)
theorem Good.less {L W : Str} {ss : List SD} {es : List (Str × Str)} (g : Good L W ss es) {i : Nat} {s : SD} (j : Nat) (h : ss[i]? = some s) : Good L W (lessS ss i s j) es := by
  have ms : s ∈ ss := List.mem_of_getElem? h
  have sb := lessR_sub s j
  have cs := less_sub j h
  refine ⟨g.zL, g.le, g.zW, g.ch, g.vw, ⟨?_, fun x hx => ?_, fun x hx r hr => ?_, Nat.le_trans cs.length_le g.zs.conds, fun c hc => g.zs.texts c (cs.mem hc), fun c hc => g.zs.nn c (cs.mem hc)⟩, fun x hx => ?_, fun x hx => ?_, g.ze, g.fe⟩
  · have h1 := g.zs.len
    have h2 := congrArg List.length (cut_one h)
    unfold lessS
    simp only [List.length_append, List.length_singleton] at h2 ⊢
    omega
  · rcases less_mem hx with hx | rfl
    · exact g.zs.rules x hx
    · exact Nat.le_trans sb.length_le (g.zs.rules s ms)
  · rcases less_mem hx with hx | rfl
    · exact g.zs.rule x hx r hr
    · exact g.zs.rule s ms r (sb.mem hr)
  · rcases less_mem hx with hx | rfl
    · exact g.fit x hx
    · exact List.all_eq_true.mpr fun r hr => List.all_eq_true.mp (g.fit s ms) r (sb.mem hr)
  · rcases less_mem hx with hx | rfl
    · exact g.st x hx
    · have z := g.st s ms
      exact ⟨Nat.le_trans sb.length_le z.len, fun r hr => z.lt r (sb.mem hr), z.om, z.im, fun e => (z.nd e).sublist (sb.map _)⟩
/-! the methods -/
def spBoundsM (T : Txt K mg) : Sp := fun vs H Q _ => ∃ (x : V) (L W : Str) (xs : List V) (ss : List SD) (es : List (Str × Str)), vs = [x] ∧ Ste T H x L W xs ss es ∧ ∀ b, SqT K H b (bnds ss es) → Q (.ref b) H
theorem ok_Stemmer_bounds (T : Txt K mg) : FnOk P w K mg base CX0 1 T.aM_Stemmer_bounds T.fdM_Stemmer_bounds ["self"] (spBoundsM T) := by
  refine T.FM_Stemmer_bounds.ok sc_Stemmer_bounds (fun vs H Q E h => ?_) (fun cdv A outer s H vs Q E hr h => ?_)
  · obtain ⟨x, L, W, xs, ss, es, rfl, _⟩ := h
    rfl
  · obtain ⟨x, L, W, xs, ss, es, rfl, ⟨a, dx, t, de, b, rfl, h1, h2, h3, h4, h5⟩, q⟩ := h
    refine ⟨_, (pss_one (ps_ret (fldK K (pv 0)))), ?_⟩
    walk_at "kk"
    refine k_fldR h1 T.cl_Stemmer T.n_Stemmer_bounds (lk_bounds ..) ?_
    walk_at "kk"
    exact q b h5
def spSightM (T : Txt K mg) : Sp := fun vs H Q E => ∃ (x : V) (y L W : Str) (xs : List V) (ss : List SD) (es : List (Str × Str)), vs = [x, .str y] ∧ Ste T H x L W xs ss es ∧ isTextOf (.str y) L = true ∧ y.length ≤ 50000 ∧ W.length ≤ 50000 ∧
  ∀ p H', Same H H' → H' p = some (.tup (sgO W y (bM ss) (bK ss) (bC ss))) → Q (.ref p) H'
theorem ok_Stemmer_sight (T : Txt K mg) : FnOk P w K mg base (L2.CX P w) 4 T.aM_Stemmer_sight T.fdM_Stemmer_sight ["self", "word"] (spSightM T) := by
  refine T.FM_Stemmer_sight.okX sc_Stemmer_sight (fun vs H Q E h => ?_) (fun cdv A outer s H vs Q E hr h => ?_)
  · obtain ⟨x, y, L, W, xs, ss, es, rfl, _⟩ := h
    rfl
  · obtain ⟨x, y, L, W, xs, ss, es, rfl, ⟨a, dx, t, de, b, rfl, h1, h2, h3, h4, h5⟩, hy, zy, zW, q⟩ := h
    refine ⟨_, (pss_cons (ps_expr (pe_call (ok_check_text T) (hr.mono (by decide)) (by rfl) T.m_check_text T.F_check_text.kp T.b_check_text .nil (passes_call (takes_of rfl rfl rfl rfl) (fun _ _ _ _ h => h)) (pa_cons (pv 1) (pa_cons (fldK K (pv 0)) pa_nil))))
      (pss_one (ps_ret (pe_call (ok_sight_of T) (hr.mono (by decide)) (by rfl) T.m_sight_of T.F_sight_of.kp T.b_sight_of .nil pass0 (pa_cons (pv 1) (pa_cons (fldK K (pv 0)) (pa_cons (fldK K (pv 0)) pa_nil))))))), ?_⟩
    walk_at "kk"
    refine k_fldR h1 T.cl_Stemmer T.n_Stemmer_letters (lk_letters ..) ?_
    walk_at "kk"
    refine ⟨.str y, .str y, L, rfl, .inl (.str y), zy, ?_⟩
    refine .inl ⟨hy, fun H1 s1 => ?_⟩
    walk_at "kk"
    refine k_fldR (s1 _ _ h1) T.cl_Stemmer T.n_Stemmer_vowels (lk_vowels ..) ?_
    walk_at "kk"
    refine k_fldR (s1 _ _ h1) T.cl_Stemmer T.n_Stemmer_bounds (lk_bounds ..) ?_
    walk_at "kk"
    exact ⟨y, W, b, _, _, _, _, _, _, rfl, zy, zW, mx_nn _, Evl.ex_t s1 h5, fun v H2 s2 e2 => q v H2 (s1.trans s2) e2⟩
end
set_option Elab.async false
set_option linter.all false
set_option maxRecDepth 100000
set_option maxHeartbeats 4000000
section
variable {P : Program} {w : World} {K : PySem.W.Frag} {mg : Str → Option Value} {base : Heap}
theorem StAll.take {T : Txt K mg} {H : Hp} {xs : List V} {ss : List SD} (j : Nat) (h : StAll T H xs ss) : StAll T H (xs.take j) (ss.take j) := by
  refine ⟨by rw [List.length_take, List.length_take, h.1], fun i s e => ?_⟩
  rw [List.getElem?_take] at e
  split at e
  · rename_i lt
    obtain ⟨x, ex, sx⟩ := h.2 i s e
    exact ⟨x, by rw [List.getElem?_take, if_pos lt]; exact ex, sx⟩
  · cases e
theorem StAll.drop {T : Txt K mg} {H : Hp} {xs : List V} {ss : List SD} (j : Nat) (h : StAll T H xs ss) : StAll T H (xs.drop j) (ss.drop j) := by
  refine ⟨by rw [List.length_drop, List.length_drop, h.1], fun i s e => ?_⟩
  rw [List.getElem?_drop] at e
  obtain ⟨x, ex, sx⟩ := h.2 _ s e
  exact ⟨x, by rw [List.getElem?_drop]; exact ex, sx⟩
theorem StAll.app {T : Txt K mg} {H : Hp} {xs ys : List V} {ss ts : List SD} (h : StAll T H xs ss) (g : StAll T H ys ts) : StAll T H (xs ++ ys) (ss ++ ts) := by
  refine ⟨by rw [List.length_append, List.length_append, h.1, g.1], fun i s e => ?_⟩
  by_cases lt : i < ss.length
  · rw [List.getElem?_append_left lt] at e
    obtain ⟨x, ex, sx⟩ := h.2 i s e
    exact ⟨x, by rw [List.getElem?_append_left (by rw [h.1]; exact lt)]; exact ex, sx⟩
  · rw [List.getElem?_append_right (by omega)] at e
    obtain ⟨x, ex, sx⟩ := g.2 _ s e
    exact ⟨x, by rw [List.getElem?_append_right (by rw [h.1]; omega), h.1]; exact ex, sx⟩
theorem StAll.one {T : Txt K mg} {H : Hp} {x : V} {s : SD} (h : StA K T.C_Step T.C_Rule H x s) : StAll T H [x] [s] := by
  refine ⟨rfl, fun i s' e => ?_⟩
  match i with
  | 0 =>
    cases Option.some.inj e
    exact ⟨x, rfl, h⟩
  | i + 1 => simp at e
end
set_option Elab.async false
set_option linter.all false
set_option maxRecDepth 100000
set_option maxHeartbeats 4000000
section
variable {P : Program} {w : World} {K : PySem.W.Frag} {mg : Str → Option Value} {base : Heap}
/-- a stemmer as data -/
def Raw (K : PySem.W.Frag) (H : Hp) (v : V) (L W : Str) (ss : List SD) (es : List (Str × Str)) : Prop := ∃ (a lp d : Addr) (qv : List V), v = .ref a ∧ SqT K H a [.str L, .str W, .ref lp, .ref d] ∧ SqL K H lp qv ∧ DpAll K H qv (ss.map encS) ∧ ExF H d es
theorem Raw.up {H H' : Hp} {v : V} {L W : Str} {ss : List SD} {es : List (Str × Str)} (h : Raw K H v L W ss es) (s : Same H H') : Raw K H' v L W ss es := by
  obtain ⟨a, lp, d, qv, e, h1, h2, h3, h4⟩ := h
  exact ⟨a, lp, d, qv, e, Evl.ex_t s h1, s.seq h2, h3.up s, h4.up s⟩
end
set_option Elab.async false
set_option linter.all false
set_option maxRecDepth 100000
set_option maxHeartbeats 4000000
section
variable {P : Program} {w : World} {K : PySem.W.Frag} {mg : Str → Option Value} {base : Heap}
/-- a drawn exception -/
def smE (z : Str) (p : Str × Str) : Prop := (1 ≤ p.1.length ∧ p.1.length ≤ 3 ∧ ∀ c ∈ tl p.1, c ∈ tl z) ∧ (p.2.length ≤ 3 ∧ ∀ c ∈ tl p.2, c ∈ tl z)
def spLStem (K : PySem.W.Frag) : Sp := fun vs H Q _ => ∃ (p nt : Addr) (z y : Str) (n : Nat), vs = [.ref p, .ref nt] ∧ SqT K (Hd [p] H) nt [.str z, .str z, .str y] ∧ 0 < z.length ∧ z.length ≤ 100 ∧ Pu H p n ∧ n < 2 ^ 34 ∧
  ∀ (H' : Hp) (v : V) (ss : List SD) (es : List (Str × Str)), Gr [p] H H' → Pu H' p (n + 3000000) → Raw K (Hd [p] H') v z y ss es → ss.length ≤ 3 → (∀ s ∈ ss, smS z 3 s) → es.length ≤ 2 → (∀ e ∈ es, smE z e) → Q v H'
theorem ok_law_stemmer (T : Txt K mg) : FnOk P w K mg base CX0 7 T.a_law_stemmer T.fd_law_stemmer ["purse", "names"] (spLStem K) := by
  refine T.F_law_stemmer.ok sc_law_stemmer (fun vs H Q E h => ?_) (fun cdv A outer s H vs Q E hr h => ?_)
  · obtain ⟨p, nt, z, y, n, rfl, _⟩ := h
    rfl
  · obtain ⟨p, nt, z, y, n, rfl, hnt, hz, hz2, hp, hn, q⟩ := h
    refine ⟨_, (pss_cons (ps_par (i := 3) (j := 4) (by rfl) sc_law_stemmer.nd rfl rfl (by decide) rfl rfl (pa_cons (pe_lc (own := [("turn", 2)]) (by rfl) sc_law_stemmer.nd (pi_range1 (by rfl) T.z_range (pa_cons (pe_call (ok_law_draw T) (hr.mono (by decide)) (by rfl) T.m_law_draw T.F_law_draw.kp T.b_law_draw .nil pass0 (pa_cons (pv 0) (pa_cons pe_int pa_nil))) pa_nil)) (blkOk_by (N := ["purse", "names", "turn", "parts", "known"]) (sc := defScope s_law_stemmer) (by decide +kernel)) (fun _ _ _ _ _ => (pg_name (i := 2) sc_law_stemmer.nd rfl (Or.inl rfl))) (fun _ _ _ _ _ => pts_nil) (fun _ _ _ _ _ => (pe_call (ok_law_step T) (hr.mono (by decide)) (by rfl) T.m_law_step T.F_law_step.kp T.b_law_step .nil pass0 (pa_cons (pv 0) (pa_cons (pe_ix (ixK K) (pv 1) pe_int (fun _ _ => rfl)) (pa_cons pe_int pa_nil)))))) (pa_cons pe_dnewK pa_nil)) (by rfl))
      (pss_cons (ps_for PassesOwn.never rfl (pi_range1 (by rfl) T.z_range (pa_cons (pe_call (ok_law_draw T) (hr.mono (by decide)) (by rfl) T.m_law_draw T.F_law_draw.kp T.b_law_draw .nil pass0 (pa_cons (pv 0) (pa_cons pe_int pa_nil))) pa_nil)) (pg_name (i := 2) sc_law_stemmer.nd rfl (Or.inl rfl)) (pss_one (ps_dput (hu_of hr) (pv 4) (pe_call (ok_law_text T) (hr.mono (by decide)) (by rfl) T.m_law_text T.F_law_text.kp T.b_law_text .nil pass0 (pa_cons (pv 0) (pa_cons (pe_ix (ixK K) (pv 1) pe_int (fun _ _ => rfl)) (pa_cons pe_int (pa_cons pe_int pa_nil))))) (pe_call (ok_law_text T) (hr.mono (by decide)) (by rfl) T.m_law_text T.F_law_text.kp T.b_law_text .nil pass0 (pa_cons (pv 0) (pa_cons (pe_ix (ixK K) (pv 1) pe_int (fun _ _ => rfl)) (pa_cons pe_int (pa_cons pe_int pa_nil))))) rfl)))
      (pss_one (ps_ret (pe_tup (pa_cons (pe_ix (ixK K) (pv 1) pe_int (fun _ _ => rfl)) (pa_cons (pe_ix (ixK K) (pv 1) pe_int (fun _ _ => rfl)) (pa_cons (pv 3) (pa_cons (pe_lockD (pv 4)) pa_nil))))))))), ?_⟩
    have up0 := hd_same [p] H
    walk_at "kk"
    refine ⟨p, 4, n, rfl, by omega, by omega, hp, by omega, fun H1 m g1 p1 m1 m2 => ?_⟩
    have nt1 : SqT K (Hd [p] H1) nt [.str z, .str z, .str y] := Evl.ex_t g1.hd hnt
    walk_at "kk"
    refine k_onR1 (by omega) (lc_go (walk_range (lo := 0) (n := m.toNat)) (fun D i H' => p ≠ D ∧ H D = none ∧ Gr [D, p] H H' ∧ Pu H' p (n + 1 + i * 400000) ∧ ∃ (vs : List V) (ss : List SD), H' D = some (.lst vs) ∧ DqAll K [D, p] H' vs (ss.map encS) ∧ ss.length = i ∧ ∀ s ∈ ss, smS z 3 s) (by intro _; rfl) (fun D hD => ?_) (fun _ _ _ _ _ => trivial) (fun D i x Ha Hb hi iv hy => ?_) (fun D H2 iv => ?_))
    · have hpD := p1.ne hD
      exact ⟨hpD, g1.free hD (by simpa using hpD.symm), (g1.more (by simp)).trans (Gr.mut (by simp)), p1.up (upd_ne hpD) (by omega), [], [], upd_same, .nil, rfl, by simp⟩
    · obtain ⟨hpD, hD0, g2, p2, vs, ss, e2, dv2, l2, m2'⟩ := iv
      obtain ⟨rfl, rfl⟩ := hy
      have gl := g2.less hD0
      walk_at "kk"
      apply k_rv
      · exact rv_ixT (Evl.ex_t (gl.hd.trans (hd_same _ _)) hnt) (at_int (by decide) rfl)
      walk_at "kk"
      refine ⟨p, z, 3, n + 1 + i * 400000, rfl, by decide, hz, hz2, p2, by omega, fun H3 v s g3 p3 _ dvD sm => ?_⟩
      have e3 : H3 D = some (.lst vs) := g3 D _ (by simpa using hpD.symm) e2
      have g3' : Gr [D, p] Hb H3 := g3.more (by simp)
      have gm : Gr [D, p] H3 (upd H3 D (.lst (vs ++ [v]))) := Gr.mut (by simp)
      refine k_add e3 (by rw [dv2.len, List.length_map]; omega) ⟨hpD, hD0, (g2.trans g3').trans gm, p3.up (upd_ne hpD) (by omega), vs ++ [v], ss ++ [s], upd_same, ?_, by simp [l2], fun t ht => ?_⟩
      · rw [List.map_append]
        exact ((dv2.up g3').append (.cons (dvD D vs hpD.symm e2) .nil)).up gm
      · rcases List.mem_append.mp ht with h | h
        · exact m2' t h
        · rw [List.mem_singleton.mp h]; exact sm
    · obtain ⟨hpD, hD0, g2, p2, vs, ss, e2, dv2, l2, m2'⟩ := iv
      have g2' := g2.less hD0
      walk_at "kk"
      refine k_dnewK fun d hd => ?_
      have pd : p ≠ d := p2.ne hd
      have npD : D ∉ [p] := by simpa using hpD.symm
      have nDd : D ≠ d := ne_of_none e2 hd
      have dl : Dq K [p] H2 (.ref D) (.list (ss.map encS)) := Dq.lst npD e2 dv2.less1
      have p3 := p2.new (o := .dK []) hd
      have gd : Gr [d, p] H2 (upd H2 d (.dK [])) := Gr.new hd
      walk_at "kk"
      refine ⟨p, 3, _, rfl, by omega, by omega, p3, by omega, fun H3 m3 g3 p4 m31 m32 => ?_⟩
      walk_at "kk"
      have ed3 : H3 d = some (.dK (exK [])) := g3 d _ (by simpa using pd.symm) upd_same
      refine k_onR1 (by omega) (for_go (walk_rng (n := m3.toNat)) (fun i σ H' => (Gr [d, p] H2 H' ∧ Pu H' p (n + 2 + m.toNat * 400000 + i * 3000) ∧ ∃ es : List (Str × Str), H' d = some (.dK (exK es)) ∧ es.length ≤ i ∧ ∀ e ∈ es, smE z e) ∧ ∃ y1, σ = [some (.ref p), some (.ref nt), y1, some (.ref D), some (.ref d)]) ⟨⟨gd.trans (g3.more (by simp)), p4.up rfl (by omega), [], ed3, by simp, by simp⟩, none, rfl⟩ (fun _ _ _ _ _ => trivial) (fun i x σ Ha Hb hi iv hy => ?_) (fun σ H4 iv => ?_))
      · obtain ⟨⟨g4, p5, es, ed, le, me⟩, y1, rfl⟩ := iv
        obtain ⟨rfl, rfl⟩ := hy
        have gl := g2'.trans (g4.less hd)
        walk_at "kk"
        refine k_dput ?_
        walk_at "kk"
        apply k_rv
        · exact rv_ixT (Evl.ex_t (gl.hd.trans (hd_same _ _)) hnt) (at_int (by decide) rfl)
        walk_at "kk"
        refine ⟨p, z, 0, 3, _, rfl, by omega, by omega, by omega, hz, hz2, p5, by omega, fun H5 x2 g5 p6 mx2 lx21 lx22 => ?_⟩
        walk_at "kk"
        apply k_rv
        · exact rv_ixT (Evl.ex_t ((gl.trans g5).hd.trans (hd_same _ _)) hnt) (at_int (by decide) rfl)
        walk_at "kk"
        refine ⟨p, z, 1, 3, _, rfl, by omega, by omega, by omega, hz, hz2, p6, by omega, fun H6 x1 g6 p7 mx1 lx11 lx12 => ?_⟩
        walk_at "kk"
        have ed6 : H6 d = some (.dK (exK es)) := g6 d _ (by simpa using pd.symm) (g5 d _ (by simpa using pd.symm) ed)
        refine put_ex ed6 (by omega) (fun es' l1 mm => ?_)
        have gm : ∀ o, Gr [d, p] H6 (upd H6 d o) := fun o => Gr.mut (by simp)
        exact ⟨⟨((g4.trans (g5.more (by simp))).trans (g6.more (by simp))).trans (gm _), p7.up (upd_ne pd) (by omega), es', upd_same, by omega, fun e he => (mm e he).elim (me e) (fun h => by subst h; exact ⟨⟨(show 1 ≤ x1.length by omega), (show x1.length ≤ 3 by omega), mx1⟩, (show x2.length ≤ 3 by omega), mx2⟩)⟩, _, rfl⟩
      · obtain ⟨⟨g4, p5, es, ed, le, me⟩, y1, rfl⟩ := iv
        have gl := g2'.trans (g4.less hd)
        have ntT := Evl.ex_t (gl.hd.trans (hd_same _ _)) hnt
        walk_at "kk"
        refine k_lockD ?_
        walk_at "kk"
        refine ⟨d, _, rfl, ed, fun od => ?_⟩
        walk_at "kk"
        intro t Ht st ft et
        have gl : Gr [d, p] H4 (upd H4 d (.frz od (.dK (exK es)))) := Gr.mut (by simp)
        have gL : Gr [p] H2 (upd H4 d (.frz od (.dK (exK es)))) := (g4.trans gl).less hd
        have gT := gL.trans (Gr.of st)
        walk_at "kk"
        have pt : t ≠ p := fun z => (p5.up (H' := upd H4 d (.frz od (.dK (exK es)))) (upd_ne pd) (Nat.le_refl _)).ne ft z.symm
        have edl : (upd H4 d (.frz od (.dK (exK es)))) d = some (.frz od (.dK (exK es))) := upd_same
        have dlT := dl.up gT
        cases dlT with
        | lst hlD hAll =>
          refine q Ht _ ss es (g2'.trans gT) (((p5.up (H' := upd H4 d (.frz od (.dK (exK es)))) (upd_ne pd) (Nat.le_refl _)).same st).up rfl (by omega)) ⟨t, D, d, _, rfl, Evl.st_of (by rw [hd_out (by simpa using pt)]; exact et), hlD, hAll, od, by rw [hd_out (by simpa using pd.symm)]; exact st _ _ edl⟩ (by omega) m2' (by omega) me
end
set_option Elab.async false
set_option linter.all false
set_option maxRecDepth 100000
set_option maxHeartbeats 4000000
section
variable {P : Program} {w : World} {K : PySem.W.Frag} {mg : Str → Option Value} {base : Heap}
def spLMade (T : Txt K mg) : Sp := fun vs H Q _ => ∃ (v : V) (L W : Str) (ss : List SD) (es : List (Str × Str)), vs = [v] ∧ Raw K H v L W ss es ∧ Good L W ss es ∧ ∀ x xs H', Same H H' → Ste T H' x L W xs ss es → Q x H'
theorem ok_law_made (T : Txt K mg) : FnOk P w K mg base CX0 13 T.a_law_made T.fd_law_made ["raw"] (spLMade T) := by
  refine T.F_law_made.ok sc_law_made (fun vs H Q E h => ?_) (fun cdv A outer s H vs Q E hr h => ?_)
  · obtain ⟨v, L, W, ss, es, rfl, _⟩ := h
    rfl
  · obtain ⟨v, L, W, ss, es, rfl, ⟨a, lp, d, qv, rfl, h1, h2, h3, h4⟩, gd, q⟩ := h
    refine ⟨_, (pss_one (ps_ret (pe_makeK T.mk_Stemmer (ok_Stemmer_init T) (hr.mono (by decide)) (by rfl) T.mc_Stemmer T.kb_Stemmer_init_3_exceptions passL (pa_cons (pe_ix (ixK K) (pv 0) pe_int (fun _ _ => rfl)) (pa_cons (pe_ix (ixK K) (pv 0) pe_int (fun _ _ => rfl)) (pa_cons (pe_lc (own := [("one", 1)]) (by rfl) sc_law_made.nd (listK K (pe_ix (ixK K) (pv 0) pe_int (fun _ _ => rfl))) (blkOk_by (N := ["raw", "one"]) (sc := defScope s_law_made) (by decide +kernel)) (fun _ _ _ _ _ => (pg_name (i := 1) sc_law_made.nd rfl (Or.inl rfl))) (fun _ _ _ _ _ => pts_nil) (fun _ _ _ _ _ => (pe_call (ok_law_made_step T) (hr.mono (by decide)) (by rfl) T.m_law_made_step T.F_law_made_step.kp T.b_law_made_step .nil pass0 (pa_cons (pv 1) pa_nil)))) pa_nil))) (pk_cons (pe_ix (ixK K) (pv 0) pe_int (fun _ _ => rfl)) pk_nil)))), ?_⟩
    have ql : qv.length = ss.length := by rw [h3.len, List.length_map]
    have zl := gd.zs.len
    walk_at "kk"
    refine k_onL h2 (lc_go (walk_L (xs := qv)) (fun D i H' => H D = none ∧ Gr [D] H H' ∧ ∃ vs, H' D = some (.lst vs) ∧ StAll T (Hd [D] H') vs (ss.take i)) (by intro _; rfl) (fun D hD => ?_) (fun D i H' _ iv => ?_) (fun D i x Ha Hb hi iv hy => ?_) (fun D H2 iv => ?_))
    · exact ⟨hD, Gr.new hD, [], upd_same, rfl, fun i s e => by simp at e⟩
    · exact (iv.2.1.less iv.1).same.seq h2
    · obtain ⟨hD, g1, vs, eD, ru⟩ := iv
      obtain ⟨rfl, rfl⟩ := hy
      have s1 := (g1.less hD).same
      have lr : i < ss.length := by omega
      obtain ⟨x, hx, dx⟩ := DpAll.get h3 (i := i) (d := encS ss[i]) (by rw [List.getElem?_map, List.getElem?_eq_getElem lr]; rfl)
      have ex : qv.getD i .non = x := by rw [List.getD_eq_getElem?_getD, hx]; rfl
      rw [ex]
      walk_at "kk"
      refine ⟨x, ss[i], rfl, dx.up s1, gd.st _ (List.getElem_mem lr), fun xr H4 s4 ru4 => ?_⟩
      have e4 := s4 _ _ eD
      have gm : Gr [D] H4 (upd H4 D (.lst (vs ++ [xr]))) := Gr.mut (by simp)
      have tk : ss.take (i + 1) = ss.take i ++ [ss[i]] := by rw [List.take_add_one, List.getElem?_eq_getElem lr]; rfl
      have l1 := ru.1
      rw [List.length_take] at l1
      refine k_add e4 (by omega) ⟨hD, (g1.trans (Gr.of s4)).trans gm, vs ++ [xr], upd_same, ?_⟩
      rw [tk]
      exact ((ru.up (Gr.of s4).hd).app (StAll.one ((ru4.up hd_nil).avoid e4))).up gm.hd
    · obtain ⟨hD, g1, vs, eD, ru⟩ := iv
      have s1 := (g1.less hD).same
      rw [List.take_of_length_le (by omega)] at ru
      walk_at "kk"
      apply k_rv
      · exact rv_ixT (Evl.ex_t s1 h1) (at_int (by decide) rfl)
      walk_at "kk"
      exact stem_rightK T gd rfl (t := false) (Evl.sq_of eD) (ru.up (hd_same _ _)) (.inr ⟨d, rfl, h4.up s1⟩) (fun v H' s' st => q v _ H' (s1.trans s') st)
end
set_option Elab.async false
set_option linter.all false
set_option maxRecDepth 100000
set_option maxHeartbeats 4000000
section
variable {P : Program} {w : World} {K : PySem.W.Frag} {mg : Str → Option Value} {base : Heap}
theorem menu_alph : ∀ s ∈ menu, ∀ c ∈ tl s, c ∈ tl alph := fun s hs c hc =>
  of_decide_eq_true (List.all_eq_true.mp (List.all_eq_true.mp (by decide +kernel : (menu.all fun s => (tl s).all fun c => decide (c ∈ tl alph)) = true) s hs) c hc)
theorem menu_nodup : ∀ s ∈ menu, (tl s).Nodup := by decide +kernel
theorem menu_lets : ∀ s ∈ menu, isLets (.str s) = true := by decide +kernel
theorem menu_okS : ∀ s ∈ menu, okS s := fun s hs c hc => by
  have h := List.all_eq_true.mp (List.all_eq_true.mp (by decide +kernel : (menu.all fun s => (tl s).all fun c => decide (c < 1114112)) = true) s hs) c hc
  exact of_decide_eq_true h
theorem du_nodup : ∀ (l sg : List Nat), l.Nodup → (∀ c ∈ l, c ∉ sg) → (SX.du sg l).length = sg.length + l.length
  | [], sg, _, _ => rfl
  | c :: r, sg, nd, no => by
    have h1 : sg.contains c = false := by
      have := no c List.mem_cons_self
      simpa using this
    have nd' := List.nodup_cons.mp nd
    have h := du_nodup r (c :: sg) nd'.2 (fun d hd hm => by
      rcases List.mem_cons.mp hm with e | e
      · exact nd'.1 (e ▸ hd)
      · exact no d (List.mem_cons_of_mem _ hd) e)
    show (SX.du (if sg.contains c then sg else c :: sg) r).length = _
    rw [h1]
    show (SX.du (c :: sg) r).length = _
    rw [h, List.length_cons, List.length_cons]
    omega
theorem filter_sub : ∀ (l v : List Nat), l.Nodup → v.Sublist l → l.filter (fun c => decide (c ∈ v)) = v
  | [], v, _, h => by
    have := List.sublist_nil.mp h
    subst this
    rfl
  | a :: r, v, nd, h => by
    have nd' := List.nodup_cons.mp nd
    cases h with
    | cons _ h =>
      have na : a ∉ v := fun m => nd'.1 (h.mem m)
      rw [List.filter_cons_of_neg (by simpa using na)]
      exact filter_sub r v nd'.2 h
    | @cons_cons v' _ _ h =>
      have na : a ∉ v' := fun m => nd'.1 (h.mem m)
      rw [List.filter_cons_of_pos (by simp)]
      congr 1
      have e : r.filter (fun c => decide (c ∈ a :: v')) = r.filter (fun c => decide (c ∈ v')) := by
        refine List.filter_congr fun c hc => ?_
        have : c ≠ a := fun z => nd'.1 (z ▸ hc)
        simp [this]
      rw [e]
      exact filter_sub r v' nd'.2 h
theorem conds_len {ss : List SD} {a b : Nat} (h : ∀ s ∈ ss, s.rs.length ≤ a ∧ ∀ r ∈ s.rs, r.cs.length ≤ b) : (condsS ss).length ≤ ss.length * (a * b) := by
  have one : ∀ rs : List RD, (∀ r ∈ rs, r.cs.length ≤ b) → (condsR rs).length ≤ rs.length * b := by
    intro rs
    induction rs with
    | nil => intro _; simp [condsR]
    | cons r rs ih =>
      intro hr
      have i := ih fun q hq => hr q (List.mem_cons_of_mem _ hq)
      have z := hr r List.mem_cons_self
      have e : (condsR (r :: rs)).length = r.cs.length + (condsR rs).length := by simp [condsR]
      rw [e, List.length_cons, Nat.add_mul, Nat.one_mul]
      omega
  induction ss with
  | nil => simp [condsS]
  | cons s ss ih =>
    have i := ih fun q hq => h q (List.mem_cons_of_mem _ hq)
    have z := h s List.mem_cons_self
    have o := one s.rs z.2
    have e : (condsS (s :: ss)).length = (condsR s.rs).length + (condsS ss).length := by simp [condsS]
    have m : s.rs.length * b ≤ a * b := Nat.mul_le_mul_right _ z.1
    rw [e, List.length_cons, Nat.add_mul, Nat.one_mul]
    omega
theorem mem_condsS {ss : List SD} {c : C0} (h : c ∈ condsS ss) : ∃ s ∈ ss, ∃ r ∈ s.rs, ∃ q ∈ r.cs, c = inner q := by
  unfold condsS at h
  obtain ⟨l, hl, hc⟩ := List.mem_flatten.mp h
  obtain ⟨s, hs, rfl⟩ := List.mem_map.mp hl
  unfold condsR at hc
  obtain ⟨l2, hl2, hc⟩ := List.mem_flatten.mp hc
  obtain ⟨r, hr, rfl⟩ := List.mem_map.mp hl2
  obtain ⟨q, hq, rfl⟩ := List.mem_map.mp hc
  exact ⟨s, hs, r, hr, q, hq, rfl⟩
theorem smc_inner {z : Str} {q : Cond} (h : smc z q) : sm0 z (inner q) := by
  cases q <;> exact h
theorem mem_textsOf {r : RD} {t : Str} (h : t ∈ textsOf r) : t = r.e ∨ t = r.p ∨ ∃ q ∈ r.cs, t ∈ texts1 (inner q) := by
  unfold textsOf textsC at h
  rcases List.mem_append.mp h with h | h
  · rcases List.mem_cons.mp h with h | h
    · exact .inl h
    · exact .inr (.inl (List.mem_singleton.mp h))
  · obtain ⟨l, hl, hc⟩ := List.mem_flatten.mp h
    obtain ⟨q, hq, rfl⟩ := List.mem_map.mp hl
    exact .inr (.inr ⟨q, hq, hc⟩)
theorem texts1_sm {z : Str} {c : C0} (h : sm0 z c) : (texts1 c).length ≤ 2 ∧ ∀ t ∈ texts1 c, t.length ≤ 2 ∧ ∀ d ∈ tl t, d ∈ tl z := by
  cases c with
  | ends ts => exact h
  | _ => exact ⟨Nat.zero_le _, fun t ht => nomatch ht⟩
theorem texts_smR {z : Str} {r : RD} (h : smR z r) : (textsOf r).length ≤ 10 ∧ ∀ t ∈ textsOf r, t.length ≤ 2 ∧ ∀ d ∈ tl t, d ∈ tl z := by
  obtain ⟨he, hp, hl, hc⟩ := h
  constructor
  · have one : ∀ cs : List Cond, (∀ c ∈ cs, smc z c) → (textsC cs).length ≤ cs.length * 2 := by
      intro cs
      induction cs with
      | nil => intro _; simp [textsC]
      | cons c cs ih =>
        intro hh
        have i := ih fun q hq => hh q (List.mem_cons_of_mem _ hq)
        have z1 := (texts1_sm (smc_inner (hh c List.mem_cons_self))).1
        have e : (textsC (c :: cs)).length = (texts1 (inner c)).length + (textsC cs).length := by simp [textsC]
        rw [e, List.length_cons, Nat.add_mul]
        omega
    have := one r.cs hc
    unfold textsOf
    rw [List.length_append]
    simp only [List.length_cons, List.length_nil]
    omega
  · intro t ht
    rcases mem_textsOf ht with rfl | rfl | ⟨q, hq, hm⟩
    · exact ⟨he.2.1, he.2.2⟩
    · exact hp
    · exact (texts1_sm (smc_inner (hc q hq))).2 t hm
theorem let_smR {z : Str} {r : RD} (mz : z ∈ menu) (h : smR z r) : Let r := by
  have al := menu_alph z mz
  have oz := menu_okS z mz
  obtain ⟨⟨h1, h2, h3⟩, ⟨h4, h5⟩, h6, h7⟩ := h
  have te : isTextOf (.str r.e) alph = true := List.all_eq_true.mpr fun c hc => decide_eq_true (al c (h3 c hc))
  refine ⟨by omega, by omega, ?_, List.all_eq_true.mpr fun c hc => decide_eq_true (al c (h5 c hc)), by omega, fun c hc => fit_of oz (h7 c hc)⟩
  show (isTextOf (.str r.e) alph && decide (0 < r.e.length)) = true
  rw [te, Bool.true_and]
  exact decide_eq_true (by omega)
theorem lets_smS {z : Str} {top : Nat} {s : SD} (ht : top ≤ 8) (mz : z ∈ menu) (h : smS z top s) : LetS s := by
  obtain ⟨h1, h2, h3, h4⟩ := h
  refine ⟨by omega, fun r hr => let_smR mz (h2 r hr), ?_, ?_, h4⟩
  · rcases h3 with e | e <;> rw [e]
    · intro c hc
      exact of_decide_eq_true (List.all_eq_true.mp (by decide +kernel : ((tl ("longest" : Str)).all fun c => decide (c < 1114112)) = true) c hc)
    · intro c hc
      exact of_decide_eq_true (List.all_eq_true.mp (by decide +kernel : ((tl ("first" : Str)).all fun c => decide (c < 1114112)) = true) c hc)
  · rcases h3 with e | e <;> rw [e] <;> decide +kernel
theorem good_of {z v : Str} {top : Nat} {ss : List SD} {es : List (Str × Str)} (ht : top ≤ 8) (mz : z ∈ menu) (hv : (tl v).Sublist (tl z)) (hl : ss.length ≤ 3) (hs : ∀ s ∈ ss, smS z top s) (he : es.length ≤ 8) (hes : ∀ e ∈ es, smE z e) : Good z v ss es := by
  have zl := menu_len z mz
  have vl : v.length ≤ z.length := by
    rw [len_tl, len_tl]
    exact hv.length_le
  have szr : ∀ s ∈ ss, ∀ r ∈ s.rs, SzR r := fun s h r hr => by
    have a := (hs s h).2.1 r hr
    have b := texts_smR a
    have a3 := a.2.2.1
    exact ⟨by omega, by omega, fun t ht => by have := (b.2 t ht).1; omega⟩
  refine ⟨⟨by omega, (show z.length ≤ 4000 by omega)⟩, menu_lets z mz, ⟨by omega, (show v.length ≤ 4000 by omega)⟩, ?_, ?_, ⟨by omega, fun s h => ?_, szr, ?_, fun c hc => ?_, fun c hc => ?_⟩, fun s h => ?_, fun s h => lets_smS ht mz (hs s h), ⟨by omega, fun p hp => ?_, fun p hp => ?_⟩, fun p hp => ?_⟩
  · show (((tl v).all fun c => decide (c ∈ tl z)) && decide ((nuq v : Int) = (v.length : Int))) = true
    rw [List.all_eq_true.mpr (fun c hc => decide_eq_true (hv.mem hc)), Bool.true_and]
    have e : nuq v = v.length := by
      unfold nuq
      rw [len_tl]
      have := du_nodup (tl v) [] ((menu_nodup z mz).sublist hv) (fun c _ h => nomatch h)
      simpa using this
    rw [e]
    exact decide_eq_true rfl
  · unfold vowelsOf
    rw [filter_sub (tl z) (tl v) (menu_nodup z mz) hv]
    exact ext_tl rfl
  · have := (hs s h).1
    omega
  · have := conds_len (ss := ss) (a := 8) (b := 2) (fun s h => ⟨by have := (hs s h).1; omega, fun r hr => ((hs s h).2.1 r hr).2.2.1⟩)
    omega
  · obtain ⟨s, h, r, hr, q, hq, rfl⟩ := mem_condsS hc
    have a := smc_inner (((hs s h).2.1 r hr).2.2.2 q hq)
    have b := texts1_sm a
    refine ⟨fun x hx => by have := (b.2 x hx).1; omega, by omega, fun x e => ?_⟩
    rw [e] at a
    have := a.1
    omega
  · obtain ⟨s, h, r, hr, q, hq, rfl⟩ := mem_condsS hc
    have a := smc_inner (((hs s h).2.1 r hr).2.2.2 q hq)
    generalize inner q = c at a
    cases c with
    | runs m => exact a.1
    | least m => exact a.1
    | _ => exact Int.le_refl _
  · refine List.all_eq_true.mpr fun r hr => List.all_eq_true.mpr fun t ht => ?_
    have b := (texts_smR ((hs s h).2.1 r hr)).2 t ht
    exact List.all_eq_true.mpr fun c hc => decide_eq_true (b.2 c hc)
  · have := (hes p hp).1.2.1
    omega
  · have := (hes p hp).2.1
    omega
  · have a := hes p hp
    have t1 : isTextOf (.str p.1) z = true := List.all_eq_true.mpr fun c hc => decide_eq_true (a.1.2.2 c hc)
    have t2 : isTextOf (.str p.2) z = true := List.all_eq_true.mpr fun c hc => decide_eq_true (a.2.2 c hc)
    show ((isTextOf (.str p.1) z && decide (0 < p.1.length)) && isTextOf (.str p.2) z) = true
    have a1 := a.1.1
    rw [t1, t2, decide_eq_true (by omega)]
    rfl
end
set_option Elab.async false
set_option linter.all false
set_option maxRecDepth 100000
set_option maxHeartbeats 4000000
section
variable {P : Program} {w : World} {K : PySem.W.Frag} {mg : Str → Option Value} {base : Heap}
def spDbl : Sp := fun vs H Q _ => ∃ x y : Str, vs = [.str x, .str y] ∧ x.length ≤ 50000 ∧ Q (.bl (dbl (tl y) (tl x))) H
theorem dbl_short {vs r : List Nat} (h : r.length < 2) : dbl vs r = false := by
  unfold dbl
  have hl : r.reverse.length < 2 := by rw [List.length_reverse]; exact h
  cases e : r.reverse with
  | nil => rfl
  | cons a t =>
    cases t with
    | nil => rfl
    | cons b t => rw [e] at hl; simp at hl; omega
theorem dbl_long {vs r : List Nat} (h : 2 ≤ r.length) : dbl vs r = (decide (r.getD (r.length - 1) 0 = r.getD (r.length - 2) 0) && decide (r.getD (r.length - 1) 0 ∉ vs)) := by
  unfold dbl
  have hl : r.reverse.length = r.length := List.length_reverse
  cases e : r.reverse with
  | nil => rw [e] at hl; simp at hl; omega
  | cons a t =>
    cases t with
    | nil => rw [e] at hl; simp at hl; omega
    | cons b t =>
      have er : r = t.reverse ++ [b, a] := by
        have := congrArg List.reverse e
        rw [List.reverse_reverse] at this
        rw [this]
        simp
      have h1 : r.getD (r.length - 1) 0 = a := by rw [er]; simp [List.getD_eq_getElem?_getD]
      have h2 : r.getD (r.length - 2) 0 = b := by rw [er]; simp [List.getD_eq_getElem?_getD]
      rw [h1, h2]
theorem last_sign {x : Str} {k : Nat} (h0 : 0 < k) (h : k ≤ x.length) : atI x.cps.toList (-(k : Int)) = some ((tl x).getD ((tl x).length - k) 0) := by
  have hl := len_tl x
  refine at_neg h0 (by show k ≤ (tl x).length; omega) ?_
  show (tl x)[(tl x).length - k]? = _
  rw [List.getD_eq_getElem?_getD, List.getElem?_eq_getElem (by omega)]
  rfl
theorem ok_ends_double (T : Txt K mg) : FnOk P w K mg base CX0 1 T.a_ends_double T.fd_ends_double ["rest", "vowels"] spDbl := by
  refine T.F_ends_double.ok sc_ends_double (fun vs H Q E h => ?_) (fun cdv A outer s H vs Q E hr h => ?_)
  · obtain ⟨x, y, rfl, _⟩ := h
    rfl
  · obtain ⟨x, y, rfl, hx, q⟩ := h
    refine ⟨_, (pss_one (ps_ret (pe_and (pe_cmpR op_geA (pe_callB (lenK K) (by rfl) T.z_len B_len (pa_cons (pv 0) pa_nil)) pe_int (nomark _)) (pe_and (pe_cmpR (eqK K hr) (pe_ix (ixK K) (pv 0) (pe_un un_negA pe_int) (fun _ _ => rfl)) (pe_ix (ixK K) (pv 0) (pe_un un_negA pe_int) (fun _ _ => rfl)) (nomark _)) (pe_one (pe_cmpR op_notInC (pe_ix (ixK K) (pv 0) (pe_un un_negA pe_int) (fun _ _ => rfl)) (pv 1) (by rfl))))))), ?_⟩
    have hl := len_tl x
    walk_at "kk"
    refine k_ite (fun hb => ?_) (fun hb => ?_)
    · have hb := of_decide_eq_true hb
      rw [dbl_long (by omega)] at q
      have s1 := last_sign (x := x) (k := 1) (by omega) (by omega)
      have s2 := last_sign (x := x) (k := 2) (by omega) (by omega)
      walk_at "kk"
      apply k_rv
      · exact rv_ixS (by omega) s1
      walk_at "kk"
      apply k_rv
      · exact rv_ixS (by omega) s2
      walk_at "kk"
      rw [sign_eq]
      refine k_ite (fun hb2 => ?_) (fun hb2 => ?_)
      · rw [hb2, Bool.true_and] at q
        walk_at "kk"
        apply k_rv
        · exact rv_ixS (by omega) s1
        walk_at "kk"
        have e : (!decide ((tl x).getD ((tl x).length - 1) 0 ∈ y.cps.toList)) = decide ((tl x).getD ((tl x).length - 1) 0 ∉ tl y) := by simp [tl]
        rw [e]
        exact q
      · rw [hb2, Bool.false_and] at q
        exact q
    · have hb := of_decide_eq_false hb
      rw [dbl_short (by omega)] at q
      exact q
def spShape : Sp := fun vs H Q _ => ∃ x z y : Str, vs = [.str x, .str z, .str y] ∧ x.length ≤ 50000 ∧ z.length ≤ 50000 ∧ (∀ c ∈ tl z, c = 118 ∨ c = 111) ∧ ∀ H', Same H H' → Q (.bl (suff (tl z) (kinds (tl y) (tl x)))) H'
theorem shape_all {vs : List Nat} : ∀ {s r : List Nat}, s.length = r.length → (∀ c ∈ s, c = 118 ∨ c = 111) → ((r.zip s).all fun p => decide (decide (p.1 ∈ vs) = decide (p.2 = 118))) = decide (kinds vs r = s)
  | [], [], _, _ => rfl
  | [], _ :: _, h, _ => by simp at h
  | _ :: _, [], h, _ => by simp at h
  | c :: s, a :: r, h, hs => by
    have ih := shape_all (vs := vs) (s := s) (r := r) (by simpa using h) (fun d hd => hs d (List.mem_cons_of_mem _ hd))
    rw [List.zip_cons_cons, List.all_cons, ih]
    have e : kinds vs (a :: r) = (if a ∈ vs then 118 else 111) :: kinds vs r := rfl
    rw [e]
    have hc := hs c List.mem_cons_self
    by_cases ha : a ∈ vs
    · rcases hc with hc | hc <;> subst hc <;> simp [ha]
    · rcases hc with hc | hc <;> subst hc <;> simp [ha]
theorem ok_has_shape (T : Txt K mg) : FnOk P w K mg base CX0 1 T.a_has_shape T.fd_has_shape ["rest", "shape", "vowels"] spShape := by
  refine T.F_has_shape.ok sc_has_shape (fun vs H Q E h => ?_) (fun cdv A outer s H vs Q E hr h => ?_)
  · obtain ⟨x, z, y, rfl, _⟩ := h
    rfl
  · obtain ⟨x, z, y, rfl, hx, hz, hs, q⟩ := h
    refine ⟨_, (pss_cons (ps_if (pt_cmpR op_ltA (pe_callB (lenK K) (by rfl) T.z_len B_len (pa_cons (pv 0) pa_nil)) (pe_callB (lenK K) (by rfl) T.z_len B_len (pa_cons (pv 1) pa_nil)) (nomark _)) (pss_one (ps_ret pe_bl)) pss_nil)
      (pss_cons (ps_set (i := 3) sc_has_shape.nd rfl (Or.inl rfl) (pe_slice (slK K) (pv 0) (po_some (pe_op op_subA (pe_callB (lenK K) (by rfl) T.z_len B_len (pa_cons (pv 0) pa_nil)) (pe_callB (lenK K) (by rfl) T.z_len B_len (pa_cons (pv 1) pa_nil)))) po_none))
      (pss_one (ps_ret (pe_callB (allK K) (by rfl) T.z_all B_all (pa_cons (pe_lc (own := [("letter", 4), ("sign", 5)]) (by rfl) sc_has_shape.nd (pi_zipS (by rfl) T.z_zip (pa_cons (pv 3) (pa_cons (pv 1) pa_nil))) (blkOk_by (N := ["rest", "shape", "vowels", "last", "letter", "sign"]) (sc := defScope s_has_shape) (by decide +kernel)) (fun _ _ _ _ _ => (tupleK K (n := 2) rfl (pgs_cons (pg_name (i := 4) sc_has_shape.nd rfl (Or.inl rfl)) (pgs_cons (pg_name (i := 5) sc_has_shape.nd rfl (Or.inl rfl)) pgs_nil)))) (fun _ _ _ _ _ => pts_nil) (fun _ _ _ _ _ => (pe_cmpR (eqK K hr) (pe_cmpR op_inC (pv 4) (pv 2) (by rfl)) (pe_cmpR (eqK K hr) (pv 5) pe_str (nomark _)) (nomark _)))) pa_nil)))))), ?_⟩
    have hl := len_tl x
    have hl2 := len_tl z
    walk_at "kk"
    refine k_ite (fun hb => ?_) (fun hb => ?_)
    · have hb := of_decide_eq_true hb
      have e : suff (tl z) (kinds (tl y) (tl x)) = false := by unfold suff; rw [kinds_length, decide_eq_false (by omega)]; rfl
      rw [e] at q
      walk_at "kk"
      exact q H (Same.refl H)
    · have hb := of_decide_eq_false hb
      walk_at "kk"
      have ek : (x.length : Int) - (z.length : Int) = ((x.length - z.length : Nat) : Int) := by omega
      rw [ek, tl_cut_from (by omega)]
      walk_at "kk"
      have hs2 : (mk ((tl x).drop (x.length - z.length))).length = z.length := by rw [len_mk, List.length_drop]; omega
      refine lc_mapZS (fun c d => .bl (decide (decide (c ∈ tl y) = decide (d = 118)))) (by omega) (by intro _ _; rfl) (fun c d H1 s1 Q2 k2 => ?_) (fun D H' n1 s1 e1 => ?_)
      · walk_at "kk"
        have e : decide (V.bl (decide (c ∈ y.cps.toList)) = V.bl (decide ((⟨#[d]⟩ : Str) = "v"))) = decide (decide (c ∈ tl y) = decide (d = 118)) := by
          have e2 : ("v" : Str) = ⟨#[118]⟩ := by decide +kernel
          rw [e2, sign_eq]
          exact decide_eq_decide.mpr ⟨V.bl.inj, congrArg V.bl⟩
        rw [e]
        exact k2 _ (Same.refl _)
      · walk_at "kk"
        refine k_all (bs := ((tl (mk ((tl x).drop (x.length - z.length)))).zip (tl z)).map fun p => decide (decide (p.1 ∈ tl y) = decide (p.2 = 118))) (Evl.sq_of (by rw [e1, List.map_map]; rfl)) ?_
        rw [List.all_map, tl_mk']
        have e2 := shape_all (vs := tl y) (s := tl z) (r := (tl x).drop (x.length - z.length)) (by rw [List.length_drop]; omega) hs
        have e3 : suff (tl z) (kinds (tl y) (tl x)) = decide (kinds (tl y) ((tl x).drop (x.length - z.length)) = tl z) := by
          unfold suff
          rw [kinds_length, decide_eq_true (by omega), Bool.true_and]
          have : (kinds (tl y) (tl x)).drop ((tl x).length - (tl z).length) = kinds (tl y) ((tl x).drop (x.length - z.length)) := by
            unfold kinds
            rw [List.map_drop, ← hl, ← hl2]
          rw [this]
        rw [e3, ← e2] at q
        exact q H' s1
end
set_option Elab.async false
set_option linter.all false
set_option maxRecDepth 100000
set_option maxHeartbeats 4000000
section
variable {P : Program} {w : World} {K : PySem.W.Frag} {mg : Str → Option Value} {base : Heap}
def sz0 : C0 → Prop
  | .ends ts => ts.length ≤ 50000 ∧ ∀ t ∈ ts, t.length ≤ 50000
  | .shape s => s.length ≤ 50000
  | _ => True
def szc : Cond → Prop
  | .pos c => sz0 c
  | .neg c => sz0 c
def spPM (K : PySem.W.Frag) : Sp := fun vs H Q _ => ∃ (v : V) (c : C0) (x y : Str), vs = [v, .str x, .str y] ∧ Dp K H v (enc0 c) ∧ ok0 c ∧ sz0 c ∧ x.length ≤ 50000 ∧ y.length ≤ 50000 ∧ ∀ H', Same H H' → Q (.bl (met0 (tl y) (tl x) c)) H'
theorem strs_dp {H : Hp} : ∀ {vs : List V} {ts : List Str}, DpAll K H vs (ts.map .str) → vs = ts.map .str
  | [], [], _ => rfl
  | _ :: _, [], h => by cases h
  | [], _ :: _, h => by cases h
  | v :: vs, t :: ts, .cons h r => by
    cases h
    rw [strs_dp r]
    rfl
theorem ok_is_plain_met (T : Txt K mg) : FnOk P w K mg base CX0 2 T.a_is_plain_met T.fd_is_plain_met ["condition", "rest", "vowels"] (spPM K) := by
  refine T.F_is_plain_met.ok sc_is_plain_met (fun vs H Q E h => ?_) (fun cdv A outer s H vs Q E hr h => ?_)
  · obtain ⟨v, c, x, y, rfl, _⟩ := h
    rfl
  · obtain ⟨v, c, x, y, rfl, hc, ho, hz, hx, hy, q⟩ := h
    refine ⟨_, (pss_cons (ps_set (i := 3) sc_is_plain_met.nd rfl (Or.inl rfl) (pe_ix (ixK K) (pv 0) pe_int (fun _ _ => rfl)))
      (pss_cons (ps_if (pt_cmpR (eqK K hr) (pv 3) pe_str (nomark _)) (pss_one (ps_ret (pe_call (ok_has_vowel T) (hr.mono (by decide)) (by rfl) T.m_has_vowel T.F_has_vowel.kp T.b_has_vowel .nil pass0 (pa_cons (pv 1) (pa_cons (pv 2) pa_nil))))) pss_nil)
      (pss_cons (ps_if (pt_cmpR (eqK K hr) (pv 3) pe_str (nomark _)) (pss_one (ps_ret (pe_call (ok_ends_double T) (hr.mono (by decide)) (by rfl) T.m_ends_double T.F_ends_double.kp T.b_ends_double .nil pass0 (pa_cons (pv 1) (pa_cons (pv 2) pa_nil))))) pss_nil)
      (pss_cons (ps_set (i := 4) sc_is_plain_met.nd rfl (Or.inl rfl) (pe_ix (ixK K) (pv 0) pe_int (fun _ _ => rfl)))
      (pss_cons (ps_if (pt_cmpR (eqK K hr) (pv 3) pe_str (nomark _)) (pss_one (ps_ret (pe_cmpR op_geA (pe_call (ok_count_runs T) (hr.mono (by decide)) (by rfl) T.m_count_runs T.F_count_runs.kp T.b_count_runs .nil pass0 (pa_cons (pv 1) (pa_cons (pv 2) pa_nil))) (pv 4) (nomark _)))) pss_nil)
      (pss_cons (ps_if (pt_cmpR (eqK K hr) (pv 3) pe_str (nomark _)) (pss_one (ps_ret (pe_callB (anyK K) (by rfl) T.z_any B_any (pa_cons (pe_lc (own := [("text", 5)]) (by rfl) sc_is_plain_met.nd (tupIK K (pv 4)) (blkOk_by (N := ["condition", "rest", "vowels", "kind", "value", "text"]) (sc := defScope s_is_plain_met) (by decide +kernel)) (fun _ _ _ _ _ => (pg_name (i := 5) sc_is_plain_met.nd rfl (Or.inl rfl))) (fun _ _ _ _ _ => pts_nil) (fun _ _ _ _ _ => (pe_m1 PySem.F.slot_str_endswith PySem.F.type_str_endswith mt_endswA (pv 1) (pv 5)))) pa_nil)))) pss_nil)
      (pss_cons (ps_if (pt_cmpR (eqK K hr) (pv 3) pe_str (nomark _)) (pss_one (ps_ret (pe_cmpR op_geA (pe_callB (lenK K) (by rfl) T.z_len B_len (pa_cons (pv 1) pa_nil)) (pv 4) (nomark _)))) pss_nil)
      (pss_one (ps_ret (pe_call (ok_has_shape T) (hr.mono (by decide)) (by rfl) T.m_has_shape T.F_has_shape.kp T.b_has_shape .nil pass0 (pa_cons (pv 1) (pa_cons (pv 4) (pa_cons (pv 2) pa_nil))))))))))))), ?_⟩
    have hl := len_tl x
    cases c with
    | vowel =>
      cases hc with
      | @tup a xs _ ha hd =>
        cases hd with
        | cons h1 hr1 =>
          cases h1
          cases hr1
          walk_at "kk"
          exact ⟨x, y, rfl, hy, q⟩
    | double =>
      cases hc with
      | @tup a xs _ ha hd =>
        cases hd with
        | cons h1 hr1 =>
          cases h1
          cases hr1
          walk_at "kk"
          exact ⟨x, y, rfl, hx, q H (Same.refl H)⟩
    | runs m =>
      cases hc with
      | @tup a xs _ ha hd =>
        cases hd with
        | cons h1 hr1 =>
          cases h1
          cases hr1 with
          | cons h2 hr2 =>
            cases h2
            cases hr2
            walk_at "kk"
            refine ⟨x, y, rfl, hx, ?_⟩
            walk_at "kk"
            exact q H (Same.refl H)
    | least m =>
      cases hc with
      | @tup a xs _ ha hd =>
        cases hd with
        | cons h1 hr1 =>
          cases h1
          cases hr1 with
          | cons h2 hr2 =>
            cases h2
            cases hr2
            walk_at "kk"
            rw [hl]
            exact q H (Same.refl H)
    | shape z =>
      cases hc with
      | @tup a xs _ ha hd =>
        cases hd with
        | cons h1 hr1 =>
          cases h1
          cases hr1 with
          | cons h2 hr2 =>
            cases h2
            cases hr2
            walk_at "kk"
            exact ⟨x, z, y, rfl, hx, hz, ho, q⟩
    | ends ts =>
      cases hc with
      | @tup a xs _ ha hd =>
        cases hd with
        | cons h1 hr1 =>
          cases h1
          cases hr1 with
          | @cons v2 _ _ _ h2 hr2 =>
            cases h2 with
            | @tup a2 xs2 _ ha2 hd2 =>
              cases hr2
              have e2 := strs_dp hd2
              subst e2
              walk_at "kk"
              refine k_onT ha2 (lc_mapT (fun v => match v with | .str t => .bl (Txt.endswith x t) | _ => .non) ha2 (by rw [List.length_map]; exact hz.1) (by intro _; rfl) (fun v H1 hv s1 Q2 k2 => ?_) (fun D H' n1 s1 e1 => ?_))
              · obtain ⟨t, ht, rfl⟩ := List.mem_map.mp hv
                walk_at "kk"
                exact k2 _ (Same.refl _)
              · walk_at "kk"
                refine k_any (bs := ts.map fun t => suff (tl t) (tl x)) (Evl.sq_of ?_) ?_
                · rw [e1, List.map_map, List.map_map]
                  refine congrArg (fun l => some (HO.lst l)) (List.map_congr_left fun t _ => ?_)
                  show V.bl (Txt.endswith x t) = V.bl (suff (tl t) (tl x))
                  rw [ends_suff]
                · rw [List.any_map]
                  exact q H' s1
def spMet (K : PySem.W.Frag) : Sp := fun vs H Q _ => ∃ (v : V) (c : Cond) (x y : Str), vs = [v, .str x, .str y] ∧ Dp K H v (enc c) ∧ okc c ∧ szc c ∧ x.length ≤ 50000 ∧ y.length ≤ 50000 ∧ ∀ H', Same H H' → Q (.bl (met (tl y) (tl x) c)) H'
theorem ok_is_met (T : Txt K mg) : FnOk P w K mg base CX0 3 T.a_is_met T.fd_is_met ["condition", "rest", "vowels"] (spMet K) := by
  refine T.F_is_met.ok sc_is_met (fun vs H Q E h => ?_) (fun cdv A outer s H vs Q E hr h => ?_)
  · obtain ⟨v, c, x, y, rfl, _⟩ := h
    rfl
  · obtain ⟨v, c, x, y, rfl, hc, ho, hz, hx, hy, q⟩ := h
    refine ⟨_, (pss_cons (ps_if (pt_cmpR (eqK K hr) (pe_ix (ixK K) (pv 0) pe_int (fun _ _ => rfl)) pe_str (nomark _)) (pss_one (ps_ret (pe_not (pe_call (ok_is_plain_met T) (hr.mono (by decide)) (by rfl) T.m_is_plain_met T.F_is_plain_met.kp T.b_is_plain_met .nil pass0 (pa_cons (pe_ix (ixK K) (pv 0) pe_int (fun _ _ => rfl)) (pa_cons (pv 1) (pa_cons (pv 2) pa_nil))))))) pss_nil)
      (pss_one (ps_ret (pe_call (ok_is_plain_met T) (hr.mono (by decide)) (by rfl) T.m_is_plain_met T.F_is_plain_met.kp T.b_is_plain_met .nil pass0 (pa_cons (pv 0) (pa_cons (pv 1) (pa_cons (pv 2) pa_nil))))))), ?_⟩
    cases c with
    | neg c =>
      cases hc with
      | @tup a xs _ ha hd =>
        cases hd with
        | cons h1 hr1 =>
          cases h1
          cases hr1 with
          | @cons v2 _ _ _ h2 hr2 =>
            cases hr2
            walk_at "kk"
            refine ⟨_, c, x, y, rfl, h2, ho, hz, hx, hy, fun H' s1 => ?_⟩
            walk_at "kk"
            exact q H' s1
    | pos c =>
      obtain ⟨a, k, xs, rfl, ha, hk⟩ : ∃ (a : Addr) (k : Str) (xs : List V), v = .ref a ∧ SqT K H a (.str k :: xs) ∧ k ≠ "not" := by
        cases c <;> (cases hc with
          | @tup a xs _ ha hd =>
            cases hd with
            | cons h1 hr1 =>
              cases h1
              exact ⟨a, _, _, rfl, ha, by decide +kernel⟩)
      walk_at "kk"
      apply k_rv
      · exact rv_ixT ha (at_int (by decide) rfl)
      walk_at "kk"
      refine k_ite (fun hb => ?_) (fun hb => ?_)
      · exfalso
        apply hk
        have := of_decide_eq_true hb
        exact this
      · walk_at "kk"
        exact ⟨_, c, x, y, rfl, hc, ho, hz, hx, hy, q⟩
end
set_option Elab.async false
set_option linter.all false
set_option maxRecDepth 100000
set_option maxHeartbeats 4000000
section
variable {P : Program} {w : World} {K : PySem.W.Frag} {mg : Str → Option Value} {base : Heap}
def nums (ns : List Nat) : List V := ns.map fun n : Nat => V.int (n : Int)
theorem lng_app (rs : List RD) : ∀ (a acc b : List Nat), lng rs acc (a ++ b) = lng rs (lng rs acc a) b
  | [], acc, b => by cases acc <;> rfl
  | n :: a, [], b => lng_app rs a [n] b
  | n :: a, c :: acc, b => by
    show (if _ then lng rs [n] (a ++ b) else lng rs (c :: acc) (a ++ b)) = lng rs (if _ then lng rs [n] a else lng rs (c :: acc) a) b
    split
    · exact lng_app rs a [n] b
    · exact lng_app rs a (c :: acc) b
theorem lng_sub (rs : List RD) : ∀ (b acc : List Nat), ∀ n ∈ lng rs acc b, n ∈ acc ∨ n ∈ b
  | [], acc, n, h => .inl (by cases acc <;> exact h)
  | m :: b, [], n, h => by
    rcases lng_sub rs b [m] n h with h | h
    · rw [List.mem_singleton.mp h]
      exact .inr List.mem_cons_self
    · exact .inr (List.mem_cons_of_mem _ h)
  | m :: b, c :: acc, n, h => by
    have h : n ∈ (if (endN rs c).length < (endN rs m).length then lng rs [m] b else lng rs (c :: acc) b) := h
    split at h
    · rcases lng_sub rs b [m] n h with h | h
      · rw [List.mem_singleton.mp h]
        exact .inr List.mem_cons_self
      · exact .inr (List.mem_cons_of_mem _ h)
    · exact (lng_sub rs b (c :: acc) n h).imp id (List.mem_cons_of_mem _)
theorem ru_at {CR : Addr} {H : Hp} {sxs : List V} {rs : List RD} (h : RuAll K CR H sxs rs) {n : Nat} (hn : n < rs.length) : ∃ v, sxs[n]? = some v ∧ RuA K CR H v rs[n] := by
  have hl : n < sxs.length := by rw [h.len]; exact hn
  obtain ⟨r, er, hr⟩ := h.get (i := n) (x := sxs[n]) (List.getElem?_eq_getElem hl)
  rw [List.getElem?_eq_getElem hn] at er
  cases Option.some.inj er
  exact ⟨_, List.getElem?_eq_getElem hl, hr⟩
theorem endN_len {rs : List RD} {n : Nat} (h : n < rs.length) : (endN rs n).length = rs[n].e.length := by
  unfold endN
  rw [List.getElem?_eq_getElem h, len_tl]
  rfl
def spLongS (T : Txt K mg) : Sp := fun vs H Q _ => ∃ (t l : Addr) (sxs : List V) (rs : List RD) (ns : List Nat), vs = [.ref t, .ref l] ∧ SqT K H t sxs ∧ RuAll K T.C_Rule H sxs rs ∧ SqL K H l (nums ns) ∧ (∀ n ∈ ns, n < rs.length) ∧ rs.length ≤ 1000 ∧ ns.length ≤ 1000 ∧ (∀ r ∈ rs, r.e.length ≤ 50000) ∧
  ∀ d H', Same H H' → H' d = some (.lst (nums (lng rs [] ns))) → Q (.ref d) H'
theorem ok_longest_stepping (T : Txt K mg) : FnOk P w K mg base CX0 3 T.a_longest_stepping T.fd_longest_stepping ["rules", "standing"] (spLongS T) := by
  refine T.F_longest_stepping.ok sc_longest_stepping (fun vs H Q E h => ?_) (fun cdv A outer s H vs Q E hr h => ?_)
  · obtain ⟨t, l, sxs, rs, ns, rfl, _⟩ := h
    rfl
  · obtain ⟨t, l, sxs, rs, ns, rfl, ht, hru, hl, hn, len, ln, hz, q⟩ := h
    refine ⟨_, (pss_cons (ps_set (i := 2) sc_longest_stepping.nd rfl (Or.inl rfl) (pe_lst pa_nil))
      (pss_cons (ps_for PassesOwn.never rfl (listK K (pv 1)) (pg_name (i := 3) sc_longest_stepping.nd rfl (Or.inl rfl)) (pss_one (ps_if (PW.pt (pw_or (pt_not (pt_truth (pv 2) (by intro _; rfl))) (pw_or1 (pt_cmpR op_gtA (pe_callB (lenK K) (by rfl) T.z_len B_len (pa_cons (pe_prop (pe_ix (ixK K) (pv 0) (pv 3) (fun _ _ => rfl)) T.cl_Rule T.pp_Rule_ending (ok_Rule_ending T) (hr.mono (by decide)) T.bM_Rule_ending .nil pass0 (by rfl)) pa_nil)) (pe_callB (lenK K) (by rfl) T.z_len B_len (pa_cons (pe_prop (pe_ix (ixK K) (pv 0) (pe_ix (ixK K) (pv 2) pe_int (fun _ _ => rfl)) (fun _ _ => rfl)) T.cl_Rule T.pp_Rule_ending (ok_Rule_ending T) (hr.mono (by decide)) T.bM_Rule_ending .nil pass0 (by rfl)) pa_nil)) (nomark _))))) (pss_one (ps_set (i := 2) sc_longest_stepping.nd rfl (Or.inl rfl) (pe_lst (pa_cons (pv 3) pa_nil)))) pss_nil)))
      (pss_one (ps_ret (pv 2))))), ?_⟩
    walk_at "kk"
    intro d H1 s1 f1 e1
    walk_at "kk"
    refine k_onL (s1.seq hl) (for_go (walk_L (xs := nums ns)) (fun i σ H' => Same H H' ∧ ∃ d y3, σ = [some (.ref t), some (.ref l), some (.ref d), y3] ∧ H' d = some (.lst (nums (lng rs [] (ns.take i))))) ⟨s1, d, none, rfl, by rw [e1]; rfl⟩ (fun i σ H' _ iv => iv.1.seq hl) (fun i x σ Ha Hb hi iv hy => ?_) (fun σ H2 iv => ?_))
    · obtain ⟨s2, d2, y3, rfl, e2⟩ := iv
      obtain ⟨rfl, rfl⟩ := hy
      have hi' : i < ns.length := by simpa [nums] using hi
      have gx : (nums ns).getD i .non = .int (ns[i] : Int) := by
        rw [List.getD_eq_getElem?_getD]
        unfold nums
        rw [List.getElem?_map, List.getElem?_eq_getElem hi']
        rfl
      rw [gx]
      have tk : ns.take (i + 1) = ns.take i ++ [ns[i]] := by rw [List.take_add_one, List.getElem?_eq_getElem hi']; rfl
      have hm := hn _ (List.getElem_mem hi')
      walk_at "kk"
      have mem : ∀ a ∈ lng rs [] (ns.take i), a < rs.length := fun a ha => by
        rcases lng_sub rs (ns.take i) [] a ha with h | h
        · cases h
        · exact hn a (List.mem_of_mem_take h)
      have st : lng rs [] (ns.take (i + 1)) = lng rs (lng rs [] (ns.take i)) [ns[i]] := by rw [tk, lng_app]
      rw [st]
      generalize lng rs [] (ns.take i) = L at e2 mem
      generalize ns[i] = n at hm
      cases L with
      | nil =>
        refine ⟨false, .inl ⟨[], Evl.sq_of e2, rfl⟩, ?_⟩
        walk_at "kk"
        intro d3 H3 s3 f3 e3
        walk_at "kk"
        exact ⟨s2.trans s3, _, _, rfl, e3⟩
      | cons b acc =>
        have hb := mem b List.mem_cons_self
        refine ⟨true, .inl ⟨_, Evl.sq_of e2, rfl⟩, ?_⟩
        obtain ⟨v1, x1, ru1⟩ := ru_at (hru.up s2) hm
        obtain ⟨v2, x2, ru2⟩ := ru_at (hru.up s2) hb
        have z1 := hz _ (List.getElem_mem hm)
        have z2 := hz _ (List.getElem_mem hb)
        walk_at "kk"
        apply k_rv
        · exact rv_ixT (Evl.ex_t s2 ht) (at_int (by omega) (by simpa using x1))
        walk_at "kk"
        refine ru_ending ru1 ?_
        walk_at "kk"
        apply k_rv
        · exact rv_ixL (v := .int (b : Int)) (Evl.sq_of e2) (at_int (by decide) rfl)
        walk_at "kk"
        apply k_rv
        · exact rv_ixT (Evl.ex_t s2 ht) (at_int (by omega) (by simpa using x2))
        walk_at "kk"
        refine ru_ending ru2 ?_
        walk_at "kk"
        have e5 : lng rs (b :: acc) [n] = if rs[b].e.length < rs[n].e.length then [n] else b :: acc := by
          show (if (endN rs b).length < (endN rs n).length then lng rs [n] [] else lng rs (b :: acc) []) = _
          rw [endN_len hb, endN_len hm]
          rfl
        rw [e5]
        refine k_ite (fun hb2 => ?_) (fun hb2 => ?_)
        · have h := of_decide_eq_true hb2
          walk_at "kk"
          intro d3 H3 s3 f3 e3
          walk_at "kk"
          exact ⟨s2.trans s3, _, _, rfl, by rw [if_pos (by omega)]; exact e3⟩
        · have h := of_decide_eq_false hb2
          walk_at "kk"
          exact ⟨s2, _, _, rfl, by rw [if_neg (by omega)]; exact e2⟩
    · obtain ⟨s2, d2, y3, rfl, e2⟩ := iv
      rw [List.take_of_length_le (by unfold nums; rw [List.length_map]; exact Nat.le_refl _)] at e2
      walk_at "kk"
      exact q d2 _ s2 e2
def spTryX (T : Txt K mg) : Sp := fun vs H Q _ => ∃ (v : V) (s : SD) (x : Str), vs = [v, .str x] ∧ StA K T.C_Step T.C_Rule H v s ∧ s.rs.length ≤ 1000 ∧ (∀ r ∈ s.rs, r.e.length ≤ 50000) ∧ x.length ≤ 50000 ∧ ∀ d H', Same H H' → H' d = some (.lst (nums (tries s (tl x)))) → Q (.ref d) H'
theorem ok_rules_to_try (T : Txt K mg) : FnOk P w K mg base CX0 4 T.a_rules_to_try T.fd_rules_to_try ["step", "text"] (spTryX T) := by
  refine T.F_rules_to_try.ok sc_rules_to_try (fun vs H Q E h => ?_) (fun cdv A outer s H vs Q E hr h => ?_)
  · obtain ⟨v, s, x, rfl, _⟩ := h
    rfl
  · obtain ⟨v, sd, x, rfl, hv, len, hz, hx, q⟩ := h
    refine ⟨_, (pss_cons (ps_setLc (i := 2) (own := [("number", 3), ("rule", 4)]) (by rfl) sc_rules_to_try.nd rfl rfl (sw_true rfl rfl rfl (by decide +kernel)) (enumK K (by rfl) T.z_enumerate (pa_cons (pe_prop (pv 0) T.cl_Step T.pp_Step_rules (ok_Step_rules T) (hr.mono (by decide)) T.bM_Step_rules .nil pass0 (by rfl)) pa_nil)) (blkOk_by (N := ["step", "text", "standing", "number", "rule"]) (sc := defScope s_rules_to_try) (by decide +kernel)) (fun _ _ _ _ _ => (tupleK K (n := 2) rfl (pgs_cons (pg_name (i := 3) sc_rules_to_try.nd rfl (Or.inl rfl)) (pgs_cons (pg_name (i := 4) sc_rules_to_try.nd rfl (Or.inl rfl)) pgs_nil)))) (fun _ _ _ _ _ => (pts_one (pt_val (pe_m1 PySem.F.slot_str_endswith PySem.F.type_str_endswith mt_endswA (pv 1) (pe_prop (pv 4) T.cl_Rule T.pp_Rule_ending (ok_Rule_ending T) (hr.mono (by decide)) T.bM_Rule_ending .nil pass0 (by rfl)))))) (fun _ _ _ _ _ => (pv 3)))
      (pss_cons (ps_if (pt_cmpR (eqK K hr) (pe_prop (pv 0) T.cl_Step T.pp_Step_mode (ok_Step_mode T) (hr.mono (by decide)) T.bM_Step_mode .nil pass0 (by rfl)) pe_str (nomark _)) (pss_one (ps_ret (pv 2))) pss_nil)
      (pss_one (ps_ret (pe_call (ok_longest_stepping T) (hr.mono (by decide)) (by rfl) T.m_longest_stepping T.F_longest_stepping.kp T.b_longest_stepping .nil pass0 (pa_cons (pe_prop (pv 0) T.cl_Step T.pp_Step_rules (ok_Step_rules T) (hr.mono (by decide)) T.bM_Step_rules .nil pass0 (by rfl)) (pa_cons (pv 2) pa_nil))))))), ?_⟩
    obtain ⟨sa, sdx, sfs, stt, sxs, rfl, h1, h2, h3, h4, h5⟩ := hv
    have xl := h5.len
    walk_at "kk"
    apply k_lcEB
    walk_at "kk"
    refine st_rules (CR := T.C_Rule) (s := sd) rfl h1 h2 ?_
    walk_at "kk"
    refine k_onEB (b := true) h4 (lc_goG (walk_eB (xs := sxs)) (fun D i H' => H D = none ∧ Gr [D] H H' ∧ H' D = some (.lst (nums ((List.range i).filter fun n => suff (endN sd.rs n) (tl x))))) (fun D hD => ?_) (fun D i H' _ iv => ?_) (fun D i y Ha Hb hi iv hy => ?_) (fun D H2 iv => ?_))
    · exact ⟨hD, Gr.new hD, upd_same⟩
    · exact Evl.ex_t (iv.2.1.less iv.1).same h4
    · obtain ⟨hD, g, eD⟩ := iv
      obtain ⟨p, rfl, hp, rfl⟩ := hy
      have s3 := (g.less hD).same.trans (same_new (o := .tup [.int (i : Nat), sxs.getD i .non]) hp)
      refine k_unp2 (Evl.st_of upd_same) ?_
      refine ⟨rfl, ?_⟩
      have hi' : i < sd.rs.length := by omega
      obtain ⟨v1, x1, hr1⟩ := ru_at (h5.up s3) hi'
      have ev : sxs.getD i .non = v1 := by rw [List.getD_eq_getElem?_getD, x1]; rfl
      have ee : endN sd.rs i = tl sd.rs[i].e := by
        unfold endN
        rw [List.getElem?_eq_getElem hi']
        rfl
      have z1 := hz _ (List.getElem_mem hi')
      have fl : ((List.range i).filter fun n => suff (endN sd.rs n) (tl x)).length ≤ 1000 := by
        have h := List.length_filter_le (fun n => suff (endN sd.rs n) (tl x)) (List.range i)
        rw [List.length_range] at h
        omega
      rw [ev] at hr1 s3 ⊢
      walk_at "kk"
      refine ru_ending hr1 ?_
      walk_at "kk"
      rw [ends_suff]
      have eD2 := (same_new (o := .tup [.int (i : Nat), v1]) hp) _ _ eD
      have g2 := g.trans (Gr.of (same_new (o := .tup [.int (i : Nat), v1]) hp))
      refine k_ite (fun hb => ?_) (fun hb => ?_)
      · walk_at "kk"
        refine k_add eD2 (by unfold nums; rw [List.length_map]; omega) ⟨hD, g2.trans (Gr.mut (by simp)), ?_⟩
        rw [upd_same, List.range_succ, List.filter_append]
        have e1 : [i].filter (fun n => suff (endN sd.rs n) (tl x)) = [i] := by rw [List.filter_cons_of_pos (by rw [ee]; exact hb)]; rfl
        rw [e1]
        unfold nums
        rw [List.map_append]
        rfl
      · refine ⟨hD, g2, ?_⟩
        rw [eD2, List.range_succ, List.filter_append]
        have e1 : [i].filter (fun n => suff (endN sd.rs n) (tl x)) = [] := by rw [List.filter_cons_of_neg (by rw [ee]; simpa using hb)]; rfl
        rw [e1, List.append_nil]
    · obtain ⟨hD, g, eD⟩ := iv
      have s2 := (g.less hD).same
      rw [xl] at eD
      have eD : H2 D = some (.lst (nums (stnd sd.rs (tl x)))) := eD
      walk_at "k"
      walk_at "k"
      walk_at "kk"
      refine ⟨sa, sdx, sfs, rfl, s2 _ _ h1, sa, sdx, sfs, .str sd.mode, rfl, s2 _ _ h1, h3, ?_⟩
      walk_at "kk"
      refine k_ite (fun hb => ?_) (fun hb => ?_)
      · have hm := of_decide_eq_true hb
        walk_at "kk"
        exact q D _ s2 (by unfold tries; rw [if_pos hm]; exact eD)
      · have hm := of_decide_eq_false hb
        walk_at "kk"
        refine st_rules (CR := T.C_Rule) (s := sd) rfl (s2 _ _ h1) h2 ?_
        walk_at "kk"
        have sn : ∀ n ∈ stnd sd.rs (tl x), n < sd.rs.length := fun n hn => List.mem_range.mp (List.mem_filter.mp hn).1
        have sl : (stnd sd.rs (tl x)).length ≤ 1000 := by
          have h := List.length_filter_le (fun n => suff (endN sd.rs n) (tl x)) (List.range sd.rs.length)
          rw [List.length_range] at h
          exact Nat.le_trans h len
        exact ⟨_, D, sxs, sd.rs, _, rfl, Evl.ex_t s2 h4, h5.up s2, Evl.sq_of eD, sn, len, sl, hz, fun d H' s e => q d _ (s2.trans s) (by unfold tries; rw [if_neg hm]; exact e)⟩
end
set_option Elab.async false
set_option linter.all false
set_option maxRecDepth 100000
set_option maxHeartbeats 4000000
section
variable {P : Program} {w : World} {K : PySem.W.Frag} {mg : Str → Option Value} {base : Heap}
def optV : Option Nat → V
  | some n => .int (n : Int)
  | none => .non
structure SzX (s : SD) : Prop where
  len : s.rs.length ≤ 1000
  e : ∀ r ∈ s.rs, r.e.length ≤ 50000
  p : ∀ r ∈ s.rs, r.p.length ≤ 50000
  c : ∀ r ∈ s.rs, r.cs.length ≤ 1000
  ok : ∀ r ∈ s.rs, ∀ c ∈ r.cs, okc c ∧ szc c
theorem tries_mem {s : SD} {z : List Nat} {n : Nat} (h : n ∈ tries s z) : n < s.rs.length ∧ suff (endN s.rs n) z = true := by
  have st : n ∈ stnd s.rs z := by
    unfold tries at h
    split at h
    · exact h
    · rcases lng_sub _ _ _ _ h with h | h
      · cases h
      · exact h
  have h := List.mem_filter.mp st
  exact ⟨List.mem_range.mp h.1, h.2⟩
theorem suff_le {e z : List Nat} (h : suff e z = true) : e.length ≤ z.length := of_decide_eq_true (Bool.and_eq_true_iff.mp h).1
theorem find_none {p : Nat → Bool} : ∀ {l : List Nat}, (∀ n ∈ l, p n = false) → l.find? p = none := fun h => List.find?_eq_none.mpr fun n hn => by rw [h n hn]; simp
theorem find_at {p : Nat → Bool} {l : List Nat} {i : Nat} (hi : i < l.length) (h : ∀ n ∈ l.take i, p n = false) (hp : p l[i] = true) : l.find? p = some l[i] := by
  have e : l = l.take i ++ (l[i] :: l.drop (i + 1)) := by rw [← List.drop_eq_getElem_cons hi, List.take_append_drop]
  conv => lhs; rw [e]
  rw [List.find?_append, find_none h, List.find?_cons, hp]
  rfl
def spStepX (T : Txt K mg) : Sp := fun vs H Q _ => ∃ (v : V) (s : SD) (x y : Str), vs = [v, .str x, .str y] ∧ StA K T.C_Step T.C_Rule H v s ∧ SzX s ∧ x.length ≤ 50000 ∧ y.length ≤ 50000 ∧
  ∀ d H', Same H H' → H' d = some (.tup [optV (stepF (tl y) s (tl x)).1, .str (mk (stepF (tl y) s (tl x)).2)]) → Q (.ref d) H'
theorem ok_step_at (T : Txt K mg) : FnOk P w K mg base CX0 5 T.a_step_at T.fd_step_at ["step", "text", "vowels"] (spStepX T) := by
  refine T.F_step_at.ok sc_step_at (fun vs H Q E h => ?_) (fun cdv A outer s H vs Q E hr h => ?_)
  · obtain ⟨v, s, x, y, rfl, _⟩ := h
    rfl
  · obtain ⟨v, sd, x, y, rfl, hv, sz, hx, hy, q⟩ := h
    refine ⟨_, (pss_cons (ps_for PassesOwn.never rfl (listK K (pe_call (ok_rules_to_try T) (hr.mono (by decide)) (by rfl) T.m_rules_to_try T.F_rules_to_try.kp T.b_rules_to_try .nil pass0 (pa_cons (pv 0) (pa_cons (pv 1) pa_nil)))) (pg_name (i := 3) sc_step_at.nd rfl (Or.inl rfl)) (pss_cons (ps_set (i := 4) sc_step_at.nd rfl (Or.inl rfl) (pe_ix (ixK K) (pe_prop (pv 0) T.cl_Step T.pp_Step_rules (ok_Step_rules T) (hr.mono (by decide)) T.bM_Step_rules .nil pass0 (by rfl)) (pv 3) (fun _ _ => rfl)))
      (pss_cons (ps_set (i := 5) sc_step_at.nd rfl (Or.inr rfl) (pe_slice (slK K) (pv 1) po_none (po_some (pe_op op_subA (pe_callB (lenK K) (by rfl) T.z_len B_len (pa_cons (pv 1) pa_nil)) (pe_callB (lenK K) (by rfl) T.z_len B_len (pa_cons (pe_prop (pv 4) T.cl_Rule T.pp_Rule_ending (ok_Rule_ending T) (hr.mono (by decide)) T.bM_Rule_ending .nil pass0 (by rfl)) pa_nil))))))
      (pss_one (ps_if (pt_val (pe_callB (allK K) (by rfl) T.z_all B_all (pa_cons (pe_lc (own := [("condition", 6)]) (by rfl) sc_step_at.nd (tupIK K (pe_prop (pv 4) T.cl_Rule T.pp_Rule_conditions (ok_Rule_conditions T) (hr.mono (by decide)) T.bM_Rule_conditions .nil pass0 (by rfl))) (blkOk_by (N := ["step", "text", "vowels", "number", "rule", "rest", "condition"]) (sc := defScope s_step_at) (by decide +kernel)) (fun _ _ _ _ _ => (pg_name (i := 6) sc_step_at.nd rfl (Or.inl rfl))) (fun _ _ _ _ _ => pts_nil) (fun _ _ _ _ _ => (pe_call (ok_is_met T) (hr.mono (by decide)) (by rfl) T.m_is_met T.F_is_met.kp T.b_is_met .nil pass0 (pa_cons (pv 6) (pa_cons (pv 5) (pa_cons (pv 2) pa_nil)))))) pa_nil))) (pss_one (ps_ret (pe_tup (pa_cons (pv 3) (pa_cons (pe_op (addK K) (pv 5) (pe_prop (pv 4) T.cl_Rule T.pp_Rule_put (ok_Rule_put T) (hr.mono (by decide)) T.bM_Rule_put .nil pass0 (by rfl))) pa_nil))))) pss_nil)))))
      (pss_one (ps_ret (pe_tup (pa_cons pe_non (pa_cons (pv 1) pa_nil)))))), ?_⟩
    walk_at "kk"
    refine ⟨v, sd, x, rfl, hv, sz.len, sz.e, hx, fun l H1 s1 e1 => ?_⟩
    obtain ⟨sa, sdx, sfs, stt, sxs, rfl, h1, h2, h3, h4, h5⟩ := hv
    have tm := fun n (h : n ∈ tries sd (tl x)) => tries_mem h
    generalize eT : tries sd (tl x) = ts at e1 tm
    refine k_onL (Evl.sq_of e1) (for_go (walk_L (xs := nums ts)) (fun i σ H' => Same H1 H' ∧ (∀ n ∈ ts.take i, allMet (tl y) sd.rs n (tl x) = false) ∧ ∃ y3 y4 y5, σ = [some (.ref sa), some (.str x), some (.str y), y3, y4, y5, none]) ⟨Same.refl _, (fun n h => by simp at h), none, none, none, rfl⟩ (fun i σ H' _ iv => Evl.sq_of (iv.1 _ _ e1)) (fun i u σ Ha Hb hi iv hy => ?_) (fun σ H2 iv => ?_))
    · obtain ⟨s2, nom, y3, y4, y5, rfl⟩ := iv
      obtain ⟨rfl, rfl⟩ := hy
      have hi' : i < ts.length := by simpa [nums] using hi
      have gx : (nums ts).getD i .non = .int (ts[i] : Int) := by
        rw [List.getD_eq_getElem?_getD]
        unfold nums
        rw [List.getElem?_map, List.getElem?_eq_getElem hi']
        rfl
      rw [gx]
      obtain ⟨hn, hsf⟩ := tm _ (List.getElem_mem hi')
      have u2 := s1.trans s2
      have fnd := fun h => find_at (p := fun n => allMet (tl y) sd.rs n (tl x)) hi' nom h
      have tk : ts.take (i + 1) = ts.take i ++ [ts[i]] := by rw [List.take_add_one, List.getElem?_eq_getElem hi']; rfl
      rw [tk]
      generalize ts[i] = n at hn hsf fnd
      obtain ⟨v1, x1, ru1⟩ := ru_at (h5.up u2) hn
      have er : sd.rs[n]? = some sd.rs[n] := List.getElem?_eq_getElem hn
      have mr := List.getElem_mem hn
      have zr := sz.e _ mr
      have zp := sz.p _ mr
      have zc := sz.c _ mr
      have okc' := sz.ok _ mr
      have el := endN_len hn
      have le := suff_le hsf
      rw [el, ← len_tl] at le
      walk_at "kk"
      refine st_rules (CR := T.C_Rule) (s := sd) rfl (u2 _ _ h1) h2 ?_
      walk_at "kk"
      apply k_rv
      · exact rv_ixT (Evl.ex_t u2 h4) (at_int (by omega) (by simpa using x1))
      walk_at "kk"
      refine ru_ending ru1 ?_
      walk_at "kk"
      have ek : (x.length : Int) - (sd.rs[n].e.length : Int) = ((x.length - sd.rs[n].e.length : Nat) : Int) := by omega
      rw [ek, tl_cut_to (by omega)]
      have lR : (mk ((tl x).take (x.length - sd.rs[n].e.length))).length ≤ 50000 := by
        rw [len_tl, tl_mk', List.length_take]
        omega
      have am : allMet (tl y) sd.rs n (tl x) = sd.rs[n].cs.all fun c => met (tl y) (tl (mk ((tl x).take (x.length - sd.rs[n].e.length)))) c := by
        unfold allMet
        rw [er]
        show (sd.rs[n].cs.all fun c => met (tl y) ((tl x).take ((tl x).length - (tl sd.rs[n].e).length)) c) = _
        rw [← len_tl, ← len_tl]
        rfl
      have sf : stepF (tl y) sd (tl x) = match (tries sd (tl x)).find? fun n => allMet (tl y) sd.rs n (tl x) with
        | some n => (some n, (tl x).take ((tl x).length - (endN sd.rs n).length) ++ ((sd.rs[n]?).map fun r => tl r.p).getD [])
        | none => (none, tl x) := rfl
      generalize eR : mk ((tl x).take (x.length - sd.rs[n].e.length)) = R at lR am
      generalize sd.rs[n] = r at *
      walk_at "kk"
      refine ru_conds ru1 (fun tc xc htc hdc => ?_)
      have xcl : xc.length = r.cs.length := by rw [hdc.len, List.length_map]
      refine k_onT htc (lc_map (fun i => xc.getD i .non) walk_T (fun i => .bl (met (tl y) (tl R) (r.cs.getD i (.pos .vowel)))) (by omega) (fun H' s => Evl.ex_t s htc) (by intro _; rfl) (fun j Hx hj sx Q2 k2 => ?_) (fun D H3 n3 s3 e3 => ?_))
      · have lj : j < r.cs.length := by omega
        obtain ⟨c, hc, dc⟩ := DpAll.get hdc (i := j) (d := enc r.cs[j]) (by rw [List.getElem?_map, List.getElem?_eq_getElem lj]; rfl)
        have ec : xc.getD j .non = c := by rw [List.getD_eq_getElem?_getD, hc]; rfl
        have ed : r.cs.getD j (.pos .vowel) = r.cs[j] := by rw [List.getD_eq_getElem?_getD, List.getElem?_eq_getElem lj]; rfl
        rw [ec]
        rw [ed] at k2
        obtain ⟨o1, o2⟩ := okc' _ (List.getElem_mem lj)
        walk_at "kk"
        exact ⟨c, r.cs[j], R, y, rfl, dc.up sx, o1, o2, lR, hy, fun H' s => k2 H' s⟩
      · walk_at "kk"
        have eb : (List.range xc.length).map (fun i => V.bl (met (tl y) (tl R) (r.cs.getD i (.pos .vowel)))) = (r.cs.map (met (tl y) (tl R))).map V.bl := by
          rw [xcl, L2.range_getD r.cs (.pos .vowel) (fun c => V.bl (met (tl y) (tl R) c)), List.map_map]
          rfl
        refine k_all (bs := r.cs.map (met (tl y) (tl R))) (Evl.sq_of (by rw [e3, eb])) ?_
        rw [List.all_map]
        have am2 : allMet (tl y) sd.rs n (tl x) = r.cs.all (id ∘ met (tl y) (tl R)) := am
        rw [← am2]
        have u3 := u2.trans s3
        cases hb : allMet (tl y) sd.rs n (tl x) with
        | true =>
          walk_at "kk"
          refine ru_put (ru1.up s3) ?_
          walk_at "kk"
          intro t H4 s4 f4 e4
          walk_at "kk"
          refine q t _ (u3.trans s4) ?_
          have es : stepF (tl y) sd (tl x) = (some n, (tl x).take (x.length - r.e.length) ++ tl r.p) := by
            rw [sf, eT, fnd hb]
            show (some n, (tl x).take ((tl x).length - (endN sd.rs n).length) ++ ((sd.rs[n]?).map fun r => tl r.p).getD []) = _
            rw [el, er, ← len_tl]
            rfl
          have ea : R ++ r.p = mk ((tl x).take (x.length - r.e.length) ++ tl r.p) := by
            refine ext_tl ?_
            show (R.cps ++ r.p.cps).toList = _
            rw [Array.toList_append, ← eR]
            rfl
          rw [es, e4, ea]
          rfl
        | false =>
          walk_at "kk"
          refine ⟨s2.trans s3, fun m hm => ?_, _, _, _, rfl⟩
          rcases List.mem_append.mp hm with h | h
          · exact nom m h
          · rw [List.mem_singleton.mp h]
            exact hb
    · obtain ⟨s2, nom, y3, y4, y5, rfl⟩ := iv
      walk_at "kk"
      intro t H3 s3 f3 e3
      walk_at "kk"
      refine q t _ (s1.trans (s2.trans s3)) ?_
      have es : stepF (tl y) sd (tl x) = (none, tl x) := by
        unfold stepF
        rw [eT, find_none (fun m hm => nom m (by rw [List.take_of_length_le (by unfold nums; rw [List.length_map]; exact Nat.le_refl _)]; exact hm))]
      rw [es, e3]
      rfl
end
set_option Elab.async false
set_option linter.all false
set_option maxRecDepth 100000
set_option maxHeartbeats 4000000
section
variable {P : Program} {w : World} {K : PySem.W.Frag} {mg : Str → Option Value} {base : Heap}
theorem stemF_take (vs : List Nat) : ∀ (ss : List SD) (i : Nat) (s : SD) (z : List Nat), ss[i]? = some s → stemF vs (ss.take (i + 1)) z = (stepF vs s (stemF vs (ss.take i) z)).2
  | [], _, _, _, h => by simp at h
  | t :: ss, 0, s, z, h => by
    cases Option.some.inj h
    rfl
  | t :: ss, i + 1, s, z, h => stemF_take vs ss i s (stepF vs t z).2 h
theorem stepF_len {vs : List Nat} {s : SD} {z : List Nat} {M : Nat} (h : ∀ r ∈ s.rs, r.p.length ≤ M) : (stepF vs s z).2.length ≤ z.length + M := by
  unfold stepF
  cases e : (tries s z).find? fun n => allMet vs s.rs n z with
  | none => exact Nat.le_add_right _ _
  | some n =>
    show (z.take _ ++ ((s.rs[n]?).map fun r => tl r.p).getD []).length ≤ _
    rw [List.length_append, List.length_take]
    cases q : s.rs[n]? with
    | none =>
      show _ + 0 ≤ _
      omega
    | some r =>
      have := h r (List.mem_of_getElem? q)
      rw [len_tl] at this
      show _ + (tl r.p).length ≤ _
      omega
theorem stemF_len {vs : List Nat} {M : Nat} : ∀ (ss : List SD) (z : List Nat), (∀ s ∈ ss, ∀ r ∈ s.rs, r.p.length ≤ M) → (stemF vs ss z).length ≤ z.length + ss.length * M
  | [], z, _ => by
    show z.length ≤ _
    omega
  | s :: ss, z, h => by
    have h1 := stepF_len (vs := vs) (z := z) (h s List.mem_cons_self)
    have h2 := stemF_len ss (stepF vs s z).2 (vs := vs) (fun t ht => h t (List.mem_cons_of_mem _ ht))
    show (stemF vs ss (stepF vs s z).2).length ≤ _
    rw [List.length_cons, Nat.add_mul, Nat.one_mul]
    omega
/-- sizes of steps that a text goes through -/
structure SzW (ss : List SD) : Prop where
  sx : ∀ s ∈ ss, SzX s
  sp : ∀ s ∈ ss, ∀ r ∈ s.rs, r.p.length ≤ 50
  ln : ss.length ≤ 100
def spStemX (T : Txt K mg) : Sp := fun vs H Q E => ∃ (v : V) (x L W : Str) (xs : List V) (ss : List SD) (es : List (Str × Str)), vs = [v, .str x] ∧ Ste T H v L W xs ss es ∧ isTextOf (.str x) L = true ∧ x.length ≤ 40000 ∧ W.length ≤ 50000 ∧ SzW ss ∧ valV (exK es) (.inr x) = none ∧
  ∀ H', Same H H' → Q (.str (mk (stemF (tl W) ss (tl x)))) H'
theorem ok_Stemmer_stem (T : Txt K mg) : FnOk P w K mg base (L2.CX P w) 6 T.aM_Stemmer_stem T.fdM_Stemmer_stem ["self", "word"] (spStemX T) := by
  refine T.FM_Stemmer_stem.okX sc_Stemmer_stem (fun vs H Q E h => ?_) (fun cdv A outer s H vs Q E hr h => ?_)
  · obtain ⟨v, x, L, W, xs, ss, es, rfl, _⟩ := h
    rfl
  · obtain ⟨v, x, L, W, xs, ss, es, rfl, ⟨a, dx, t, de, b, rfl, h1, h2, h3, h4, h5⟩, hx, lx, lW, zw, hex, q⟩ := h
    refine ⟨_, (pss_cons (ps_expr (pe_call (ok_check_text T) (hr.mono (by decide)) (by rfl) T.m_check_text T.F_check_text.kp T.b_check_text .nil (passes_call (takes_of rfl rfl rfl rfl) (fun _ _ _ _ h => h)) (pa_cons (pv 1) (pa_cons (fldK K (pv 0)) pa_nil))))
      (pss_cons (ps_if (pt_cmp (pc_din (hu_of hr) (pv 1) (fldK K (pv 0)))) (pss_one (ps_ret (pe_dget (hu_of hr) (fldK K (pv 0)) (pv 1) (fun _ _ => rfl)))) pss_nil)
      (pss_cons (ps_set (i := 2) sc_Stemmer_stem.nd rfl (Or.inl rfl) (pv 1))
      (pss_cons (ps_for (passes_of rfl) rfl (tupIK K (fldK K (pv 0))) (pg_name (i := 3) sc_Stemmer_stem.nd rfl (Or.inl rfl)) (pss_one (ps_asg (pe_call (ok_step_at T) (hr.mono (by decide)) (by rfl) T.m_step_at T.F_step_at.kp T.b_step_at .nil pass0 (pa_cons (pv 3) (pa_cons (pv 2) (pa_cons (fldK K (pv 0)) pa_nil)))) (tupleK K (n := 2) rfl (pgs_cons (pg_name (i := 4) sc_Stemmer_stem.nd rfl (Or.inl rfl)) (pgs_cons (pg_name (i := 2) sc_Stemmer_stem.nd rfl (Or.inl rfl)) pgs_nil))))))
      (pss_one (ps_ret (pv 2))))))), ?_⟩
    walk_at "kk"
    refine k_fldR h1 T.cl_Stemmer T.n_Stemmer_letters (lk_letters ..) ?_
    walk_at "kk"
    refine ⟨.str x, .str x, L, rfl, .inl (.str x), (show x.length ≤ 50000 by omega), .inl ⟨hx, fun H1 s1 => ?_⟩⟩
    walk_at "kk"
    refine k_fldR (s1 _ _ h1) T.cl_Stemmer T.n_Stemmer_exceptions (lk_exceptions ..) ?_
    obtain ⟨od, hd⟩ := h4
    refine ⟨de, none, rfl, .inl ⟨exK es, .inr x, .inr ⟨od, s1 _ _ hd⟩, rfl, hex.symm⟩, ?_⟩
    walk_at "kk"
    refine k_fldR (s1 _ _ h1) T.cl_Stemmer T.n_Stemmer_steps (lk_steps ..) ?_
    have x3 := h3.1
    refine k_onT (Evl.ex_t s1 h2) (for_go (walk_T (xs := xs)) (fun i σ H' => Same H1 H' ∧ ∃ y3 y4, σ = [some (.ref a), some (.str x), some (.str (mk (stemF (tl W) (ss.take i) (tl x)))), y3, y4]) ⟨Same.refl _, none, none, rfl⟩ (fun i σ H' _ iv => Evl.ex_t (s1.trans iv.1) h2) (fun i u σ Ha Hb hi iv hy => ?_) (fun σ H2 iv => ?_))
    · obtain ⟨s2, y3, y4, rfl⟩ := iv
      obtain ⟨rfl, rfl⟩ := hy
      have s12 := s1.trans s2
      have li : i < ss.length := by omega
      have ei : ss[i]? = some ss[i] := List.getElem?_eq_getElem li
      obtain ⟨u, eu, su⟩ := h3.2 i ss[i] ei
      have exx : xs.getD i .non = u := by rw [List.getD_eq_getElem?_getD, eu]; rfl
      rw [exx]
      have sl := stemF_len (vs := tl W) (ss.take i) (tl x) (fun s hs => zw.sp s (List.mem_of_mem_take hs))
      have ln := zw.ln
      rw [← len_tl, List.length_take] at sl
      have st := stemF_take (tl W) ss i ss[i] (tl x) ei
      walk_at "kk"
      refine k_fldR (s12 _ _ h1) T.cl_Stemmer T.n_Stemmer_vowels (lk_vowels ..) ?_
      walk_at "kk"
      refine ⟨u, ss[i], _, W, rfl, su.up s12, zw.sx _ (List.getElem_mem li), ?_, lW, fun p H3 s3 e3 => ?_⟩
      · rw [len_tl, tl_mk']
        omega
      refine k_unp2 (Evl.st_of e3) ?_
      rw [tl_mk', ← st]
      exact ⟨s2.trans s3, _, _, rfl⟩
    · obtain ⟨s2, y3, y4, rfl⟩ := iv
      rw [List.take_of_length_le (by omega)]
      walk_at "kk"
      exact q _ (s1.trans s2)
end
end K91
set_option Elab.async false
set_option linter.all false
set_option maxRecDepth 100000
set_option maxHeartbeats 4000000
namespace K91
open PySem PySem.Spec PyProof.Rows L2 TL Mi
/-- every condition is known to the bounds -/
theorem in_condsS {ss : List SD} {s : SD} {r : RD} {q : Cond} (hs : s ∈ ss) (hr : r ∈ s.rs) (hq : q ∈ r.cs) : inner q ∈ condsS ss := by
  unfold condsS
  refine List.mem_flatten.mpr ⟨condsR s.rs, List.mem_map.mpr ⟨s, hs, rfl⟩, ?_⟩
  unfold condsR
  exact List.mem_flatten.mpr ⟨r.cs.map inner, List.mem_map.mpr ⟨r, hr, rfl⟩, List.mem_map.mpr ⟨q, hq, rfl⟩⟩
theorem known0 {ss : List SD} {c : C0} (h : c ∈ condsS ss) : Known (bM ss) (bK ss) (bC ss).toNat c := by
  have sc : seenC c ≤ bC ss := mx_ge _ _ (List.mem_map.mpr ⟨c, h, rfl⟩)
  cases c with
  | vowel => trivial
  | runs n =>
    refine ⟨mx_ge _ _ (List.mem_map.mpr ⟨.runs n, List.mem_filter.mpr ⟨h, by simp [isKd]⟩, rfl⟩), ?_⟩
    have e : seenC (.runs n) = 1 := rfl
    omega
  | least n => exact mx_ge _ _ (List.mem_map.mpr ⟨.least n, List.mem_filter.mpr ⟨h, by simp [isKd]⟩, rfl⟩)
  | double =>
    have e : seenC .double = 2 := rfl
    show 2 ≤ (bC ss).toNat
    omega
  | shape s =>
    have e : seenC (.shape s) = (s.length : Int) := rfl
    show s.length ≤ (bC ss).toNat
    omega
  | ends ts =>
    intro t ht
    have e : seenC (.ends ts) = mx (lens ts) := rfl
    have g := mx_ge (lens ts) (t.length : Int) (List.mem_map.mpr ⟨t, ht, rfl⟩)
    omega
theorem known_of {ss : List SD} : ∀ s ∈ ss, ∀ r ∈ s.rs, ∀ q ∈ r.cs, KnownC (bM ss) (bK ss) (bC ss).toNat q := fun s hs r hr q hq => by
  have h := known0 (in_condsS hs hr hq)
  cases q <;> exact h
theorem alike_of {v x y : Str} {ss : List SD} (h : sgO v x (bM ss) (bK ss) (bC ss) = sgO v y (bM ss) (bK ss) (bC ss)) : Alike (tl v) (bM ss) (bK ss) (bC ss).toNat (tl x) (tl y) := by
  have c0 : 0 ≤ bC ss := mx_nn _
  obtain ⟨c, hc⟩ := Int.eq_ofNat_of_zero_le c0
  rw [hc] at h ⊢
  unfold sgO at h
  injection h with h1 h
  injection h with h2 h
  injection h with h3 h
  injection h with h4 _
  have h1 : sgT x (c : Int) = sgT y (c : Int) := by injection h1
  have h2 : sgV v x = sgV v y := by injection h2
  have h3 : mn2 (bM ss) (sgR v x) = mn2 (bM ss) (sgR v y) := by injection h3
  have h4 : mn2 (bK ss) x.length = mn2 (bK ss) y.length := by injection h4
  refine ⟨?_, h2, h3, ?_⟩
  · show (tl x).drop ((tl x).length - c) = (tl y).drop ((tl y).length - c)
    rw [← len_tl, ← len_tl, ← tl_sgT, h1, tl_sgT]
  · rw [← len_tl, ← len_tl]
    exact h4
/-- what the law asks: behind fronts with one sight the same row is brought to the same -/
theorem fronts_same {v x y w : Str} {ss : List SD} (h : sgO v x (bM ss) (bK ss) (bC ss) = sgO v y (bM ss) (bK ss) (bC ss)) (hw : bD ss ≤ w.length) :
    ∃ w', stemF (tl v) ss (tl x ++ tl w) = tl x ++ w' ∧ stemF (tl v) ss (tl y ++ tl w) = tl y ++ w' :=
  stemF_front (alike_of h) ss (tl w) known_of (by rw [← len_tl]; exact hw)
end K91
set_option Elab.async false
set_option linter.all false
set_option maxRecDepth 100000
set_option maxHeartbeats 4000000
namespace K91
open PySem PySem.Spec PyProof.Rows L2 TL Mi
 
/-! ### short words -/
local macro_rules | `(tactic| walk_at "idx") => `(tactic| first | assumption | exact Evl.sq_of (by assumption) | exact Evl.st_of (by assumption) | exact Evl.sq_of upd_same | exact Evl.st_of upd_same)
local macro_rules | `(tactic| walk_at "side") => `(tactic| first | omega | exact Or.inl ⟨by omega, by omega⟩ | exact Or.inr ⟨by omega, by omega⟩ | exact ⟨by omega, by omega⟩ | decide +kernel)
local macro_rules | `(tactic| walk_at "div") => `(tactic| exact wide_div (b := 30) (by omega) (by omega) (by decide) (by decide))
local macro_rules | `(tactic| walk_at "pow") => `(tactic| exact ⟨by decide +kernel, by decide +kernel, by decide +kernel⟩)
local macro_rules | `(tactic| walk_at "rv") => `(tactic| first
  | with_reducible exact rv_addI | with_reducible exact rv_sub | with_reducible exact rv_lt | with_reducible exact rv_le | with_reducible exact rv_gt | with_reducible exact rv_ge
  | with_reducible exact rv_inC | with_reducible exact rv_notInC | with_reducible exact rv_isB
  | (with_reducible apply rv_mul
     walk_at "side")
  | (with_reducible apply rv_mod
     walk_at "side")
  | (with_reducible apply rv_div
     walk_at "div")
  | (with_reducible apply rv_pow
     walk_at "pow")
  | (with_reducible apply rv_eq
     exact rfl)
  | (with_reducible apply rv_ne
     exact rfl)
  | (with_reducible apply rv_ixL
     · walk_at "idx"
     · exact rfl)
  | (with_reducible apply rv_ixT
     · walk_at "idx"
     · exact rfl)
  | (with_reducible apply rv_ixS
     · walk_at "side"
     · exact rfl)
  | (with_reducible apply rv_addS
     walk_at "side"))
local macro_rules | `(tactic| walk_at "val") => `(tactic| first
  | with_reducible exact val_c | exact val_c
  | (with_reducible apply val_var
     exact rfl)
  | (with_reducible apply val_bin
     · walk_at "val"
     · walk_at "val"
     · walk_at "rv")
  | (with_reducible apply val_int1
     walk_at "val")
  | (with_reducible apply val_max2
     · walk_at "val"
     · walk_at "val")
  | (with_reducible apply val_min2
     · walk_at "val"
     · walk_at "val")
  | (with_reducible apply val_endsw
     · walk_at "val"
     · walk_at "val")
  | (with_reducible apply val_lenS
     · walk_at "val"
     · walk_at "side")
  | (with_reducible apply val_lenL
     · walk_at "val"
     · walk_at "idx")
  | (with_reducible apply val_lenT
     · walk_at "val"
     · walk_at "idx")
  | (with_reducible apply val_notV
     walk_at "val"))
local macro_rules | `(tactic| walk_at "ans") => `(tactic| first
  | (with_reducible apply ans_T
     walk_at "val")
  | (with_reducible apply ans_B
     walk_at "val")
  | (with_reducible apply ans_not
     walk_at "ans"))
local macro_rules | `(tactic| walk_at "ifp") => `(tactic| first
  | (with_reducible refine Eq.mpr (if_pos ?_) ?_
     · decide +kernel)
  | (with_reducible refine Eq.mpr (if_neg ?_) ?_
     · decide +kernel))
local macro_rules | `(tactic| walk_at "k") => `(tactic| first
  | with_reducible apply k_seq | with_reducible apply k_asg | with_reducible apply k_ret | with_reducible apply k_ifS | with_reducible apply k_drop | with_reducible apply k_name
  | (with_reducible apply k_var
     · exact rfl)
  | with_reducible apply k_c
  | with_reducible apply k_op | with_reducible apply k_cb | with_reducible apply k_call | with_reducible apply k_cons | with_reducible apply k_nil | with_reducible apply k_tup | with_reducible apply k_lst
  | with_reducible apply k_ifE | with_reducible apply k_test | with_reducible apply k_tb | with_reducible apply k_not | with_reducible apply k_and | with_reducible apply k_or | with_reducible apply k_bl
  | with_reducible apply k_sl | with_reducible apply k_part | with_reducible apply k_isI | with_reducible apply k_nopart
  | with_reducible apply k_lcZS | with_reducible apply k_onZS | with_reducible apply k_un | with_reducible apply k_neg
  | with_reducible apply k_forIX | with_reducible apply k_forEB | with_reducible apply k_forSB | with_reducible apply k_lcSB | with_reducible apply k_fld | with_reducible apply k_prop | with_reducible apply k_sfld | with_reducible apply k_make | with_reducible apply k_makeK | with_reducible apply k_mkO | with_reducible apply k_par3 | with_reducible apply k_par3R | with_reducible apply k_par | with_reducible apply k_parR
  | with_reducible apply k_lcS | with_reducible apply k_lcR | with_reducible apply k_lcL | with_reducible apply k_lcT | with_reducible apply k_forS | with_reducible apply k_forR | with_reducible apply k_forL | with_reducible apply k_forT | with_reducible apply k_onS | with_reducible apply k_yes
  | (with_reducible apply k_augC
     · exact rfl)
  | with_reducible apply k_next | with_reducible apply k_eqInt | with_reducible apply k_neInt | with_reducible apply k_eqStr | with_reducible apply k_neStr
  | with_reducible apply k_andV | with_reducible apply k_orV | with_reducible apply k_notV
  | with_reducible apply k_lenSetX | with_reducible apply k_ckw | with_reducible apply k_vals | with_reducible apply k_dnewF | with_reducible apply k_meth | with_reducible apply k_din | with_reducible apply k_prs | with_reducible apply k_prn | with_reducible apply k_dispX
  | with_reducible apply k_m1 | with_reducible apply k_onStr | with_reducible apply k_endsw
  | (with_reducible apply k_slS
     · walk_at "side")
  | (with_reducible apply k_newTG
     · walk_at "len")
  | (with_reducible apply k_newLG
     · walk_at "len")
  | with_reducible apply k_int1 | with_reducible apply k_max2 | with_reducible apply k_min2
  | (with_reducible apply k_lenS
     · walk_at "side")
  | (with_reducible apply k_lenL
     · walk_at "idx")
  | (with_reducible apply k_lenT
     · walk_at "idx")
  | (with_reducible apply k_rv
     · walk_at "rv")
  | walk_at "ifp")
local macro_rules | `(tactic| walk_at "kk") => `(tactic| (repeat (walk_at "k")))
local macro_rules | `(tactic| walk_at "len") => `(tactic| first | exact (by decide : (1:Nat) ≤ 100000) | exact (by decide : (2:Nat) ≤ 100000) | exact (by decide : (3:Nat) ≤ 100000) | exact (by decide : (4:Nat) ≤ 100000) | exact (by decide : (7:Nat) ≤ 100000) | (simp only [List.length_cons, List.length_nil]; omega) | omega)
local macro_rules | `(tactic| walk_at "up") => `(tactic| first
  | assumption
  | (refine Dq.up ?_ (Gr.new (by assumption))
     walk_at "up")
  | (refine Dq.up ?_ (by assumption)
     walk_at "up"))
local macro_rules | `(tactic| walk_at "lit") => `(tactic| first
  | with_reducible exact lit_str | with_reducible exact lit_int | with_reducible exact lit_bl | with_reducible exact lit_non | with_reducible exact lit_neg | with_reducible exact lit_nil | with_reducible exact lit_dic
  | (with_reducible apply lit_cons
     · walk_at "lit"
     · walk_at "lit")
  | (with_reducible apply lit_tup
     · walk_at "lit"
     · decide)
  | (with_reducible apply lit_lst
     · walk_at "lit"
     · decide))
section
variable {P : Program} {w : World} {K : PySem.W.Frag} {mg : Str → Option Value} {base : Heap}
theorem cutS_sub (y : Str) (lo hi : Option Int) : ∃ a b, tl (cutS y lo hi) = ((tl y).drop a).take b := ⟨_, _, rfl⟩
theorem cutS_mem {y : Str} {lo hi : Option Int} {c : Nat} (h : c ∈ tl (cutS y lo hi)) : c ∈ tl y := by
  obtain ⟨a, b, e⟩ := cutS_sub y lo hi
  rw [e] at h
  exact List.mem_of_mem_drop (List.mem_of_mem_take h)
theorem cutS_len {y : Str} {lo hi : Option Int} : (cutS y lo hi).length ≤ y.length := by
  obtain ⟨a, b, e⟩ := cutS_sub y lo hi
  rw [len_tl, len_tl, e, List.length_take, List.length_drop]
  omega
theorem tl_app (x y : Str) : tl (x ++ y) = tl x ++ tl y := by
  show (x.cps ++ y.cps).toList = _
  rw [Array.toList_append]
theorem len_app (x y : Str) : (x ++ y).length = x.length + y.length := by rw [len_tl, tl_app, List.length_append, ← len_tl, ← len_tl]
def spLonger : Sp := fun vs H Q _ => ∃ (p : Addr) (x z : Str) (n : Nat), vs = [.ref p, .str x, .str z] ∧ Pu H p n ∧ n < 2 ^ 38 ∧ 0 < z.length ∧ z.length ≤ 100 ∧ x.length ≤ 100 ∧ (∀ c ∈ tl x, c ∈ tl z) ∧
  ∀ (H' : Hp) (y : Str), Gr [p] H H' → Pu H' p (n + 10) → (∀ c ∈ tl y, c ∈ tl z) → x.length ≤ y.length → y.length ≤ 1000 → Q (.str y) H'
theorem ok_law_longer (T : Txt K mg) : FnOk P w K mg base CX0 3 T.a_law_longer T.fd_law_longer ["purse", "text", "signs"] spLonger := by
  refine T.F_law_longer.ok sc_law_longer (fun vs H Q E h => ?_) (fun cdv A outer s H vs Q E hr h => ?_)
  · obtain ⟨p, x, z, n, rfl, _⟩ := h
    rfl
  · obtain ⟨p, x, z, n, rfl, hp, hn, hz, hz2, lx, mx, q⟩ := h
    refine ⟨_, (pss_cons (ps_set (i := 3) sc_law_longer.nd rfl (Or.inl rfl) (pe_call (ok_law_draw T) (hr.mono (by decide)) (by rfl) T.m_law_draw T.F_law_draw.kp T.b_law_draw .nil pass0 (pa_cons (pv 0) (pa_cons (pe_op (addK K) (pe_callB (lenK K) (by rfl) T.z_len B_len (pa_cons (pv 1) pa_nil)) pe_int) pa_nil))))
      (pss_cons (ps_set (i := 4) sc_law_longer.nd rfl (Or.inl rfl) (pe_lst (pa_cons (pe_slice (slK K) (pe_slice (slK K) (pv 1) po_none (po_some (pv 3))) (po_some (pe_un un_negA pe_int)) po_none) (pa_cons (pe_ix (ixK K) (pv 2) (pe_call (ok_law_draw T) (hr.mono (by decide)) (by rfl) T.m_law_draw T.F_law_draw.kp T.b_law_draw .nil pass0 (pa_cons (pv 0) (pa_cons (pe_callB (lenK K) (by rfl) T.z_len B_len (pa_cons (pv 2) pa_nil)) pa_nil))) (fun _ _ => rfl)) (pa_cons (pe_slice (slK K) (pv 1) po_none (po_some pe_int)) (pa_cons (pe_slice (slK K) (pv 1) (po_some (pv 3)) (po_some (pe_op (addK K) (pv 3) pe_int))) pa_nil))))))
      (pss_one (ps_ret (pe_op (addK K) (pe_op (addK K) (pe_slice (slK K) (pv 1) po_none (po_some (pv 3))) (pe_op op_mulS (pe_ix (ixK K) (pv 4) (pe_call (ok_law_draw T) (hr.mono (by decide)) (by rfl) T.m_law_draw T.F_law_draw.kp T.b_law_draw .nil pass0 (pa_cons (pv 0) (pa_cons pe_int pa_nil))) (fun _ _ => rfl)) (pe_op (addK K) pe_int (pe_call (ok_law_draw T) (hr.mono (by decide)) (by rfl) T.m_law_draw T.F_law_draw.kp T.b_law_draw .nil pass0 (pa_cons (pv 0) (pa_cons pe_int pa_nil)))))) (pe_slice (slK K) (pv 1) (po_some (pv 3)) po_none)))))), ?_⟩
    walk_at "kk"
    refine ⟨p, (x.length : Int) + 1, n, rfl, by omega, by omega, hp, by omega, fun H1 d g1 p1 d1 d2 => ?_⟩
    obtain ⟨k, rfl⟩ := Int.eq_ofNat_of_zero_le d1
    have kl : k ≤ x.length := by omega
    have c1 := cutS_len (y := x) (lo := none) (hi := some (k : Int))
    walk_at "kk"
    refine ⟨p, (z.length : Int), n + 1, rfl, by omega, by omega, p1, by omega, fun H2 d3 g2 p2 d31 d32 => ?_⟩
    obtain ⟨j, rfl⟩ := Int.eq_ofNat_of_zero_le d31
    have jl : j < z.length := by omega
    apply k_rv
    · exact rv_ixS (by omega) (at_int (by omega) (by rw [Int.toNat_natCast]; exact sign_at jl))
    have cm : (tl z).getD j 0 ∈ tl z := by
      rw [List.getD_eq_getElem?_getD, List.getElem?_eq_getElem (by rw [← len_tl]; exact jl)]
      exact List.getElem_mem _
    generalize (tl z).getD j 0 = c0 at cm
    walk_at "kk"
    intro l H3 s3 n3 e3
    have p3 := p2.same s3
    walk_at "kk"
    refine ⟨p, 4, n + 2, rfl, by omega, by omega, p3, by omega, fun H4 d4 g4 p4 d41 d42 => ?_⟩
    have e4 := g4 l _ (by simpa using (p2.ne n3).symm) e3
    obtain ⟨y, hy, my, ly⟩ : ∃ y : Str, ([.str (cutS (cutS x none (some (k : Int))) (some (-1)) none), .str ⟨#[c0]⟩, .str (cutS x none (some 2)), .str (cutS x (some (k : Int)) (some ((k : Int) + 2)))] : List V)[d4.toNat]? = some (.str y) ∧ (∀ c ∈ tl y, c ∈ tl z) ∧ y.length ≤ 100 := by
      have h4 : d4 = 0 ∨ d4 = 1 ∨ d4 = 2 ∨ d4 = 3 := by omega
      rcases h4 with rfl | rfl | rfl | rfl
      · exact ⟨_, rfl, fun c h => mx c (cutS_mem (cutS_mem h)), Nat.le_trans cutS_len (by omega)⟩
      · refine ⟨_, rfl, fun c h => ?_, by show 1 ≤ 100; omega⟩
        have : c = c0 := by simpa [tl] using h
        rw [this]
        exact cm
      · exact ⟨_, rfl, fun c h => mx c (cutS_mem h), Nat.le_trans cutS_len lx⟩
      · exact ⟨_, rfl, fun c h => mx c (cutS_mem h), Nat.le_trans cutS_len lx⟩
    show rIx K (V.ref l) (V.int d4) H4 _
    apply k_rv
    · exact rv_ixL (Evl.sq_of e4) (at_int d41 hy)
    walk_at "kk"
    refine ⟨p, 3, n + 3, rfl, by omega, by omega, p4, by omega, fun H5 d5 g5 p5 d51 d52 => ?_⟩
    obtain ⟨m, rfl⟩ := Int.eq_ofNat_of_zero_le d51
    walk_at "kk"
    have e1 : (1 : Int) + (m : Int) = ((m + 1 : Nat) : Int) := by omega
    rw [e1]
    refine ⟨_, _, rfl, rfl, mulOk (by omega) (by omega), ?_⟩
    generalize hM : PySem.Txt.mul y ((m + 1 : Nat) : Int) = M
    have tM : tl M = (List.replicate (m + 1) (tl y)).flatten := by rw [← hM, tl_mulG]
    have lM : M.length ≤ 300 := by
      rw [len_tl, tM, List.length_flatten, List.map_replicate, List.sum_replicate_nat, ← len_tl]
      have : (m + 1) * y.length ≤ 3 * 100 := Nat.mul_le_mul (by omega) ly
      omega
    have mM : ∀ c ∈ tl M, c ∈ tl z := fun c h => by
      rw [tM] at h
      obtain ⟨l, hl, hc⟩ := List.mem_flatten.mp h
      rw [List.eq_of_mem_replicate hl] at hc
      exact my c hc
    apply k_rv
    · exact rv_addS (by omega)
    walk_at "kk"
    have c2 := cutS_len (y := x) (lo := some (k : Int)) (hi := none)
    have la := len_app (cutS x none (some (k : Int))) M
    apply k_rv
    · exact rv_addS (by omega)
    walk_at "kk"
    have lb := len_app (cutS x none (some (k : Int)) ++ M) (cutS x (some (k : Int)) none)
    have l1 : (cutS x none (some (k : Int))).length = k := by
      rw [tl_cut_to kl, len_mk, List.length_take, ← len_tl]
      omega
    have l2 : (cutS x (some (k : Int)) none).length = x.length - k := by
      rw [tl_cut_from kl, len_mk, List.length_drop, ← len_tl]
    refine q H5 _ (g1.trans (g2.trans ((Gr.of s3).trans (g4.trans g5)))) (p5.up rfl (by omega)) (fun c h => ?_) (by omega) (by omega)
    rw [tl_app, tl_app] at h
    rcases List.mem_append.mp h with h | h
    · rcases List.mem_append.mp h with h | h
      · exact mx c (cutS_mem h)
      · exact mM c h
    · exact mx c (cutS_mem h)
end
set_option Elab.async false
set_option linter.all false
set_option maxRecDepth 100000
set_option maxHeartbeats 4000000
section
variable {P : Program} {w : World} {K : PySem.W.Frag} {mg : Str → Option Value} {base : Heap}
theorem k_cut {A B : TS} {D : Ends} {σ : L2.St} {H : Hp} (Post : L2.St → Hp → Prop) (h : ∀ N : L2.St → Hp → Prop, (∀ σ' H', Post σ' H' → N σ' H') → A { D with nx := N } σ H) (k : ∀ σ' H', Post σ' H' → B D σ' H') : tSeq A B D σ H := h _ k
theorem ste_m {T : Txt K mg} {H : Hp} {x : V} {L W : Str} {xs : List V} {ss : List SD} {es : List (Str × Str)} {m : Str} (h : Ste T H x L W xs ss es) (h1 : (m == ("_letters" : Str)) = false) (h2 : (m == ("_vowels" : Str)) = false) (h3 : (m == ("_steps" : Str)) = false) (h4 : (m == ("_exceptions" : Str)) = false) (h5 : (m == ("_bounds" : Str)) = false) :
    ∃ a dx fs, x = .ref a ∧ H a = some (.ins T.C_Stemmer dx fs) ∧ fs.lookup m = none := by
  obtain ⟨a, dx, t, d, b, rfl, e, _⟩ := h
  exact ⟨a, dx, _, rfl, e, no_sG5 h1 h2 h3 h4 h5⟩
theorem bd_of {z : Str} {top : Nat} {ss : List SD} (hs : ∀ s ∈ ss, smS z top s) : (0 ≤ bM ss ∧ bM ss ≤ 3) ∧ (0 ≤ bK ss ∧ bK ss ≤ 3) ∧ (0 ≤ bC ss ∧ bC ss ≤ 4) := by
  have c0 : ∀ c ∈ condsS ss, sm0 z c := fun c hc => by
    obtain ⟨s, h, r, hr, q, hq, rfl⟩ := mem_condsS hc
    exact smc_inner (((hs s h).2.1 r hr).2.2.2 q hq)
  have num : ∀ c, sm0 z c → numC c ≤ 3 := fun c h => by
    cases c with
    | runs m =>
      have := h.2
      simp only [numC]
      omega
    | least m => exact h.2
    | _ => simp only [numC]; omega
  have seen : ∀ c, sm0 z c → seenC c ≤ 4 := fun c h => by
    cases c with
    | ends ts =>
      refine mx_le (by decide) (fun x hx => ?_)
      obtain ⟨t, ht, rfl⟩ := List.mem_map.mp hx
      have := (h.2 t ht).1
      omega
    | shape s =>
      have := h.1
      simp only [seenC]
      omega
    | _ => simp only [seenC]; omega
  have nk : ∀ k, ∀ x ∈ numsK k (condsS ss), x ≤ 3 := fun k x hx => by
    obtain ⟨c, hc, rfl⟩ := List.mem_map.mp hx
    exact num c (c0 c (List.mem_filter.mp hc).1)
  refine ⟨⟨mx_nn _, mx_le (by decide) (nk _)⟩, ⟨mx_nn _, mx_le (by decide) (nk _)⟩, ⟨mx_nn _, mx_le (by decide) (fun x hx => ?_)⟩⟩
  obtain ⟨c, hc, rfl⟩ := List.mem_map.mp hx
  exact seen c (c0 c hc)
theorem Pu.lst {H : Hp} {p : Addr} {n : Nat} (h : Pu H p n) : ∃ ys, H p = some (.lst ys) := by
  obtain ⟨a, b, k, e, r⟩ := h
  exact ⟨_, e⟩
theorem StAll.avoid {T : Txt K mg} {S : List Addr} {D : Addr} {ys : List V} {H : Hp} {xs : List V} {ss : List SD} (h : StAll T (Hd S H) xs ss) (hD : H D = some (.lst ys)) : StAll T (Hd (D :: S) H) xs ss :=
  ⟨h.1, fun i s e => let ⟨x, ex, sx⟩ := h.2 i s e; ⟨x, ex, sx.avoid hD⟩⟩
theorem Ste.avoid {T : Txt K mg} {S : List Addr} {D : Addr} {ys : List V} {H : Hp} {v : V} {L W : Str} {xs : List V} {ss : List SD} {es : List (Str × Str)} (h : Ste T (Hd S H) v L W xs ss es) (hD : H D = some (.lst ys)) : Ste T (Hd (D :: S) H) v L W xs ss es := by
  obtain ⟨a, dx, t, d, b, rfl, h1, h2, h3, ⟨o, h4⟩, h5⟩ := h
  exact ⟨a, dx, t, d, b, rfl, hd_cons hD h1 (fun _ z => nomatch z), SqT.avoid hD h2, h3.avoid hD, ⟨o, hd_cons hD h4 (fun _ z => nomatch z)⟩, SqT.avoid hD h5⟩
theorem Ste.d1 {T : Txt K mg} {D : Addr} {ys : List V} {H : Hp} {v : V} {L W : Str} {xs : List V} {ss : List SD} {es : List (Str × Str)} (h : Ste T H v L W xs ss es) (hD : H D = some (.lst ys)) : Ste T (Hd [D] H) v L W xs ss es := (h.up hd_nil).avoid hD
theorem SqT.d1 {D a : Addr} {ys xs : List V} {H : Hp} (h : SqT K H a xs) (hD : H D = some (.lst ys)) : SqT K (Hd [D] H) a xs := SqT.avoid (S := []) hD (Evl.ex_t hd_nil h)
theorem bD_le {z : Str} {top : Nat} {ss : List SD} (hs : ∀ s ∈ ss, smS z top s) : 0 ≤ bD ss ∧ bD ss ≤ 2 * ss.length := by
  refine ⟨dSum_nn ss, ?_⟩
  induction ss with
  | nil => exact Int.le_refl _
  | cons s ss ih =>
    have i := ih fun q hq => hs q (List.mem_cons_of_mem _ hq)
    have h1 : mx (lens (s.rs.map fun r => r.e)) ≤ 2 := mx_le (by decide) fun x hx => by
      obtain ⟨t, ht, rfl⟩ := List.mem_map.mp hx
      obtain ⟨r, hr, rfl⟩ := List.mem_map.mp ht
      have := ((hs s List.mem_cons_self).2.1 r hr).1.2.1
      omega
    have e : bD (s :: ss) = mx (lens (s.rs.map fun r => r.e)) + bD ss := rfl
    rw [e, List.length_cons]
    omega
/-- a longer text is no exception -/
theorem no_exc {x : Str} : ∀ {es : List (Str × Str)}, (∀ e ∈ es, e.1.length < x.length) → valV (exK es) (.inr x) = none
  | [], _ => rfl
  | e :: es, h => by
    have h1 := h e List.mem_cons_self
    have ne : ¬ ((Sum.inr e.1 : Key) = .inr x) := fun z => by
      have := Sum.inr.inj z
      rw [this] at h1
      omega
    show valV ((Sum.inr e.1, V.str e.2) :: exK es) (.inr x) = none
    rw [valV_neg ne]
    exact no_exc fun q hq => h q (List.mem_cons_of_mem _ hq)
theorem smc_ok {z : Str} {q : Cond} (h : smc z q) : okc q ∧ szc q := by
  have c0 : ∀ c : C0, sm0 z c → ok0 c ∧ sz0 c := fun c h => by
    cases c with
    | vowel => exact ⟨trivial, trivial⟩
    | double => exact ⟨trivial, trivial⟩
    | runs m => exact ⟨h.1, trivial⟩
    | least m => exact ⟨h.1, trivial⟩
    | shape s => exact ⟨h.2, by show s.length ≤ 50000; have := h.1; omega⟩
    | ends ts => exact ⟨trivial, by have := h.1; show ts.length ≤ 50000; omega, fun t ht => by have := (h.2 t ht).1; omega⟩
  cases q with
  | pos c => exact c0 c h
  | neg c => exact c0 c h
theorem bX_ge {es : List (Str × Str)} : ∀ e ∈ es, (e.1.length : Int) ≤ bX es := fun e he => mx_ge _ _ (List.mem_map.mpr ⟨e.1, List.mem_append.mpr (.inl (List.mem_map.mpr ⟨e, he, rfl⟩)), rfl⟩)
/-- a sight as a key -/
def skey (v y : Str) (ss : List SD) : List Key := [.inr (sgT y (bC ss)), .inl (BX.bInt (sgV v y)), .inl (mn2 (bM ss) (sgR v y)), .inl (mn2 (bK ss) y.length)]
theorem skey_of (v y : Str) (ss : List SD) : kBs (sgO v y (bM ss) (bK ss) (bC ss)) = some (skey v y ss) := rfl
theorem skey_inj {v x y : Str} {ss : List SD} (h : skey v x ss = skey v y ss) : sgO v x (bM ss) (bK ss) (bC ss) = sgO v y (bM ss) (bK ss) (bC ss) := by
  unfold skey at h
  simp only [List.cons.injEq, Sum.inr.injEq, Sum.inl.injEq, and_true] at h
  obtain ⟨h1, h2, h3, h4⟩ := h
  unfold sgO
  rw [h1, BX.bInt_inj h2, h3, h4]
theorem valV_mem {kvs : List (List Key × V)} {k : List Key} {r : V} (h : valV kvs k = some r) : ∃ q ∈ kvs, q.1 = k ∧ q.2 = r := by
  induction kvs with
  | nil => cases h
  | cons p ps ih =>
    by_cases e : p.1 = k
    · rw [valV_pos e] at h
      exact ⟨p, List.mem_cons_self, e, Option.some.inj h⟩
    · rw [valV_neg e] at h
      obtain ⟨q, hq, r⟩ := ih h
      exact ⟨q, List.mem_cons_of_mem _ hq, r⟩
theorem putK_mem {kvs : List (List Key × V)} {k : List Key} {r : V} : ∀ q ∈ putK kvs k r, q ∈ kvs ∨ q = (k, r) := fun q hq => by
  unfold putK at hq
  split at hq
  · obtain ⟨p, hp, rfl⟩ := List.mem_map.mp hq
    by_cases e : p.1 = k
    · right
      rw [if_pos e, e]
    · left
      rw [if_neg e]
      exact hp
  · rcases List.mem_append.mp hq with h | h
    · exact .inl h
    · exact .inr (List.mem_singleton.mp h)
theorem bX_of {z : Str} {es : List (Str × Str)} (h : ∀ e ∈ es, smE z e) : 0 ≤ bX es ∧ bX es ≤ 3 := by
  refine ⟨mx_nn _, mx_le (by decide) (fun x hx => ?_)⟩
  obtain ⟨y, hy, rfl⟩ := List.mem_map.mp hx
  rcases List.mem_append.mp hy with hy | hy
  · obtain ⟨e, he, rfl⟩ := List.mem_map.mp hy
    have := (h e he).1.2.1
    omega
  · obtain ⟨e, he, rfl⟩ := List.mem_map.mp hy
    have := (h e he).2.1
    omega
theorem szw_of {z : Str} {top : Nat} {ss : List SD} (ht : top ≤ 8) (hl : ss.length ≤ 3) (hs : ∀ s ∈ ss, smS z top s) : SzW ss := by
  refine ⟨fun s h => ?_, fun s h r hr => ?_, by omega⟩
  · have a := hs s h
    have a1 := a.1
    refine ⟨by omega, fun r hr => ?_, fun r hr => ?_, fun r hr => ?_, fun r hr q hq => ?_⟩
    · have := (a.2.1 r hr).1.2.1
      omega
    · have := (a.2.1 r hr).2.1.1
      omega
    · have := (a.2.1 r hr).2.2.1
      omega
    · exact smc_ok ((a.2.1 r hr).2.2.2 q hq)
  · have := ((hs s h).2.1 r hr).2.1.1
    omega
theorem DB.gr {P : Program} {w : World} {H H' : Hp} {p d : Addr} {ys : List V} {kvs : List (List Key × V)} (h : DB P w H d kvs) (hp : H p = some (.lst ys)) (g : Gr [p] H H') : DB P w H' d kvs := by
  obtain ⟨xs, e, r, l⟩ := h
  have up : ∀ a o, H a = some o → (∀ zs, o ≠ .lst zs) → H' a = some o := fun a o ea no => g a o (fun hm => by
    rw [List.mem_singleton.mp hm, hp] at ea
    exact no _ (Option.some.inj ea).symm) ea
  exact ⟨xs, up _ _ e (fun _ z => nomatch z), r.keeps fun b ys q => up _ _ q (fun _ z => nomatch z), l⟩
/-- a text that is asked of -/
structure TxOk (z : Str) (es : List (Str × Str)) (t : Str) : Prop where
  m : ∀ c ∈ tl t, c ∈ tl z
  lo : bX es < t.length
  hi : t.length ≤ 64
/-- a row of texts with one sight -/
structure LotAt (H0 H : Hp) (p d : Addr) (z v : Str) (ss : List SD) (es : List (Str × Str)) (b : Nat) (key : List Key) (m : Addr) (ts : List Str) : Prop where
  n0 : H0 m = none
  np : m ≠ p
  nd : m ≠ d
  at_ : H m = some (.lst (ts.map V.str))
  few : ts.length ≤ b
  all : ∀ t ∈ ts, TxOk z es t ∧ skey v t ss = key
theorem LotAt.to {H0 H H' : Hp} {p d : Addr} {z v : Str} {ss : List SD} {es : List (Str × Str)} {b b' : Nat} {key : List Key} {m : Addr} {ts : List Str} (h : LotAt H0 H p d z v ss es b key m ts) (e : H' m = H m) (hb : b ≤ b') : LotAt H0 H' p d z v ss es b' key m ts :=
  ⟨h.n0, h.np, h.nd, e.trans h.at_, Nat.le_trans h.few hb, h.all⟩
theorem LotAt.up {H0 H H' : Hp} {p d : Addr} {z v : Str} {ss : List SD} {es : List (Str × Str)} {b b' : Nat} {key : List Key} {m : Addr} {ts : List Str} (h : LotAt H0 H p d z v ss es b key m ts) (g : Gr [p] H H') (hb : b ≤ b') : LotAt H0 H' p d z v ss es b' key m ts :=
  ⟨h.n0, h.np, h.nd, g _ _ (by simpa using h.np) h.at_, Nat.le_trans h.few hb, h.all⟩
def LotsOk (H0 H : Hp) (p d : Addr) (z v : Str) (ss : List SD) (es : List (Str × Str)) (b : Nat) (kvs : List (List Key × V)) : Prop := ∀ q ∈ kvs, ∃ m ts, q.2 = .ref m ∧ ts ≠ [] ∧ LotAt H0 H p d z v ss es b q.1 m ts
theorem LotsOk.up {H0 H H' : Hp} {p d : Addr} {z v : Str} {ss : List SD} {es : List (Str × Str)} {b b' : Nat} {kvs : List (List Key × V)} (h : LotsOk H0 H p d z v ss es b kvs) (g : Gr [p] H H') (hb : b ≤ b') : LotsOk H0 H' p d z v ss es b' kvs := fun q hq => by
  obtain ⟨m, ts, e, ne, l⟩ := h q hq
  exact ⟨m, ts, e, ne, l.up g hb⟩
theorem map_str_inj {a b : List Str} (h : a.map V.str = b.map V.str) : a = b := (List.map_inj_right (fun _ _ e => V.str.inj e)).mp h
/-- one more text in the row of its sight -/
theorem LotsOk.add {H0 H H' : Hp} {p d m : Addr} {z v t : Str} {ss : List SD} {es : List (Str × Str)} {b : Nat} {kvs : List (List Key × V)} {ts : List Str}
    (others : ∀ q ∈ kvs, q.2 ≠ .ref m → ∃ m' ts', q.2 = .ref m' ∧ ts' ≠ [] ∧ LotAt H0 H p d z v ss es b q.1 m' ts') (own : ∀ q ∈ kvs, q.2 = .ref m → q.1 = skey v t ss)
    (l : LotAt H0 H p d z v ss es b (skey v t ss) m ts) (ht : TxOk z es t) (e : H' = upd H m (.lst (ts.map V.str ++ [.str t]))) : LotsOk H0 H' p d z v ss es (b + 1) kvs := fun q hq => by
  subst e
  by_cases c : q.2 = .ref m
  · refine ⟨m, ts ++ [t], c, by simp, l.n0, l.np, l.nd, ?_, by rw [List.length_append]; have := l.few; simp; omega, fun u hu => ?_⟩
    · rw [upd_same, List.map_append]
      rfl
    · rw [own q hq c]
      rcases List.mem_append.mp hu with h | h
      · exact l.all u h
      · rw [List.mem_singleton.mp h]
        exact ⟨ht, rfl⟩
  · obtain ⟨m', ts', e1, e2, l'⟩ := others q hq c
    exact ⟨m', ts', e1, e2, l'.to (upd_ne (fun z => c (by rw [e1, z]))) (by omega)⟩
def spLRight : Sp := fun vs H Q _ => ∃ (p : Addr) (n : Nat), vs = [.ref p] ∧ Pu H p n ∧ n < 2 ^ 33 ∧ ∀ H', Gr [p] H H' → Pu H' p (n + 10000000) → Q (.bl true) H'
theorem ok_law_right (T : Txt K mg) : FnOk P w K mg base CX0 14 T.a_law_right T.fd_law_right ["purse"] spLRight := by
  refine T.F_law_right.ok sc_law_right (fun vs H Q E h => ?_) (fun cdv A outer s H vs Q E hr h => ?_)
  · obtain ⟨p, n, rfl, _⟩ := h
    rfl
  · obtain ⟨p, n, rfl, hp, hn, q⟩ := h
    refine ⟨_, (pss_cons (ps_set (i := 1) sc_law_right.nd rfl (Or.inl rfl) (pe_call (ok_law_names T) (hr.mono (by decide)) (by rfl) T.m_law_names T.F_law_names.kp T.b_law_names .nil pass0 (pa_cons (pv 0) pa_nil)))
      (pss_cons (ps_set (i := 2) sc_law_right.nd rfl (Or.inr rfl) (pe_call (ok_law_made T) (hr.mono (by decide)) (by rfl) T.m_law_made T.F_law_made.kp T.b_law_made .nil pass0 (pa_cons (pe_call (ok_law_stemmer T) (hr.mono (by decide)) (by rfl) T.m_law_stemmer T.F_law_stemmer.kp T.b_law_stemmer .nil pass0 (pa_cons (pv 0) (pa_cons (pv 1) pa_nil))) pa_nil)))
      (pss_cons (ps_par (i := 3) (j := 4) (by rfl) sc_law_right.nd rfl rfl (by decide) rfl rfl (pa_cons (pe_meth0 (pv 2) T.cl_Stemmer T.me_Stemmer_bounds (ok_Stemmer_bounds T) (hr.mono (by decide)) T.bM_Stemmer_bounds .nil pass0) (pa_cons pe_dnewB pa_nil)) (by rfl))
      (pss_cons (ps_set (i := 5) sc_law_right.nd rfl (Or.inl rfl) (pe_call (ok_law_text T) (hr.mono (by decide)) (by rfl) T.m_law_text T.F_law_text.kp T.b_law_text .nil pass0 (pa_cons (pv 0) (pa_cons (pe_ix (ixK K) (pv 1) pe_int (fun _ _ => rfl)) (pa_cons (pe_op (addK K) (pe_ix (ixK K) (pv 3) pe_int (fun _ _ => rfl)) pe_int) (pa_cons (pe_op (addK K) (pe_ix (ixK K) (pv 3) pe_int (fun _ _ => rfl)) pe_int) pa_nil))))))
      (pss_cons (ps_for PassesOwn.never rfl (pi_range1 (by rfl) T.z_range (pa_cons pe_int pa_nil)) (pg_name (i := 6) sc_law_right.nd rfl (Or.inl rfl)) (pss_cons (ps_set (i := 7) sc_law_right.nd rfl (Or.inl rfl) (pe_setdefB (hu_of hr) (pv 4) (pe_meth (pv 2) T.cl_Stemmer T.me_Stemmer_sight (ok_Stemmer_sight T) (hr.mono (by decide)) T.bM_Stemmer_sight .nil passL (pa_cons (pv 5) pa_nil)) (pe_lst pa_nil) ⟨by rfl, by rfl, by rfl, by rfl⟩))
      (pss_cons (ps_expr (appK K (pv 7) (pv 5)))
      (pss_cons (ps_set (i := 8) sc_law_right.nd rfl (Or.inl rfl) (pe_call (ok_law_longer T) (hr.mono (by decide)) (by rfl) T.m_law_longer T.F_law_longer.kp T.b_law_longer .nil pass0 (pa_cons (pv 0) (pa_cons (pv 5) (pa_cons (pe_ix (ixK K) (pv 1) pe_int (fun _ _ => rfl)) pa_nil)))))
      (pss_cons (ps_set (i := 9) sc_law_right.nd rfl (Or.inl rfl) (pe_call (ok_law_text T) (hr.mono (by decide)) (by rfl) T.m_law_text T.F_law_text.kp T.b_law_text .nil pass0 (pa_cons (pv 0) (pa_cons (pe_ix (ixK K) (pv 1) pe_int (fun _ _ => rfl)) (pa_cons (pe_op (addK K) (pe_ix (ixK K) (pv 3) pe_int (fun _ _ => rfl)) pe_int) (pa_cons (pe_op (addK K) (pe_ix (ixK K) (pv 3) pe_int (fun _ _ => rfl)) pe_int) pa_nil))))))
      (pss_one (ps_set (i := 5) sc_law_right.nd rfl (Or.inl rfl) (pe_ix (ixK K) (pe_lst (pa_cons (pv 8) (pa_cons (pv 9) pa_nil))) (pe_callTy call_intA (by rfl) T.z_int B_int (pa_cons (pe_or (pe_cmpR op_gtA (pe_callB (lenK K) (by rfl) T.z_len B_len (pa_cons (pv 8) pa_nil)) pe_int (nomark _)) (pe_one (pe_cmpR (eqK K hr) (pe_call (ok_law_draw T) (hr.mono (by decide)) (by rfl) T.m_law_draw T.F_law_draw.kp T.b_law_draw .nil pass0 (pa_cons (pv 0) (pa_cons pe_int pa_nil))) pe_int (nomark _)))) pa_nil)) (fun _ _ => rfl)))))))))
      (pss_cons (ps_for PassesOwn.never rfl (pi_valuesB (pv 4)) (pg_name (i := 7) sc_law_right.nd rfl (Or.inl rfl)) (pss_cons (ps_set (i := 10) sc_law_right.nd rfl (Or.inr rfl) (pe_call (ok_law_text T) (hr.mono (by decide)) (by rfl) T.m_law_text T.F_law_text.kp T.b_law_text .nil pass0 (pa_cons (pv 0) (pa_cons (pe_ix (ixK K) (pv 1) pe_int (fun _ _ => rfl)) (pa_cons (pe_ix (ixK K) (pv 3) pe_int (fun _ _ => rfl)) (pa_cons (pe_op (addK K) (pe_ix (ixK K) (pv 3) pe_int (fun _ _ => rfl)) pe_int) pa_nil))))))
      (pss_cons (ps_setLc (i := 11) (own := [("text", 5)]) (by rfl) sc_law_right.nd rfl rfl (sw_true rfl rfl rfl (by decide +kernel)) (listK K (pv 7)) (blkOk_by (N := ["purse", "names", "made", "bounds", "lots", "text", "turn", "met", "longer", "again", "ending", "told", "stem"]) (sc := defScope s_law_right) (by decide +kernel)) (fun _ _ _ _ _ => (pg_name (i := 5) sc_law_right.nd rfl (Or.inl rfl))) (fun _ _ _ _ _ => pts_nil) (fun _ _ _ _ _ => (pe_meth (pv 2) T.cl_Stemmer T.me_Stemmer_stem (ok_Stemmer_stem T) (hr.mono (by decide)) T.bM_Stemmer_stem .nil passL (pa_cons (pe_op (addK K) (pv 5) (pv 10)) pa_nil))))
      (pss_cons (ps_if (pt_cmpR (neK K hr) (pe_lc (own := [("text", 5), ("stem", 12)]) (by rfl) sc_law_right.nd (zipAK K (by rfl) T.z_zip (pa_cons (pv 7) (pa_cons (pv 11) pa_nil))) (blkOk_by (N := ["purse", "names", "made", "bounds", "lots", "text", "turn", "met", "longer", "again", "ending", "told", "stem"]) (sc := defScope s_law_right) (by decide +kernel)) (fun _ _ _ _ _ => (tupleK K (n := 2) rfl (pgs_cons (pg_name (i := 5) sc_law_right.nd rfl (Or.inl rfl)) (pgs_cons (pg_name (i := 12) sc_law_right.nd rfl (Or.inl rfl)) pgs_nil)))) (fun _ _ _ _ _ => (pts_one (pt_cmpR (neK K hr) (pe_slice (slK K) (pv 12) po_none (po_some (pe_callB (lenK K) (by rfl) T.z_len B_len (pa_cons (pv 5) pa_nil)))) (pv 5) (nomark _)))) (fun _ _ _ _ _ => pe_int)) (pe_lst pa_nil) (nomark _)) (pss_one (ps_ret pe_bl)) pss_nil)
      (pss_one (ps_if (pt_cmpR (neK K hr) (lenSetLK K (by rfl) T.z_len (by rfl) T.z_set (pe_lc (own := [("text", 5), ("stem", 12)]) (by rfl) sc_law_right.nd (zipAK K (by rfl) T.z_zip (pa_cons (pv 7) (pa_cons (pv 11) pa_nil))) (blkOk_by (N := ["purse", "names", "made", "bounds", "lots", "text", "turn", "met", "longer", "again", "ending", "told", "stem"]) (sc := defScope s_law_right) (by decide +kernel)) (fun _ _ _ _ _ => (tupleK K (n := 2) rfl (pgs_cons (pg_name (i := 5) sc_law_right.nd rfl (Or.inl rfl)) (pgs_cons (pg_name (i := 12) sc_law_right.nd rfl (Or.inl rfl)) pgs_nil)))) (fun _ _ _ _ _ => pts_nil) (fun _ _ _ _ _ => (pe_slice (slK K) (pv 12) (po_some (pe_callB (lenK K) (by rfl) T.z_len B_len (pa_cons (pv 5) pa_nil))) po_none)))) pe_int (nomark _)) (pss_one (ps_ret pe_bl)) pss_nil))))))
      (pss_one (ps_ret pe_bl)))))))), ?_⟩
    walk_at "kk"
    refine ⟨p, n, rfl, hp, by omega, fun H1 nt z v g1 p1 ht et mz hv => ?_⟩
    have zl := menu_len z mz
    have ntp : nt ∉ [p] := by simpa using ht
    have T1 : SqT K (Hd [p] H1) nt [.str z, .str z, .str v] := Evl.st_of (by rw [hd_out ntp]; exact et)
    walk_at "kk"
    refine ⟨p, nt, z, v, n + 10, rfl, T1, zl.1, by omega, p1, by omega, fun H2 raw ss es g2 p2 hraw hl hs he hes => ?_⟩
    have gdd := good_of (top := 3) (by omega) mz hv hl hs (by omega) hes
    have bds := bd_of hs
    walk_at "kk"
    refine ⟨raw, z, v, ss, es, rfl, hraw.up (hd_same _ _), gdd, fun made xs H4 s3 st3 => ?_⟩
    have p4 := p2.same s3
    obtain ⟨py, ep4⟩ := p4.lst
    have g4 : Gr [p] H H4 := (g1.trans g2).trans (Gr.of s3)
    have M4 : Ste T (Hd [p] H4) made z v xs ss es := st3.d1 ep4
    have T4 : SqT K (Hd [p] H4) nt [.str z, .str z, .str v] := Evl.ex_t (g2.trans (Gr.of s3)).hd T1
    clear hraw st3 s3 g1 g2 p2
    walk_at "kk"
    obtain ⟨ma, mdx, mfs, me1, me2, me3⟩ := ste_m (m := "bounds") (M4.up (hd_same _ _)) (by decide) (by decide) (by decide) (by decide) (by decide)
    refine ⟨ma, mdx, mfs, me1, me2, me3, ?_⟩
    walk_at "kk"
    refine ⟨made, z, v, xs, ss, es, rfl, M4.up (hd_same _ _), fun bb hbb => ?_⟩
    have B4 : SqT K (Hd [p] H4) bb (bnds ss es) := SqT.d1 hbb ep4
    walk_at "kk"
    intro d H5 nd db s5
    have g5 : Gr [p] H4 H5 := Gr.of s5
    have p5 := p4.same s5
    have pd : p ≠ d := p4.ne nd
    have bx := bX_of hes
    have bd0 := bD_le hs
    have szw := szw_of (top := 3) (by omega) hl hs
    have vl : v.length ≤ 200 := by
      have h := hv.length_le
      rw [← len_tl, ← len_tl] at h
      omega
    subst me1
    clear me2 me3 hbb ep4 p4 et
    have T5 := Evl.ex_t (g5.hd.trans (hd_same _ _)) T4
    have B5 := Evl.ex_t (g5.hd.trans (hd_same _ _)) B4
    walk_at "kk"
    refine ⟨p, z, bX es + 1, bX es + 4, _, rfl, by omega, by omega, by omega, zl.1, by omega, p5, by omega, fun H6 t0 g6 p6 mt0 lt1 lt2 => ?_⟩
    have okx : ∀ y : Str, (∀ c ∈ tl y, c ∈ tl z) → isTextOf (.str y) z = true := fun y h => List.all_eq_true.mpr fun d hd => decide_eq_true (h d hd)
    walk_at "kk"
    refine k_onR1 (by omega) (for_go (walk_rng (n := 24)) (fun i σ H' => Gr [p] H4 H' ∧ Pu H' p (n + 4000000 + i * 3000) ∧ (∃ kvs, DB P w H' d kvs ∧ kvs.length ≤ i ∧ LotsOk H4 H' p d z v ss es i kvs) ∧ ∃ (t : Str) (y6 y7 y8 y9 : Option V), TxOk z es t ∧ σ = [some (.ref p), some (.ref nt), some (.ref ma), some (.ref bb), some (.ref d), some (.str t), y6, y7, y8, y9, none, none, none]) ⟨g5.trans g6, p6.up rfl (by omega), ?_, t0, none, none, none, none, ⟨mt0, by omega, by omega⟩, rfl⟩ (fun _ _ _ _ _ => trivial) (fun i u σ Ha Hb hi iv hy => ?_) (fun σ H7 iv => ?_))
    · obtain ⟨py, ep5⟩ := p5.lst
      exact ⟨[], DB.gr (P := P) (w := w) db ep5 g6, Nat.le_refl _, fun q hq => nomatch hq⟩
    · obtain ⟨g7, p7, ⟨kvs, db7, lk, lots⟩, t, y6, y7, y8, y9, tok, rfl⟩ := iv
      obtain ⟨rfl, rfl⟩ := hy
      have M7 := M4.up (g7.hd.trans (hd_same _ _))
      obtain ⟨tm, tlo, thi⟩ := id tok
      with_reducible apply k_name
      with_reducible refine k_cut (fun σ' H' => ∃ (m : Addr) (kvs' : List (List Key × V)) (ts : List Str), Gr [p] H4 H' ∧ Pu H' p (n + 4000000 + i * 3000) ∧ DB P w H' d kvs' ∧ kvs'.length ≤ i + 1 ∧
        (∀ q ∈ kvs', q.2 ≠ .ref m → ∃ m' ts', q.2 = .ref m' ∧ ts' ≠ [] ∧ LotAt H4 H' p d z v ss es i q.1 m' ts') ∧ (∀ q ∈ kvs', q.2 = .ref m → q.1 = skey v t ss) ∧ LotAt H4 H' p d z v ss es i (skey v t ss) m ts ∧
        σ' = [some (.ref p), some (.ref nt), some (.ref ma), some (.ref bb), some (.ref d), some (.str t), some (.int (i : Nat)), some (.ref m), y8, y9, none, none, none]) (fun N hN => ?_) (fun σ' H8 iv => ?_)
      · walk_at "kk"
        refine k_setdefB ?_
        walk_at "kk"
        refine ⟨d, kvs, rfl, db7, ?_⟩
        walk_at "kk"
        obtain ⟨ya, ydx, yfs, ye1, ye2, ye3⟩ := ste_m (m := "sight") M7 (by decide) (by decide) (by decide) (by decide) (by decide)
        refine ⟨ya, ydx, yfs, ye1, ye2, ye3, ?_⟩
        walk_at "kk"
        refine ⟨.ref ma, t, z, v, xs, ss, es, rfl, M7, okx t tm, by omega, by omega, fun p11 H11 s11 e11 => ?_⟩
        walk_at "kk"
        intro l12 H12 s12 n12 e12
        walk_at "kk"
        have s7 := s11.trans s12
        have db12 := db7.up s7
        have g12 : Gr [p] H4 H12 := g7.trans (Gr.of s7)
        have p12 := p7.same s7
        have lots12 : LotsOk H4 H12 p d z v ss es i kvs := lots.up (Gr.of s7) (Nat.le_refl _)
        refine ⟨kvs, p11, _, skey v t ss, db12, by omega, rfl, s12 _ _ e11, skey_of v t ss, fun r hr => ?_, fun hn2 H13 db13 keep gone => ?_⟩
        · obtain ⟨q1, hq1, hq2, hq3⟩ := valV_mem hr
          obtain ⟨m, ts, em, ne, la⟩ := lots12 q1 hq1
          subst hq3
          rw [em]
          walk_at "kk"
          refine hN _ _ ⟨m, kvs, ts, g12, p12, db12, by omega, fun q hq _ => lots12 q hq, fun q hq e => ?_, by rw [← hq2]; exact la, rfl⟩
          obtain ⟨m', ts', em', ne', la'⟩ := lots12 q hq
          rw [em'] at e
          cases V.ref.inj e
          have : ts' = ts := map_str_inj (HO.lst.inj (Option.some.inj (la'.at_.symm.trans la.at_)))
          subst this
          obtain ⟨u0, hu0⟩ : ∃ u0, u0 ∈ ts' := by
            cases ts' with
            | nil => exact absurd rfl ne
            | cons a r => exact ⟨a, List.mem_cons_self⟩
          rw [← (la'.all u0 hu0).2, (la.all u0 hu0).2, hq2]
        · have ld : l12 ≠ d := by
            rintro rfl
            obtain ⟨xx, exx, _⟩ := db7.up s11
            rw [n12] at exx
            cases exx
          have n4 : H4 l12 = none := by
            cases hz : H4 l12 with
            | none => rfl
            | some o =>
              have lp : l12 ≠ p := (p7.same s11).ne n12 |> Ne.symm
              have := (g7.trans (Gr.of s11)) l12 o (by simpa using lp) hz
              rw [n12] at this
              cases this
          have lp : l12 ≠ p := ((p7.same s11).ne n12).symm
          have gd : ∀ a o, a ≠ d → H12 a = some o → H13 a = some o := fun a o => keep a o
          walk_at "kk"
          refine hN _ _ ⟨l12, _, [], fun a o na e => keep a o (fun zz => ?_) (g12 a o na e), ?_, db13, ?_, fun q hq nq => ?_, fun q hq e => ?_, ⟨n4, lp, ld, keep _ _ ld e12, by simp, by simp⟩, rfl⟩
          · subst zz
            rw [nd] at e
            cases e
          · obtain ⟨a1, b1, k1, e1, r1⟩ := p12
            exact ⟨a1, b1, k1, keep p _ pd e1, r1⟩
          · have := length_putK kvs (skey v t ss) (V.ref l12)
            omega
          · rcases putK_mem q hq with h | h
            · obtain ⟨m', ts', em', ne', la'⟩ := lots12 q h
              exact ⟨m', ts', em', ne', la'.to ((keep m' _ la'.nd la'.at_).trans la'.at_.symm) (Nat.le_refl _)⟩
            · subst h
              exact absurd rfl nq
          · rcases putK_mem q hq with h | h
            · obtain ⟨m', ts', em', ne', la'⟩ := (lots.up (Gr.of s11) (Nat.le_refl _) : LotsOk H4 H11 p d z v ss es i kvs) q h
              rw [em'] at e
              cases V.ref.inj e
              have := la'.at_
              rw [n12] at this
              cases this
            · subst h
              rfl
      · obtain ⟨m, kvs', ts, g8, p8, db8, lk8, others, own, la, rfl⟩ := iv
        have fl := la.few
        walk_at "kk"
        refine k_appV rfl rfl la.at_ (by rw [List.length_map]; omega) ?_
        have lots9 := LotsOk.add (H' := upd H8 m (.lst (ts.map V.str ++ [.str t]))) others own la tok rfl
        have g9 : Gr [p] H4 (upd H8 m (.lst (ts.map V.str ++ [.str t]))) := fun a o na e => by
          have : a ≠ m := fun zz => by
            subst zz
            rw [la.n0] at e
            cases e
          rw [upd_ne this]
          exact g8 a o na e
        have p9 : Pu (upd H8 m (.lst (ts.map V.str ++ [.str t]))) p (n + 4000000 + i * 3000) := p8.up (upd_ne la.np.symm) (Nat.le_refl _)
        have db9 : DB P w (upd H8 m (.lst (ts.map V.str ++ [.str t]))) d kvs' := by
          obtain ⟨xs1, e, r, l⟩ := db8
          refine ⟨xs1, by rw [upd_ne la.nd.symm]; exact e, r.keeps fun b ys q => ?_, l⟩
          rw [upd_ne (ne_of q la.at_ (fun z => nomatch z))]
          exact q
        generalize upd H8 m (.lst (ts.map V.str ++ [.str t])) = H9 at lots9 g9 p9 db9
        have T9 := Evl.ex_t (g9.hd.trans (hd_same _ _)) T4
        have B9 := Evl.ex_t (g9.hd.trans (hd_same _ _)) B4
        walk_at "kk"
        refine ⟨p, t, z, _, rfl, p9, by omega, zl.1, by omega, by omega, tm, fun H10 lo g10 p10 mlo llo1 llo2 => ?_⟩
        have T10 := Evl.ex_t ((g9.trans g10).hd.trans (hd_same _ _)) T4
        have B10 := Evl.ex_t ((g9.trans g10).hd.trans (hd_same _ _)) B4
        walk_at "kk"
        refine ⟨p, z, bX es + 1, bX es + 5, _, rfl, by omega, by omega, by omega, zl.1, by omega, p10, by omega, fun H11 ag g11 p11 mag lag1 lag2 => ?_⟩
        walk_at "kk"
        intro l12 H12 s12 n12 e12
        have g12 : Gr [p] H9 H12 := g10.trans (g11.trans (Gr.of s12))
        have p12 := p11.same s12
        obtain ⟨py9, ep9⟩ := p9.lst
        have fin : ∀ (H' : Hp) (y : Str), Gr [p] H12 H' → Pu H' p (n + 4000000 + i * 3000 + 2900) → TxOk z es y → Gr [p] H4 H' ∧ Pu H' p (n + 4000000 + (i + 1) * 3000) ∧ (∃ kvs, DB P w H' d kvs ∧ kvs.length ≤ i + 1 ∧ LotsOk H4 H' p d z v ss es (i + 1) kvs) ∧ ∃ (t' : Str) (y6 y7 y8 y9 : Option V), TxOk z es t' ∧ [some (V.ref p), some (.ref nt), some (.ref ma), some (.ref bb), some (.ref d), some (.str y), some (.int (i : Nat)), some (.ref m), some (.str lo), some (.str ag), none, none, none] = [some (.ref p), some (.ref nt), some (.ref ma), some (.ref bb), some (.ref d), some (.str t'), y6, y7, y8, y9, none, none, none] := fun H' y gy py ty =>
          ⟨g9.trans (g12.trans gy), py.up rfl (by omega), ⟨kvs', DB.gr db9 ep9 (g12.trans gy), lk8, lots9.up (g12.trans gy) (Nat.le_refl _)⟩, y, _, _, _, _, ty, rfl⟩
        have agok : TxOk z es ag := ⟨mag, by omega, by omega⟩
        walk_at "kk"
        refine k_ite (fun hb => ?_) (fun hb => ?_)
        · walk_at "kk"
          refine .inr ⟨true, rfl, ?_⟩
          show rIx K (V.ref l12) (V.int 1) H12 _
          apply k_rv
          · exact rv_ixL (Evl.sq_of e12) (at_int (by decide) rfl)
          walk_at "kk"
          exact fin H12 ag Gr.refl (p12.up rfl (by omega)) agok
        · have lo60 : lo.length ≤ 60 := by
            have := of_decide_eq_false hb
            omega
          walk_at "kk"
          refine ⟨p, 3, _, rfl, by omega, by omega, p12, by omega, fun H13 dd g13 p13 dd1 dd2 => ?_⟩
          have e13 := g13 l12 _ (by simpa using (p11.ne n12).symm) e12
          walk_at "kk"
          refine .inr ⟨_, rfl, ?_⟩
          cases hd0 : decide (dd = 0) with
          | true =>
            show rIx K (V.ref l12) (V.int 1) H13 _
            apply k_rv
            · exact rv_ixL (Evl.sq_of e13) (at_int (by decide) rfl)
            walk_at "kk"
            exact fin H13 ag g13 (p13.up rfl (by omega)) agok
          | false =>
            show rIx K (V.ref l12) (V.int 0) H13 _
            apply k_rv
            · exact rv_ixL (Evl.sq_of e13) (at_int (by decide) rfl)
            walk_at "kk"
            exact fin H13 lo g13 (p13.up rfl (by omega)) ⟨mlo, by omega, by omega⟩
    · obtain ⟨g7, p7, ⟨kvs, db7, lk, lots⟩, t, y6, y7, y8, y9, tok, rfl⟩ := iv
      walk_at "kk"
      refine k_forVB ?_
      walk_at "kk"
      refine ⟨d, kvs, rfl, db7, fun des deo => ?_⟩
      have gx7 : Gr [p] H4 (upd H7 d (DXo d des deo)) := fun a o na e => by
        have : a ≠ d := fun zz => by
          subst zz
          rw [nd] at e
          cases e
        rw [upd_ne this]
        exact g7 a o na e
      have lots7 : LotsOk H4 (upd H7 d (DXo d des deo)) p d z v ss es 24 kvs := fun q hq => by
        obtain ⟨m, ts, e1, e2, l⟩ := lots q hq
        exact ⟨m, ts, e1, e2, l.to (upd_ne l.nd) (Nat.le_refl _)⟩
      have p8 : Pu (upd H7 d (DXo d des deo)) p (n + 4000000 + 24 * 3000) := p7.up (upd_ne pd) (Nat.le_refl _)
      have ed8 : (upd H7 d (DXo d des deo)) d = some (DXo d des deo) := upd_same
      generalize upd H7 d (DXo d des deo) = H8 at gx7 lots7 p8 ed8
      refine for_go (walk_V (vs := kvs.map (·.2))) (fun i σ H' => Gr [p] H8 H' ∧ Pu H' p (n + 4000000 + 24 * 3000 + i * 3000) ∧ ∃ (y5 y6 y7 y8 y9 y10 y11 y12 : Option V), σ = [some (.ref p), some (.ref nt), some (.ref ma), some (.ref bb), some (.ref d), y5, y6, y7, y8, y9, y10, y11, y12]) ⟨Gr.refl, p8.up rfl (by omega), _, _, _, _, _, _, _, _, rfl⟩ (fun i σ H' _ iv => iv.1 d _ (by simpa using pd.symm) ed8) (fun i u σ Ha Hb hi iv hy => ?_) (fun σ H9 iv => ?_)
      · obtain ⟨g9, p9, y5, y6, y7, y8, y9, y10, y11, y12, rfl⟩ := iv
        obtain ⟨rfl, rfl⟩ := hy
        rw [List.length_map] at hi
        obtain ⟨m, ts, em, ne, la⟩ := lots7 kvs[i] (List.getElem_mem hi)
        have ex : (kvs.map (·.2)).getD i .non = .ref m := by
          rw [List.getD_eq_getElem?_getD, List.getElem?_map, List.getElem?_eq_getElem hi]
          exact em
        rw [ex]
        have g49 := gx7.trans g9
        have T9 := Evl.ex_t (g49.hd.trans (hd_same _ _)) T4
        have B9 := Evl.ex_t (g49.hd.trans (hd_same _ _)) B4
        obtain ⟨dn, hdn⟩ := Int.eq_ofNat_of_zero_le bd0.1
        walk_at "kk"
        refine ⟨p, z, bD ss, bD ss + 1, _, rfl, by omega, by omega, by omega, zl.1, by omega, p9, by omega, fun H10 en g10 p10 men len1 len2 => ?_⟩
        have la10 := (la.up g9 (Nat.le_refl _)).up g10 (Nat.le_refl _)
        generalize hkey : kvs[i].fst = key at la10
        clear la lots7
        have few := la10.few
        obtain ⟨w0, hw0⟩ : ∃ w0, ∀ t ∈ ts, stemF (tl v) ss (tl t ++ tl en) = tl t ++ w0 := by
          cases ts with
          | nil => exact absurd rfl ne
          | cons t0 r =>
            obtain ⟨w0, a0, _⟩ := fronts_same (v := v) (x := t0) (y := t0) (w := en) (ss := ss) rfl (by omega)
            refine ⟨w0, fun t ht => ?_⟩
            have k1 := (la10.all t ht).2
            have k0 := (la10.all t0 List.mem_cons_self).2
            obtain ⟨w1, b1, b2⟩ := fronts_same (w := en) (skey_inj (k1.trans k0.symm)) (by omega)
            rw [b1, List.append_cancel_left (b2.symm.trans a0)]
        have lw0 : w0.length ≤ 400 := by
          obtain ⟨t0, ht0⟩ : ∃ t0, t0 ∈ ts := by
            cases ts with
            | nil => exact absurd rfl ne
            | cons a r => exact ⟨a, List.mem_cons_self⟩
          have h := stemF_len (vs := tl v) ss (tl t0 ++ tl en) (fun s hs => szw.sp s hs)
          rw [hw0 t0 ht0, List.length_append, List.length_append, ← len_tl en] at h
          omega
        have gx : ∀ j, j < ts.length → (ts.map V.str).getD j .non = .str (ts.getD j "") := fun j hj => by rw [List.getD_eq_getElem?_getD, List.getElem?_map, List.getElem?_eq_getElem hj, List.getD_eq_getElem?_getD, List.getElem?_eq_getElem hj]; rfl
        have gm : ∀ j, j < ts.length → ts.getD j "" ∈ ts := fun j hj => by
          rw [List.getD_eq_getElem?_getD, List.getElem?_eq_getElem hj]
          exact List.getElem_mem hj
        have tk : ∀ j, j < ts.length → ts.take (j + 1) = ts.take j ++ [ts.getD j ""] := fun j hj => by
          rw [List.take_add_one, List.getElem?_eq_getElem hj, List.getD_eq_getElem?_getD, List.getElem?_eq_getElem hj]
          rfl
        have g410 := g49.trans g10
        have M10 := M4.up (g410.hd.trans (hd_same _ _))
        walk_at "kk"
        refine k_onL (Evl.sq_of la10.at_) (lc_go (walk_L (xs := ts.map V.str)) (fun E' j H' => H10 E' = none ∧ Gr [E'] H10 H' ∧ H' E' = some (.lst ((ts.take j).map fun t => V.str (mk (tl t ++ w0))))) (by intro _; rfl) (fun E' hE => ?_) (fun E' j H' _ iv => ?_) (fun E' j x Hc Hd hj iv hy => ?_) (fun E' H11 iv => ?_))
        · exact ⟨hE, Gr.new hE, upd_same⟩
        · exact ((iv.2.1.less iv.1).same).seq (Evl.sq_of la10.at_)
        · obtain ⟨nE, gE, eE⟩ := iv
          obtain ⟨rfl, rfl⟩ := hy
          have sE := (gE.less nE).same
          rw [List.length_map] at hj
          rw [gx j hj]
          have hmem := gm j hj
          obtain ⟨⟨tm, tlo, thi⟩, _⟩ := la10.all _ hmem
          have st := hw0 _ hmem
          rw [tk j hj, List.map_append]
          generalize ts.getD j "" = t1 at hmem tm tlo thi st
          have Mc := M10.up sE
          have lt1e := len_app t1 en
          have mte : ∀ c ∈ tl (t1 ++ en), c ∈ tl z := fun c hc => by
            rw [tl_app] at hc
            exact (List.mem_append.mp hc).elim (tm c) (men c)
          have nex : valV (exK es) (.inr (t1 ++ en)) = none := no_exc fun e he => by
            have := bX_ge e he
            omega
          walk_at "kk"
          obtain ⟨xa, xdx, xfs, xe1, xe2, xe3⟩ := ste_m (m := "stem") Mc (by decide) (by decide) (by decide) (by decide) (by decide)
          refine ⟨xa, xdx, xfs, xe1, xe2, xe3, ?_⟩
          walk_at "kk"
          refine ⟨.ref ma, t1 ++ en, z, v, xs, ss, es, rfl, Mc, okx _ mte, by omega, by omega, szw, nex, fun H12 s12 => ?_⟩
          rw [tl_app, st]
          refine k_add (s12 _ _ eE) (by rw [List.length_map, List.length_take]; omega) ⟨nE, (gE.trans (Gr.of s12)).trans (Gr.mut (by simp)), ?_⟩
          rw [upd_same]
          rfl
        · obtain ⟨nE, gE, eE⟩ := iv
          have s11 := (gE.less nE).same
          rw [List.length_map, List.take_length] at eE
          have am := s11 _ _ la10.at_
          walk_at "kk"
          refine k_lcZL ?_
          walk_at "kk"
          have cut2 : ∀ t : Str, t.length ≤ 64 → cutS (mk (tl t ++ w0)) none (some (t.length : Int)) = t ∧ cutS (mk (tl t ++ w0)) (some (t.length : Int)) none = mk w0 ∧ (mk (tl t ++ w0)).length ≤ 464 := fun t ht => by
            have ltt := len_tl t
            have ll : (mk (tl t ++ w0)).length = t.length + w0.length := by rw [len_mk, List.length_append, ← len_tl]
            refine ⟨?_, ?_, by omega⟩
            · rw [tl_cut_to (by omega), tl_mk', ltt, List.take_left' rfl]
              exact TL.mk_tl t
            · rw [tl_cut_from (by omega), tl_mk', ltt, List.drop_left' rfl]
          have gy : ∀ j, j < ts.length → (ts.map fun t => V.str (mk (tl t ++ w0))).getD j .non = .str (mk (tl (ts.getD j "") ++ w0)) := fun j hj => by rw [List.getD_eq_getElem?_getD, List.getElem?_map, List.getElem?_eq_getElem hj, List.getD_eq_getElem?_getD, List.getElem?_eq_getElem hj]; rfl
          have lz : (ts.map V.str).length = (ts.map fun t => V.str (mk (tl t ++ w0))).length := by rw [List.length_map, List.length_map]
          refine k_onZL (Evl.sq_of am) (Evl.sq_of eE) (lc_goG (walk_ZL lz) (fun F j H' => H11 F = none ∧ Gr [F] H11 H' ∧ H' F = some (.lst [])) (fun F hF => ?_) (fun F j H' _ iv => ?_) (fun F j x Hc Hd hj iv hy => ?_) (fun F H12 iv => ?_))
          · exact ⟨hF, Gr.new hF, upd_same⟩
          · exact ⟨(iv.2.1.less iv.1).same.seq (Evl.sq_of am), (iv.2.1.less iv.1).same.seq (Evl.sq_of eE)⟩
          · obtain ⟨nF, gF, eF⟩ := iv
            obtain ⟨T0, rfl, hT, rfl⟩ := hy
            rw [List.length_map] at hj
            refine k_unp2 (Evl.st_of upd_same) ?_
            refine ⟨rfl, ?_⟩
            have TF : T0 ≠ F := fun zz => by rw [zz, eF] at hT; cases hT
            rw [gx j hj, gy j hj]
            have hmem := gm j hj
            obtain ⟨⟨tm, tlo, thi⟩, _⟩ := la10.all _ hmem
            generalize ts.getD j "" = t1 at tm tlo thi
            obtain ⟨c1, c2, c3⟩ := cut2 t1 thi
            walk_at "kk"
            rw [c1, decide_eq_true rfl]
            walk_at "kk"
            exact ⟨nF, gF.trans (Gr.new hT), by rw [upd_ne TF.symm]; exact eF⟩
          · obtain ⟨nF, gF, eF⟩ := iv
            have s12 := (gF.less nF).same
            walk_at "kk"
            intro l13 H13 s13 n13 e13
            refine k_neNil (ts := []) (fun t ht => nomatch ht) (Evl.sq_of (s13 _ _ eF)) (Evl.sq_of e13) ?_
            rw [decide_eq_false (by simp)]
            walk_at "kk"
            refine k_lenSetL ?_
            refine k_lcZL ?_
            walk_at "kk"
            have s1113 := s12.trans s13
            have am13 := s1113 _ _ am
            have eE13 := s1113 _ _ eE
            refine k_onZL (Evl.sq_of am13) (Evl.sq_of eE13) (lc_goG (walk_ZL lz) (fun F j H' => H13 F = none ∧ Gr [F] H13 H' ∧ H' F = some (.lst ((List.replicate j (mk w0)).map V.str))) (fun F hF => ?_) (fun F j H' _ iv => ?_) (fun F j x Hc Hd hj iv hy => ?_) (fun F H14 iv => ?_))
            · exact ⟨hF, Gr.new hF, upd_same⟩
            · exact ⟨(iv.2.1.less iv.1).same.seq (Evl.sq_of am13), (iv.2.1.less iv.1).same.seq (Evl.sq_of eE13)⟩
            · obtain ⟨nF, gF, eF⟩ := iv
              obtain ⟨T0, rfl, hT, rfl⟩ := hy
              rw [List.length_map] at hj
              refine k_unp2 (Evl.st_of upd_same) ?_
              refine ⟨rfl, ?_⟩
              have TF : T0 ≠ F := fun zz => by rw [zz, eF] at hT; cases hT
              rw [gx j hj, gy j hj]
              have hmem := gm j hj
              obtain ⟨⟨tm, tlo, thi⟩, _⟩ := la10.all _ hmem
              generalize ts.getD j "" = t1 at tm tlo thi
              obtain ⟨c1, c2, c3⟩ := cut2 t1 thi
              walk_at "kk"
              rw [c2]
              have eF' : (upd Hc T0 (.tup [V.str t1, V.str (mk (tl t1 ++ w0))])) F = some (.lst ((List.replicate j (mk w0)).map V.str)) := by rw [upd_ne TF.symm]; exact eF
              refine k_add eF' (by rw [List.length_map, List.length_replicate]; omega) ⟨nF, (gF.trans (Gr.new hT)).trans (Gr.mut (by simp)), ?_⟩
              rw [upd_same, List.replicate_succ', List.map_append]
              rfl
            · obtain ⟨nF, gF, eF⟩ := iv
              rw [List.length_map] at eF
              have s14 := (gF.less nF).same
              refine ⟨F, _, rfl, Evl.sq_of eF, by rw [List.length_replicate]; omega, ?_⟩
              have one : nuL (List.replicate ts.length (mk w0)) = 1 := nuL_same (x := mk w0) (fun zz => by
                have := congrArg List.length zz
                rw [List.length_replicate] at this
                exact ne (List.length_eq_zero_iff.mp this)) (fun y hy => List.eq_of_mem_replicate hy)
              rw [one]
              walk_at "kk"
              refine ⟨g9.trans (g10.trans (Gr.of (s11.trans (s1113.trans s14)))), ?_, _, _, _, _, _, _, _, _, rfl⟩
              exact (((p10.same s11).same s1113).same s14).up rfl (by omega)
      · obtain ⟨g9, p9, y5, y6, y7, y8, y9, y10, y11, y12, rfl⟩ := iv
        walk_at "kk"
        exact q H9 (g4.trans (gx7.trans g9)) (p9.up rfl (by rw [List.length_map]; omega))
end
set_option Elab.async false
set_option linter.all false
set_option maxRecDepth 100000
set_option maxHeartbeats 4000000
section
variable {P : Program} {w : World} {K : PySem.W.Frag} {mg : Str → Option Value} {base : Heap}
def c0B : C0 → Bool
  | .runs m => decide (0 ≤ m)
  | .least m => decide (0 ≤ m)
  | .ends ts => decide (ts.length ≤ 50000) && ts.all fun t => decide (t.length ≤ 50000) && (tl t).all fun c => decide (c < 1114112)
  | .shape s => decide (s.length ≤ 50000) && (tl s).all fun c => decide (c = 118) || decide (c = 111)
  | _ => true
theorem c0B_ok {c : C0} (h : c0B c = true) : ok0 c ∧ sz0 c ∧ ow0 c ∧ ∀ s, c = .shape s → okS s := by
  cases c with
  | vowel | double => exact ⟨trivial, trivial, trivial, fun _ e => nomatch e⟩
  | runs m | least m => exact ⟨(of_decide_eq_true (show decide (0 ≤ m) = true from h) : (0 : Int) ≤ m), trivial, trivial, fun _ e => nomatch e⟩
  | ends ts =>
    have h1 := Bool.and_eq_true_iff.mp h
    have h2 := List.all_eq_true.mp h1.2
    refine ⟨trivial, ⟨of_decide_eq_true h1.1, fun t ht => ?_⟩, fun t ht c hc => ?_, fun _ e => nomatch e⟩
    · exact of_decide_eq_true (Bool.and_eq_true_iff.mp (h2 t ht)).1
    · exact of_decide_eq_true (List.all_eq_true.mp (Bool.and_eq_true_iff.mp (h2 t ht)).2 c hc)
  | shape s =>
    have h1 := Bool.and_eq_true_iff.mp h
    have h2 : ∀ c ∈ tl s, c = 118 ∨ c = 111 := fun c hc => (Bool.or_eq_true_iff.mp (List.all_eq_true.mp h1.2 c hc)).imp of_decide_eq_true of_decide_eq_true
    refine ⟨h2, (of_decide_eq_true h1.1 : s.length ≤ 50000), trivial, fun s' e c hc => ?_⟩
    cases e
    rcases h2 c hc with rfl | rfl <;> decide
def fitB : Cond → Bool
  | .pos c => c0B c
  | .neg c => c0B c
theorem cfit {c : Cond} (h : fitB c = true) : Fit c := by
  cases c with
  | pos c =>
    obtain ⟨o, s, ow, sh⟩ := c0B_ok h
    exact fit_pos o s ow sh
  | neg c =>
    obtain ⟨o, s, ow, sh⟩ := c0B_ok h
    exact fit_neg o s ow sh
def letB (r : RD) : Bool := (decide (r.e.length ≤ 50000) && decide (r.p.length ≤ 50000)) && (isWordOf (.str r.e) alph && (isTextOf (.str r.p) alph && decide (r.cs.length ≤ 50000)))
theorem letB_ok {r : RD} (h : letB r = true) (f : ∀ c ∈ r.cs, Fit c) : Let r := by
  have h1 := Bool.and_eq_true_iff.mp h
  have h2 := Bool.and_eq_true_iff.mp h1.1
  have h3 := Bool.and_eq_true_iff.mp h1.2
  have h4 := Bool.and_eq_true_iff.mp h3.2
  exact ⟨of_decide_eq_true h2.1, of_decide_eq_true h2.2, h3.1, h4.1, of_decide_eq_true h4.2, f⟩
theorem rule_madeR (T : Txt K mg) {H : Hp} {e p : Str} {Q : VK} {E : XK} (b : letB ⟨e, p, []⟩ = true) (k : ∀ x H', Same H H' → RuA K T.C_Rule H' x ⟨e, p, []⟩ → Q x H') :
    madeR T.C_Rule (spRule T) [.ref T.e_Rule_conditions] E [.str e, .str p] H Q := fun x dx h1 h2 ne => rule_ok T ⟨_, true, [], rfl, T.te_Rule_conditions H, .nil⟩ (letB_ok b (fun _ h => nomatch h)) h1 h2 ne k
theorem rule_madeC (T : Txt K mg) {H : Hp} {r : RD} {c : V} {Q : VK} {E : XK} (hc : condsAt K H c r.cs) (b : (letB r && r.cs.all fitB) = true) (k : ∀ x H', Same H H' → RuA K T.C_Rule H' x r → Q x H') :
    madeK T.C_Rule 2 1 (spRule T) (fun vs zs => vs ++ pick [0] zs) E [.str r.e, .str r.p] [c] H Q :=
  rule_madeK T hc (letB_ok (Bool.and_eq_true_iff.mp b).1 fun c hc => cfit (List.all_eq_true.mp (Bool.and_eq_true_iff.mp b).2 c hc)) k
theorem step_madeR (T : Txt K mg) {H : Hp} {rs : List RD} {r : V} {Q : VK} {E : XK} (hr : rulesOk T r H rs) (nd : (rs.map RD.e).Nodup)
    (k : ∀ x H', Same H H' → StA K T.C_Step T.C_Rule H' x ⟨rs, "longest"⟩ → Q x H') : madeR T.C_Step (spStep T) [.str "longest"] E [r] H Q := fun x dx h1 h2 ne => step_ok T (s := ⟨rs, "longest"⟩) hr (okB_ok (show okB "longest" = true by decide +kernel)) (show isMode (.str "longest") = true by decide +kernel) (fun _ => nd) h1 h2 ne k
def szRB (r : RD) : Bool := decide ((textsOf r).length ≤ 1000) && (decide (r.cs.length ≤ 1000) && (textsOf r).all fun t => decide (t.length ≤ 50000))
theorem szRB_ok {r : RD} (h : szRB r = true) : SzR r := by
  have h1 := Bool.and_eq_true_iff.mp h
  have h2 := Bool.and_eq_true_iff.mp h1.2
  exact ⟨of_decide_eq_true h1.1, of_decide_eq_true h2.1, fun t ht => of_decide_eq_true (List.all_eq_true.mp h2.2 t ht)⟩
def szCB (c : C0) : Bool := (texts1 c).all (fun x => decide (x.length ≤ 50000)) && (decide ((texts1 c).length ≤ 50000) && (match c with
  | .shape x => decide (x.length ≤ 50000)
  | _ => true))
def szSB (ss : List SD) : Bool := decide (ss.length ≤ 1000) && (ss.all (fun s => decide (s.rs.length ≤ 1000) && s.rs.all szRB) && (decide ((condsS ss).length ≤ 1000) && (condsS ss).all szCB))
theorem szSB_ok {ss : List SD} (h : szSB ss = true) (nn : ∀ c ∈ condsS ss, 0 ≤ numC c) : SzS ss := by
  have h1 := Bool.and_eq_true_iff.mp h
  have h2 := Bool.and_eq_true_iff.mp h1.2
  have h3 := Bool.and_eq_true_iff.mp h2.2
  have a : ∀ s ∈ ss, s.rs.length ≤ 1000 ∧ ∀ r ∈ s.rs, SzR r := fun s hs => by
    have z := Bool.and_eq_true_iff.mp (List.all_eq_true.mp h2.1 s hs)
    exact ⟨of_decide_eq_true z.1, fun r hr => szRB_ok (List.all_eq_true.mp z.2 r hr)⟩
  refine ⟨of_decide_eq_true h1.1, fun s hs => (a s hs).1, fun s hs => (a s hs).2, of_decide_eq_true h3.1, fun c hc => ?_, nn⟩
  have z := Bool.and_eq_true_iff.mp (List.all_eq_true.mp h3.2 c hc)
  have z2 := Bool.and_eq_true_iff.mp z.2
  refine ⟨fun x hx => of_decide_eq_true (List.all_eq_true.mp z.1 x hx), of_decide_eq_true z2.1, fun x e => ?_⟩
  subst e
  exact of_decide_eq_true z2.2
def letSB (s : SD) : Bool := decide (s.rs.length ≤ 1000) && (s.rs.all (fun r => letB r && r.cs.all fitB) && (okB s.mode && (isMode (.str s.mode) && decide ((s.rs.map RD.e).Nodup))))
theorem letSB_ok {s : SD} (h : letSB s = true) : LetS s := by
  have h1 := Bool.and_eq_true_iff.mp h
  have h2 := Bool.and_eq_true_iff.mp h1.2
  have h3 := Bool.and_eq_true_iff.mp h2.2
  have h4 := Bool.and_eq_true_iff.mp h3.2
  exact ⟨of_decide_eq_true h1.1, fun r hr => by
    have z := Bool.and_eq_true_iff.mp (List.all_eq_true.mp h2.1 r hr)
    exact letB_ok z.1 fun c hc => cfit (List.all_eq_true.mp z.2 c hc), okB_ok h3.1, h4.1, fun _ => of_decide_eq_true h4.2⟩
def goodB1 (L W : Str) (ss : List SD) : Bool := ((decide (L.length ≤ 4000) && decide (L.cps.size ≤ 4000)) && (isLets (.str L) && ((decide (W.length ≤ 4000) && decide (W.cps.size ≤ 4000)) && (isChoice (.str W) L && (decide (vowelsOf L W = W) && (szSB ss && ((condsS ss).all (fun c => decide (0 ≤ numC c)) && (ss.all (fun s => s.rs.all (fitsR L)) && ss.all letSB))))))))
def goodB2 (L : Str) (es : List (Str × Str)) : Bool := decide (es.length ≤ 1000) && es.all fun p => (decide (p.1.length ≤ 50000) && decide (p.2.length ≤ 50000)) && (isWordOf (.str p.1) L && isTextOf (.str p.2) L)
theorem good_lit {L W : Str} {ss : List SD} {es : List (Str × Str)} (h : goodB1 L W ss = true) (g : goodB2 L es = true) : Good L W ss es := by
  have a1 := Bool.and_eq_true_iff.mp h
  have a0 := Bool.and_eq_true_iff.mp a1.1
  have a2 := Bool.and_eq_true_iff.mp a1.2
  have a3 := Bool.and_eq_true_iff.mp a2.2
  have a30 := Bool.and_eq_true_iff.mp a3.1
  have a4 := Bool.and_eq_true_iff.mp a3.2
  have a5 := Bool.and_eq_true_iff.mp a4.2
  have a6 := Bool.and_eq_true_iff.mp a5.2
  have a7 := Bool.and_eq_true_iff.mp a6.2
  have a8 := Bool.and_eq_true_iff.mp a7.2
  have b1 := Bool.and_eq_true_iff.mp g
  have bp : ∀ p ∈ es, (p.1.length ≤ 50000 ∧ p.2.length ≤ 50000) ∧ (isWordOf (.str p.1) L && isTextOf (.str p.2) L) = true := fun p hp => by
    have z := Bool.and_eq_true_iff.mp (List.all_eq_true.mp b1.2 p hp)
    have z1 := Bool.and_eq_true_iff.mp z.1
    exact ⟨⟨of_decide_eq_true z1.1, of_decide_eq_true z1.2⟩, z.2⟩
  exact ⟨⟨of_decide_eq_true a0.1, of_decide_eq_true a0.2⟩, a2.1, ⟨of_decide_eq_true a30.1, of_decide_eq_true a30.2⟩, a4.1, of_decide_eq_true a5.1, szSB_ok a6.1 (fun c hc => of_decide_eq_true (List.all_eq_true.mp a7.1 c hc)), List.all_eq_true.mp a8.1, fun s hs => letSB_ok (List.all_eq_true.mp a8.2 s hs), ⟨of_decide_eq_true b1.1, fun p hp => (bp p hp).1.1, fun p hp => (bp p hp).1.2⟩, fun p hp => (bp p hp).2⟩
theorem stem_rightR (T : Txt K mg) {L W : Str} {ss : List SD} {s : V} {xs : List V} {t : Bool} {sa : Addr} {H : Hp} {N : VK} {E : XK} (g : Good L W ss []) (es' : s = .ref sa) (hx : SqB K t H sa xs) (hs : StAll T H xs ss)
    (q : ∀ v H', Same H H' → Ste T H' v L W xs ss [] → N v H') : madeR T.C_Stemmer (spStemmer T) [.non] E [.str L, .str W, s] H N := fun _ _ h1 h2 _ => stem_right T g es' hx hs (.inl ⟨rfl, rfl⟩) h1 h2 q
theorem runs_dp {H : Hp} {a : Addr} {m : Int} (h : SqT K H a [.str "runs", .int m]) : Dp K H (.ref a) (enc (.pos (.runs m))) := .tup h (.cons (.str _) (.cons (.int _) .nil))
theorem StAll.cons {T : Txt K mg} {H : Hp} {x : V} {s : SD} {xs : List V} {ss : List SD} (h : StA K T.C_Step T.C_Rule H x s) (r : StAll T H xs ss) : StAll T H (x :: xs) (s :: ss) := StAll.app (StAll.one h) r
theorem StAll.nil {T : Txt K mg} {H : Hp} : StAll T H [] [] := ⟨rfl, fun i s e => by simp at e⟩
abbrev rZ1 : RD := ⟨"b", "", [.pos (.runs 1)]⟩
abbrev rZ2 : RD := ⟨"ab", "b", []⟩
abbrev ssZ : List SD := [⟨[rZ1, rZ2], "longest"⟩]
theorem goodZ : Good "ab" "a" ssZ [] := good_lit (by decide +kernel) (by decide +kernel)
theorem sgZ1 : sgO "a" "ba" (bM ssZ) (bK ssZ) (bC ssZ) = fo "a" true 0 0 := by decide +kernel
theorem sgZ2 : sgO "a" "aa" (bM ssZ) (bK ssZ) (bC ssZ) = fo "a" true 0 0 := by decide +kernel
def spLaw (K : PySem.W.Frag) : Sp := fun vs H Q _ => ∃ (a : Addr) (ns : List Int), vs = [.ref a] ∧ SqL K H a (ns.map V.int) ∧ ns.length ≤ 63 ∧ ∀ H', Q (.bl true) H'
theorem ok_law (T : Txt K mg) : FnG P w K mg base 15 T.a_law T.fd_law ["script"] (spLaw K) := by
  refine T.F_law.okG sc_law (fun vs H Q E h => ?_) (fun cdv A outer s H vs Q E gd hr h => ?_)
  · obtain ⟨p, n, rfl, _⟩ := h
    rfl
  · obtain ⟨a, ns, rfl, ha, hl, q⟩ := h
    refine ⟨_, (pss_cons (ps_for PassesOwn.never rfl (pi_range1 (by rfl) T.z_range (pa_cons (pe_op (addK K) pe_int (pe_callB (call_minA rfl) (by rfl) T.z_min B_min (pa_cons pe_int (pa_cons (pe_callB (lenK K) (by rfl) T.z_len B_len (pa_cons (pv 0) pa_nil)) pa_nil)))) pa_nil)) (pg_name (i := 1) sc_law.nd rfl (Or.inl rfl)) (pss_cons (ps_set (i := 2) sc_law.nd rfl (Or.inl rfl) (pe_call (ok_law_purse T) (hr.mono (by decide)) (by rfl) T.m_law_purse T.F_law_purse.kp T.b_law_purse .nil pass0 (pa_cons (pv 0) (pa_cons (pv 1) pa_nil))))
      (pss_one (ps_for PassesOwn.never rfl (pi_range1 (by rfl) T.z_range (pa_cons pe_int pa_nil)) (pg_name (i := 3) sc_law.nd rfl (Or.inl rfl)) (pss_one (ps_if (pt_not (pt_val (pe_call (ok_law_right T) (hr.mono (by decide)) (by rfl) T.m_law_right T.F_law_right.kp T.b_law_right .nil pass0 (pa_cons (pv 2) pa_nil)))) (pss_one (ps_ret pe_bl)) pss_nil))))))
      (pss_cons (ps_set (i := 4) sc_law.nd rfl (Or.inr rfl) (pe_make T.mk_Stemmer (ok_Stemmer_init T) (hr.mono (by decide)) (by rfl) T.mc_Stemmer T.bD_Stemmer T.vD_Stemmer passL (pa_cons pe_str (pa_cons pe_str (pa_cons (pe_lst (pa_cons (pe_make T.mk_Step (ok_Step_init T) (hr.mono (by decide)) (by rfl) T.mc_Step T.bD_Step T.vD_Step passL (pa_cons (pe_lst (pa_cons (pe_makeK T.mk_Rule (ok_Rule_init T) (hr.mono (by decide)) (by rfl) T.mc_Rule T.kb_Rule_init_2_conditions passL (pa_cons pe_str (pa_cons pe_str pa_nil)) (pk_cons (pe_lst (pa_cons (pe_tup (pa_cons pe_str (pa_cons pe_int pa_nil))) pa_nil)) pk_nil)) (pa_cons (pe_make T.mk_Rule (ok_Rule_init T) (hr.mono (by decide)) (by rfl) T.mc_Rule T.bD_Rule T.vD_Rule passL (pa_cons pe_str (pa_cons pe_str pa_nil))) pa_nil))) pa_nil)) pa_nil)) pa_nil)))))
      (pss_one (ps_ret (pe_cmpR (eqK K hr) (pe_lc (own := [("text", 5)]) (by rfl) sc_law.nd (tupIK K (pe_tup (pa_cons pe_str (pa_cons pe_str pa_nil)))) (blkOk_by (N := ["script", "at", "purse", "turn", "made", "text"]) (sc := defScope s_law) (by decide +kernel)) (fun _ _ _ _ _ => (pg_name (i := 5) sc_law.nd rfl (Or.inl rfl))) (fun _ _ _ _ _ => pts_nil) (fun _ _ _ _ _ => (pe_meth (pv 4) T.cl_Stemmer T.me_Stemmer_sight (ok_Stemmer_sight T) (hr.mono (by decide)) T.bM_Stemmer_sight .nil passL (pa_cons (pv 5) pa_nil)))) (pe_op op_rep (pe_lst (pa_cons (pe_tup (pa_cons pe_str (pa_cons pe_bl (pa_cons pe_int (pa_cons pe_int pa_nil))))) pa_nil)) pe_int) (nomark _)))))), ?_⟩
    walk_at "kk"
    have hml : ((ns.map V.int).length : Int) = ns.length := by rw [List.length_map]
    rw [hml]
    obtain ⟨m, em, lm⟩ : ∃ m : Nat, (1 + if (ns.length : Int) < 6 then (ns.length : Int) else 6) = (m : Nat) ∧ m ≤ 7 := ⟨1 + (if ns.length < 6 then ns.length else 6), by split <;> split <;> omega, by split <;> omega⟩
    rw [em]
    refine k_onR1 (by omega) ?_
    rw [Int.toNat_natCast]
    refine for_go (walk_rng (n := m)) (fun i σ H' => Same H H' ∧ ∃ t1 t2 t3, σ = [some (.ref a), t1, t2, t3, none, none]) ⟨Same.refl H, none, none, none, rfl⟩ (fun _ _ _ _ _ => trivial) (fun i x σ Ha Hb hi iv hx => ?_) (fun σ H1 iv => ?_)
    · obtain ⟨s1, t1, t2, t3, rfl⟩ := iv
      obtain ⟨rfl, rfl⟩ := hx
      walk_at "kk"
      refine ⟨a, ns, i, rfl, s1.seq ha, hl, by omega, fun H2 u s2 nu pu => ?_⟩
      walk_at "kk"
      refine k_onR1 (by omega) (for_go (walk_rng (n := 2)) (fun k σ H' => Gr [u] H2 H' ∧ Pu H' u (1000 * i + k * 10000000) ∧ ∃ t3, σ = [some (.ref a), some (.int (i : Nat)), some (.ref u), t3, none, none]) ⟨Gr.refl, pu, t3, rfl⟩ (fun _ _ _ _ _ => trivial) (fun k x σ Hc Hd hk iv hx => ?_) (fun σ H3 iv => ?_))
      · obtain ⟨g3, p3, t3, rfl⟩ := iv
        obtain ⟨rfl, rfl⟩ := hx
        walk_at "kk"
        refine ⟨u, _, rfl, p3, by omega, fun H4 g4 p4 => ?_⟩
        walk_at "kk"
        exact ⟨g3.trans g4, p4.up rfl (by omega), _, rfl⟩
      · obtain ⟨g3, p3, t3, rfl⟩ := iv
        exact ⟨s1.trans (Gr.same (((Gr.of (S := [u]) s2).trans g3).less nu)), _, _, _, rfl⟩
    · obtain ⟨s1, t1, t2, t3, rfl⟩ := iv
      walk_at "kk"
      intro c1 H2 s2 f2 e2
      walk_at "kk"
      intro c2 H3 s3 f3 e3
      walk_at "kk"
      refine rule_madeC T (r := rZ1) ⟨c2, false, [.ref c1], rfl, Evl.sq_of e3, .cons (runs_dp (Evl.st_of (s3 _ _ e2))) .nil⟩ (by decide +kernel) (fun r1 H4 s4 ru1 => ?_)
      walk_at "kk"
      refine rule_madeR T (by decide +kernel) (fun r2 H5 s5 ru2 => ?_)
      walk_at "kk"
      intro l6 H6 s6 f6 e6
      walk_at "kk"
      refine step_madeR T (rs := [rZ1, rZ2]) ⟨l6, false, [r1, r2], rfl, Evl.sq_of e6, .cons (ru1.up (s5.trans s6)) (.cons (ru2.up s6) .nil), by decide⟩ (by decide +kernel) (fun st1 H7 s7 sa1 => ?_)
      walk_at "kk"
      intro l8 H8 s8 f8 e8
      have stZ := StAll.cons (sa1.up s8) StAll.nil
      walk_at "kk"
      refine stem_rightR T goodZ rfl (t := false) (Evl.sq_of e8) stZ (fun made H9 s9 ms => ?_)
      clear e2 e3 e6 e8 f2 f3 f6 f8 ru1 ru2 sa1 stZ
      walk_at "kk"
      intro tp HA sA fA eA
      have msA := ms.up sA
      refine k_onT (Evl.st_of eA) (lc_go (walk_T (xs := [.str "ba", .str "aa"])) (fun E' j H' => HA E' = none ∧ Gr [E'] HA H' ∧ ∃ as : List Addr, as.length = j ∧ H' E' = some (.lst (as.map V.ref)) ∧ ∀ b ∈ as, H' b = some (.tup (fo "a" true 0 0))) (by intro _; rfl) (fun E' hE => ?_) (fun E' j H' _ iv => ?_) (fun E' j x Hc Hd hj iv hy => ?_) (fun E' HB iv => ?_))
      · exact ⟨hE, Gr.new hE, [], rfl, upd_same, fun b hb => nomatch hb⟩
      · exact Evl.st_of ((iv.2.1.less iv.1).same _ _ eA)
      · obtain ⟨nE, gE, as, la, eE, al⟩ := iv
        obtain ⟨rfl, rfl⟩ := hy
        have sE := (gE.less nE).same
        have Mc := msA.up sE
        obtain ⟨x1, ex1, it1, sg1⟩ : ∃ x1 : Str, ([.str "ba", .str "aa"] : List V).getD j .non = .str x1 ∧ isTextOf (.str x1) "ab" = true ∧ (x1.length ≤ 50000 ∧ sgO "a" x1 (bM ssZ) (bK ssZ) (bC ssZ) = fo "a" true 0 0) := by
          have h2 : j = 0 ∨ j = 1 := by
            have : j < 2 := hj
            omega
          rcases h2 with rfl | rfl
          · exact ⟨"ba", rfl, by decide +kernel, by decide +kernel, sgZ1⟩
          · exact ⟨"aa", rfl, by decide +kernel, by decide +kernel, sgZ2⟩
        rw [ex1]
        clear ex1
        walk_at "kk"
        obtain ⟨ma, mdx, mfs, me1, me2, me3⟩ := ste_m (m := "sight") Mc (by decide) (by decide) (by decide) (by decide) (by decide)
        refine ⟨ma, mdx, mfs, me1, me2, me3, ?_⟩
        walk_at "kk"
        refine ⟨made, x1, _, _, _, _, _, rfl, Mc, it1, sg1.1, by decide +kernel, fun b Hf sf ef => ?_⟩
        rw [sg1.2] at ef
        have bE : b ≠ E' := fun z => by
          rw [z, sf _ _ eE] at ef
          cases ef
        refine k_add (sf _ _ eE) (by rw [List.length_map]; have : j < 2 := hj; omega) ⟨nE, (gE.trans (Gr.of sf)).trans (Gr.mut (by simp)), as ++ [b], by rw [List.length_append, la]; rfl, by rw [upd_same, List.map_append]; rfl, fun c hc => ?_⟩
        rcases List.mem_append.mp hc with h | h
        · have cE : c ≠ E' := fun z => by
            have := al c h
            rw [z, eE] at this
            cases this
          rw [upd_ne cE]
          exact sf _ _ (al c h)
        · rw [List.mem_singleton.mp h, upd_ne bE]
          exact ef
      · obtain ⟨nE, gE, as, la, eE, al⟩ := iv
        walk_at "kk"
        intro tq HC sC fC eC
        walk_at "kk"
        intro lq HD sD fD eD
        walk_at "kk"
        refine ⟨lq, 2, _, rfl, rfl, eD, by decide, by decide, (show 1 * 2 ≤ sizeLine by decide), fun lr fr => ?_⟩
        have la2 : as.length = 2 := la
        obtain ⟨b1, b2, rfl⟩ : ∃ b1 b2, as = [b1, b2] := by
          match as, la2 with
          | [b1, b2], _ => exact ⟨b1, b2, rfl⟩
        have sE := sC.trans (sD.trans (same_new (o := .lst (List.replicate (2 : Int).toNat [V.ref tq]).flatten) fr))
        have f1 := fo_dp (K := K) (Evl.st_of (sE _ _ (al b1 (by simp))))
        have f2 := fo_dp (K := K) (Evl.st_of (sE _ _ (al b2 (by simp))))
        have f3 := fo_dp (K := K) (t := "a") (b := true) (i := 0) (j := 0) (Evl.st_of ((sD.trans (same_new (o := .lst (List.replicate (2 : Int).toNat [V.ref tq]).flatten) fr)) _ _ eC))
        refine k_eqD (Dp.lst (Evl.sq_of (sE _ _ eE)) (.cons f1 (.cons f2 .nil))) (Dp.lst (Evl.sq_of upd_same) (.cons f3 (.cons f3 .nil))) (by decide +kernel) (by decide +kernel) ?_
        exact q _
end
end K91
set_option Elab.async false
set_option linter.all false
set_option maxRecDepth 100000
set_option maxHeartbeats 4000000
/-! what the top has left, read by one look: defs, classes, exceptions, by name -/
namespace Hy
open PySem PySem.Spec PyProof.Rows L2 He
structure FnAt (K : Frg) (d : Df) (fd : FuncData) : Prop where
  f : Fun K d.name d.qual d.st (d.loc K) fd
  kw : ∀ kws, kwC d.loc kws K = true → FunD K d.name d.qual (defArgs d.st) (defBody d.st) (defScope d.st) [] (kws K) (d.loc K) fd
theorem Df.at_ {K : Frg} {d : Df} (e : lkW K (d.loc K) = d.val) (c : d.ok K = true) : ∃ fd, FnAt K d fd := by
  obtain ⟨kp, c2⟩ := ba c
  unfold lkW at e
  cases q : K.lookup (d.loc K) with
  | none =>
    rw [q] at c2
    cases c2
  | some o =>
    obtain ⟨oc, od, dt, osl⟩ := o
    rw [q] at c2 e
    cases dt with
    | func fd =>
      obtain ⟨n1, n2, n3, n4, n5, n6, n7, n8, n9, n10, n11, n12, n13, n14, n15⟩ := fd
      have e2 : (some (n1, n2, n3, n4, n5, n6, n7, n15) : FnW) = some (d.name, d.qual, defArgs d.st, .stmts (defBody d.st), defScope d.st, mainGlobals, [], builtinsNs) := e
      simp only [Option.some.injEq, Prod.mk.injEq] at e2
      obtain ⟨h1, h2, h3, h4, h5, h6, h7, h8⟩ := e2
      subst h1 h2 h3 h4 h5 h6 h7 h8
      have c3 : (PySem.W.codeIn K n13 d.qual && dflB K n8 []) = true := c2
      obtain ⟨k1, k2⟩ := ba c3
      cases n8 with
      | none =>
        refine ⟨_, ⟨⟨oc, od, n9, n10, n11, n12, n13, n14, osl, rfl, q, k1⟩, kp⟩, fun kws hk => ?_⟩
        unfold kwC at hk
        rw [q] at hk
        exact ⟨⟨oc, od, .none, n9, n10, n11, n12, n13, n14, osl, rfl, q, k1, .inl ⟨rfl, rfl⟩, kwdB_ok hk⟩, kp⟩
      | _ => cases k2
    | _ => cases c2
theorem FnAt.arg {K : Frg} {d : Df} {fd : FuncData} {x : Str} (A : FnAt K d fd)
    (h : ∀ (kV doc pm : Value) (an : Option Addr) (cdv ct u : Value), bindArgs (PySem.W.fnOf d.name d.qual (defArgs d.st) (defBody d.st) (defScope d.st) .none kV doc pm an cdv ct) ⟨[u], []⟩ = pure [(x, u)]) : ∀ (s : Shared) (u : Value), BindsTo s fd ⟨[u], []⟩ [(x, u)] := by
  obtain ⟨oc, od, kV, doc, pm, an, cdv, ct, osl, rfl, lk, hcd⟩ := A.f.ex
  exact fun s u => .of_eq (h kV doc pm an cdv ct u)
theorem pick {l : List Ck} {K : Frg} {f : Ck} (h : allC l K = true) (j : Nat) (e : l[j]? = some f) : f K = true := List.all_eq_true.mp h f (List.mem_of_getElem? e)
theorem oexB_ok {K : Frg} {C : Addr} (h : oexB K C = true) : ∃ nm q N bs bm sn sub ab col dd k0 k1 k2 k3 k5, K.lookup C = some (excClassObj nm q C N bs bm true sn sub ab col dd k0 k1 k2 k3 k5 "ValueError.__new__") ∧ PySem.HandSPX.refsVE bm = true := by
  unfold oexB at h
  split at h
  · rename_i t dd cd sl ho
    obtain ⟨h1, h⟩ := ba h
    split at h
    · rename_i C' bm k0 k1 k2 k3 n k5 hm hs
      obtain ⟨h2, h⟩ := ba h
      obtain ⟨h3, h⟩ := ba h
      obtain ⟨h4, h⟩ := ba h
      obtain ⟨h5, h6⟩ := ba h
      have h1 := of_decide_eq_true h1
      have h2 := of_decide_eq_true h2
      have h3 := of_decide_eq_true h3
      obtain ⟨nm, bs, mro, ns, qn, hd, sn, sub, ab, col, del⟩ := cd
      dsimp only at hm h4 h5
      have h5 : del = false := by cases del <;> simp_all
      subst hm h4 h5 h1 h2 h3
      have hsl : sl = #[k0, k1, k2, k3, some (.builtin "ValueError.__new__"), k5] := by
        obtain ⟨l⟩ := sl
        simp only at hs
        rw [hs]
      subst hsl
      exact ⟨nm, qn, ns, bs, bm, sn, sub, ab, col, dd, k0, k1, k2, k3, k5, ho, h6⟩
    · cases h
  · cases h
structure ExcAt (K : Frg) (x : Str) : Prop where
  o : OexC K (ga K x)
  xf : XfC K (ga K x)
  i : PySem.W.findIn K (.ref (ga K x)) "__init__" = some (some (.ref (aM x "__init__" K)))
  t : PySem.W.typeIn K (.ref (aM x "__init__" K)) = some (.type "function")
theorem cExc_ok {K : Frg} {x : Str} (h : cExc x K = true) : ExcAt K x := by
  obtain ⟨h1, h⟩ := ba h
  obtain ⟨h2, h⟩ := ba h
  obtain ⟨h3, h⟩ := ba h
  obtain ⟨h4, h⟩ := ba h
  obtain ⟨h5, h⟩ := ba h
  obtain ⟨h6, h7⟩ := ba h
  have xf := xfB_ok h2
  exact ⟨⟨oexB_ok h1, eqO_ok h3, xf.exC, of_decide_eq_true h4, h5⟩, xf, eqO_ok h6, of_decide_eq_true h7⟩
theorem cSub_ok {K : Frg} {x y : Str} {b : Bool} (h : cSub x y b K = true) : PySem.W.subIn K (.ref (ga K x)) (.ref (ga K y)) = some b := of_decide_eq_true h
structure ClsAt (K : Frg) (x : Str) : Prop where
  cl : Cls K (ga K x)
  made : Mk K (ga K x) (aM x "__init__" K)
  ins : C8.InsC K (ga K x)
  ki : PySem.W.isClsIn K (ga K x) = true
  kt : PySem.W.typeIn K (.ref (ga K x)) = some (.type "type")
theorem cCls_ok {K : Frg} {x : Str} (h : cCls x K = true) : ClsAt K x := by
  obtain ⟨h1, h⟩ := ba h
  obtain ⟨h2, h⟩ := ba h
  obtain ⟨h3, h⟩ := ba h
  obtain ⟨h4, h⟩ := ba h
  obtain ⟨h5, h⟩ := ba h
  obtain ⟨h6, h⟩ := ba h
  obtain ⟨h7, h8⟩ := ba h
  have cl := cls_ok h1
  exact ⟨cl, mkr_ok h2, { cl := cl, ha := eqO_ok h3, hn := eqO_ok h7, htk := of_decide_eq_true h8, hm := of_decide_eq_true h4, me := kit_self }, h5, of_decide_eq_true h6⟩
theorem cMeth_ok {K : Frg} {x m : Str} (h : cMeth x m K = true) : Meth K (ga K x) m (aM x m K) := meth_ok h
theorem cOwn_ok {K : Frg} {x : Str} (h : cOwn x K = true) : OwnC K (ga K x) (aM x "__eq__" K) := by
  obtain ⟨h1, h⟩ := ba h
  obtain ⟨h2, h⟩ := ba h
  obtain ⟨h3, h4⟩ := ba h
  exact ⟨eqO_ok h1, eqO_ok h2, h3, of_decide_eq_true h4⟩
theorem cProp_ok {K : Frg} {x m : Str} (h : cProp x m K = true) : PropOf K (ga K x) m (aM x m K) (aP x m K) := by
  obtain ⟨h1, h⟩ := ba h
  obtain ⟨h2, h⟩ := ba h
  obtain ⟨h3, h4⟩ := ba h
  refine ⟨eqO_ok h1, eqO_ok h2, of_decide_eq_true h3, ?_⟩
  unfold aP
  split at h4
  · rename_i g r e
    refine ⟨r, ?_⟩
    show PySem.W.recIn K (ma K (ga K x) m) "property" = _
    rw [e]
  · cases h4
theorem cNil_ok {K : Frg} {a : Loc} (h : cNil a K = true) (H : Hp) : SqT K H (a K) [] := by
  unfold cNil at h
  split at h
  · rename_i c od its n sl e
    obtain ⟨h1, h2⟩ := ba h
    have h1 := of_decide_eq_true h1
    have h2 := Array.isEmpty_iff.mp h2
    subst h1 h2
    exact .inr ⟨_, #[], _, e, rfl, rfl, by decide, .nil⟩
  · cases h
section
variable {cs : List Ck} {fn : List Df} {K : Frg}
theorem SaysY.ck (c : SaysY cs fn K) (i : Nat) {f : Ck} (h : cs[i]? = some f) : f K = true := by
  have c1 := (ba (show ((cs.all fun f => f K) && fn.all fun d => d.ok K) = true from congrArg (fun z : Al => z.1) c)).1
  exact List.all_eq_true.mp c1 f (List.mem_of_getElem? h)
theorem SaysY.df (c : SaysY cs fn K) (i : Nat) {d : Df} (h : fn[i]? = some d) : ∃ fd, FnAt K d fd := by
  have c2 := (ba (show ((cs.all fun f => f K) && fn.all fun d => d.ok K) = true from congrArg (fun z : Al => z.1) c)).2
  have e : fn.map (fun d => lkW K (d.loc K)) = fn.map Df.val := congrArg (fun z : Al => z.2) c
  have e2 : (fn.map fun d => lkW K (d.loc K))[i]? = (fn.map Df.val)[i]? := by rw [e]
  rw [List.getElem?_map, List.getElem?_map, h] at e2
  exact Df.at_ (Option.some.inj e2) (List.all_eq_true.mp c2 d (List.mem_of_getElem? h))
end
end Hy
namespace L2
open PySem PySem.Spec PyProof.Rows TL
/-- a law: what the look tells gives the written part, the function object, the promise over every base -/
theorem walk_ofGE {l : PySem.W.OpenLaw} {n k : Nat} {q : Program} {loose : List Str} {XP : (Str → Option Value) → Heap → Prop} {YP : World → Heap → Prop} {d : DefRec} {x : Str}
    (most : l.most = some n) (small : n ≤ sizeLine) (nodef : d.params.defaults = []) (room : Room k callerA)
    (F : ∀ (w : World) (mg : Str → Option Value) (fa : Addr) (h : Heap), YP w h → h.Ns mainGlobals mg → mg d.name = some (.ref fa) →
      ∃ (K : PySem.W.Frag) (fd : FuncData) (sp : Sp), K.In h ∧ (∀ (s : Shared) (u : Value), BindsTo s fd ⟨[u], []⟩ [(x, u)]) ∧
        (∀ (H : Hp) (a : Addr) (ns : List Int), ns.length ≤ n → Only H → SqL K H a (ns.map V.int) → sp [.ref a] H (fun v _ => v = .bl true) fun _ _ _ => False) ∧
        ∀ base : Heap, K.In base → base.Ns mainGlobals mg → FnG l.prog w K mg base k fa fd [x] sp) :
    PySem.W.WalkO q loose XP YP l.row.toRowW d [] (fun f vs => PySem.call f vs) := by
  refine Att.attach_call most nodef fun w s0 s1 mg mb fa o pm cd doc a vs ns G Y ho hd hcd hmg obj intz len noG => ?_
  obtain ⟨K, fd, sp, inH, bind, ask, ok⟩ := F w mg fa _ Y G.T.g hmg
  exact law_told inH G.T.g G.T.b G.T.builtins G.T.nolimit noG obj intz (Nat.le_trans len small) room ok bind fun H on sq => ask H a ns len on sq
end L2
set_option Elab.async false
set_option linter.all false
set_option maxRecDepth 100000
set_option maxHeartbeats 4000000
namespace K91
open PySem PySem.Spec PyProof.Rows L2 TL Mi
theorem all_mk {P : Program} {w : World} {K : PySem.W.Frag} {h : Heap} {mg : Str → Option Value} {fa : Addr} (X : K.In h) (G : h.Ns mainGlobals mg) (hfa : mg "law" = some (.ref fa)) (c : Hy.SaysY cks dfs K) :
    ∃ fd : FuncData, (∀ (s : Shared) (v : Value), BindsTo s fd ⟨[v], []⟩ [("script", v)]) ∧ ∀ base : Heap, K.In base → base.Ns mainGlobals mg → FnG P w K mg base 15 fa fd ["script"] (spLaw K) := by
  have Q0 : Hy.allC cks0 K = true := c.ck 0 rfl
  have Q1 : Hy.allC cks1 K = true := c.ck 1 rfl
  have Q2 : Hy.allC cks2 K = true := c.ck 2 rfl
  have Q3 : Hy.allC cks3 K = true := c.ck 3 rfl
  have Q4 : Hy.allC cks4 K = true := c.ck 4 rfl
  have Q5 : Hy.allC cks5 K = true := c.ck 5 rfl
  have Q6 : Hy.allC cks6 K = true := c.ck 6 rfl
  have Q7 : Hy.allC cks7 K = true := c.ck 7 rfl
  have Q8 : Hy.allC cks8 K = true := c.ck 8 rfl
  have Q9 : Hy.allC cks9 K = true := c.ck 9 rfl
  have Q10 : Hy.allC cks10 K = true := c.ck 10 rfl
  have Q11 : Hy.allC cks11 K = true := c.ck 11 rfl
  obtain ⟨fd0, A0⟩ := c.df 0 rfl
  obtain ⟨fd1, A1⟩ := c.df 1 rfl
  obtain ⟨fd2, A2⟩ := c.df 2 rfl
  obtain ⟨fd3, A3⟩ := c.df 3 rfl
  obtain ⟨fd4, A4⟩ := c.df 4 rfl
  obtain ⟨fd5, A5⟩ := c.df 5 rfl
  obtain ⟨fd6, A6⟩ := c.df 6 rfl
  obtain ⟨fd7, A7⟩ := c.df 7 rfl
  obtain ⟨fd8, A8⟩ := c.df 8 rfl
  obtain ⟨fd9, A9⟩ := c.df 9 rfl
  obtain ⟨fd10, A10⟩ := c.df 10 rfl
  obtain ⟨fd11, A11⟩ := c.df 11 rfl
  obtain ⟨fd12, A12⟩ := c.df 12 rfl
  obtain ⟨fd13, A13⟩ := c.df 13 rfl
  obtain ⟨fd14, A14⟩ := c.df 14 rfl
  obtain ⟨fd15, A15⟩ := c.df 15 rfl
  obtain ⟨fd16, A16⟩ := c.df 16 rfl
  obtain ⟨fd17, A17⟩ := c.df 17 rfl
  obtain ⟨fd18, A18⟩ := c.df 18 rfl
  obtain ⟨fd19, A19⟩ := c.df 19 rfl
  obtain ⟨fd20, A20⟩ := c.df 20 rfl
  obtain ⟨fd21, A21⟩ := c.df 21 rfl
  obtain ⟨fd22, A22⟩ := c.df 22 rfl
  obtain ⟨fd23, A23⟩ := c.df 23 rfl
  obtain ⟨fd24, A24⟩ := c.df 24 rfl
  obtain ⟨fd25, A25⟩ := c.df 25 rfl
  obtain ⟨fd26, A26⟩ := c.df 26 rfl
  obtain ⟨fd27, A27⟩ := c.df 27 rfl
  obtain ⟨fd28, A28⟩ := c.df 28 rfl
  obtain ⟨fd29, A29⟩ := c.df 29 rfl
  obtain ⟨fd30, A30⟩ := c.df 30 rfl
  obtain ⟨fd31, A31⟩ := c.df 31 rfl
  obtain ⟨fd32, A32⟩ := c.df 32 rfl
  obtain ⟨fd33, A33⟩ := c.df 33 rfl
  obtain ⟨fd34, A34⟩ := c.df 34 rfl
  obtain ⟨fd35, A35⟩ := c.df 35 rfl
  obtain ⟨fd36, A36⟩ := c.df 36 rfl
  obtain ⟨fd37, A37⟩ := c.df 37 rfl
  obtain ⟨fd38, A38⟩ := c.df 38 rfl
  obtain ⟨fd39, A39⟩ := c.df 39 rfl
  obtain ⟨fd40, A40⟩ := c.df 40 rfl
  obtain ⟨fd41, A41⟩ := c.df 41 rfl
  obtain ⟨fd42, A42⟩ := c.df 42 rfl
  obtain ⟨fd43, A43⟩ := c.df 43 rfl
  obtain ⟨fd44, A44⟩ := c.df 44 rfl
  obtain ⟨fd45, A45⟩ := c.df 45 rfl
  obtain ⟨fd46, A46⟩ := c.df 46 rfl
  obtain ⟨fd47, A47⟩ := c.df 47 rfl
  obtain ⟨fd48, A48⟩ := c.df 48 rfl
  have X_InvalidLetters := Hy.cExc_ok (Hy.pick (f := Hy.cExc "InvalidLetters") Q3 11 rfl)
  obtain ⟨fd49, A49⟩ := c.df 49 rfl
  have X_InvalidVowels := Hy.cExc_ok (Hy.pick (f := Hy.cExc "InvalidVowels") Q3 14 rfl)
  obtain ⟨fd50, A50⟩ := c.df 50 rfl
  have X_InvalidText := Hy.cExc_ok (Hy.pick (f := Hy.cExc "InvalidText") Q3 17 rfl)
  obtain ⟨fd51, A51⟩ := c.df 51 rfl
  have X_InvalidConditions := Hy.cExc_ok (Hy.pick (f := Hy.cExc "InvalidConditions") Q4 0 rfl)
  obtain ⟨fd52, A52⟩ := c.df 52 rfl
  have X_InvalidRules := Hy.cExc_ok (Hy.pick (f := Hy.cExc "InvalidRules") Q4 3 rfl)
  obtain ⟨fd53, A53⟩ := c.df 53 rfl
  have X_InvalidMode := Hy.cExc_ok (Hy.pick (f := Hy.cExc "InvalidMode") Q4 6 rfl)
  obtain ⟨fd54, A54⟩ := c.df 54 rfl
  have X_SameEnding := Hy.cExc_ok (Hy.pick (f := Hy.cExc "SameEnding") Q4 9 rfl)
  obtain ⟨fd55, A55⟩ := c.df 55 rfl
  have X_InvalidSteps := Hy.cExc_ok (Hy.pick (f := Hy.cExc "InvalidSteps") Q4 12 rfl)
  obtain ⟨fd56, A56⟩ := c.df 56 rfl
  have X_InvalidExceptions := Hy.cExc_ok (Hy.pick (f := Hy.cExc "InvalidExceptions") Q4 15 rfl)
  have Z_Rule := Hy.cCls_ok (Hy.pick (f := Hy.cCls "Rule") Q9 7 rfl)
  obtain ⟨fd57, A57⟩ := c.df 57 rfl
  obtain ⟨fd58, A58⟩ := c.df 58 rfl
  obtain ⟨fd59, A59⟩ := c.df 59 rfl
  obtain ⟨fd60, A60⟩ := c.df 60 rfl
  obtain ⟨fd61, A61⟩ := c.df 61 rfl
  have Z_Step := Hy.cCls_ok (Hy.pick (f := Hy.cCls "Step") Q10 0 rfl)
  obtain ⟨fd62, A62⟩ := c.df 62 rfl
  obtain ⟨fd63, A63⟩ := c.df 63 rfl
  obtain ⟨fd64, A64⟩ := c.df 64 rfl
  obtain ⟨fd65, A65⟩ := c.df 65 rfl
  have Z_Stemmer := Hy.cCls_ok (Hy.pick (f := Hy.cCls "Stemmer") Q10 10 rfl)
  obtain ⟨fd66, A66⟩ := c.df 66 rfl
  obtain ⟨fd67, A67⟩ := c.df 67 rfl
  obtain ⟨fd68, A68⟩ := c.df 68 rfl
  obtain ⟨fd69, A69⟩ := c.df 69 rfl
  obtain ⟨fd70, A70⟩ := c.df 70 rfl
  obtain ⟨fd71, A71⟩ := c.df 71 rfl
  obtain ⟨fd72, A72⟩ := c.df 72 rfl
  obtain ⟨fd73, A73⟩ := c.df 73 rfl
  obtain ⟨fd74, A74⟩ := c.df 74 rfl
  obtain ⟨fd75, A75⟩ := c.df 75 rfl
  obtain ⟨fd76, A76⟩ := c.df 76 rfl
  obtain ⟨ds_Stemmer, vd_Stemmer, bd_Stemmer⟩ := (A66.kw (fun K => [("exceptions", .non)]) (Hy.pick (f := Hy.kwC (Hy.aM "Stemmer" "__init__") (fun K => [("exceptions", .non)])) Q11 10 rfl)).binds0 (ps := ["self", "letters", "vowels", "steps", "exceptions"]) 4 (by intro z; cases z) rfl fun D doc pm an cdv ct us ks h1 h2 => match us, h1, ks, h2 with | [_, _, _, _], _, [_], _ => ⟨_, _, _, _, _, _, rfl, rfl, rfl⟩
  obtain ⟨ds_Step, vd_Step, bd_Step⟩ := (A62.kw (fun K => [("mode", .str "longest")]) (Hy.pick (f := Hy.kwC (Hy.aM "Step" "__init__") (fun K => [("mode", .str "longest")])) Q11 11 rfl)).binds0 (ps := ["self", "rules", "mode"]) 2 (by intro z; cases z) rfl fun D doc pm an cdv ct us ks h1 h2 => match us, h1, ks, h2 with | [_, _], _, [_], _ => ⟨_, _, _, _, _, _, rfl, rfl, rfl⟩
  obtain ⟨ds_Rule, vd_Rule, bd_Rule⟩ := (A57.kw (fun K => [("conditions", .ref (Hy.aK "Rule" "__init__" "conditions" K))]) (Hy.pick (f := Hy.kwC (Hy.aM "Rule" "__init__") (fun K => [("conditions", .ref (Hy.aK "Rule" "__init__" "conditions" K))])) Q11 12 rfl)).binds0 (ps := ["self", "ending", "put", "conditions"]) 3 (by intro z; cases z) rfl fun D doc pm an cdv ct us ks h1 h2 => match us, h1, ks, h2 with | [_, _, _], _, [_], _ => ⟨_, _, _, _, _, _, rfl, rfl, rfl⟩
  let T : Txt K mg := {
    a_is_list := Hy.aG "is_list" K
    fd_is_list := fd0
    F_is_list := A0.f
    m_is_list := He.glo_ok X G (Hy.pick (f := Hy.cGlo "is_list") Q0 0 rfl)
    b_is_list := A0.f.binds (ps := ["thing"]) fun _ _ _ _ _ _ us hl => match us, hl with | [_], _ => rfl
    a_is_number := Hy.aG "is_number" K
    fd_is_number := fd1
    F_is_number := A1.f
    m_is_number := He.glo_ok X G (Hy.pick (f := Hy.cGlo "is_number") Q0 1 rfl)
    b_is_number := A1.f.binds (ps := ["thing"]) fun _ _ _ _ _ _ us hl => match us, hl with | [_], _ => rfl
    a_is_text_of := Hy.aG "is_text_of" K
    fd_is_text_of := fd2
    F_is_text_of := A2.f
    m_is_text_of := He.glo_ok X G (Hy.pick (f := Hy.cGlo "is_text_of") Q0 2 rfl)
    b_is_text_of := A2.f.binds (ps := ["thing", "letters"]) fun _ _ _ _ _ _ us hl => match us, hl with | [_, _], _ => rfl
    a_is_choice_of := Hy.aG "is_choice_of" K
    fd_is_choice_of := fd3
    F_is_choice_of := A3.f
    m_is_choice_of := He.glo_ok X G (Hy.pick (f := Hy.cGlo "is_choice_of") Q0 3 rfl)
    b_is_choice_of := A3.f.binds (ps := ["thing", "letters"]) fun _ _ _ _ _ _ us hl => match us, hl with | [_, _], _ => rfl
    a_is_word_of := Hy.aG "is_word_of" K
    fd_is_word_of := fd4
    F_is_word_of := A4.f
    m_is_word_of := He.glo_ok X G (Hy.pick (f := Hy.cGlo "is_word_of") Q0 4 rfl)
    b_is_word_of := A4.f.binds (ps := ["thing", "letters"]) fun _ _ _ _ _ _ us hl => match us, hl with | [_, _], _ => rfl
    a_check_letters := Hy.aG "check_letters" K
    fd_check_letters := fd5
    F_check_letters := A5.f
    m_check_letters := He.glo_ok X G (Hy.pick (f := Hy.cGlo "check_letters") Q0 5 rfl)
    b_check_letters := A5.f.binds (ps := ["letters"]) fun _ _ _ _ _ _ us hl => match us, hl with | [_], _ => rfl
    a_check_vowels := Hy.aG "check_vowels" K
    fd_check_vowels := fd6
    F_check_vowels := A6.f
    m_check_vowels := He.glo_ok X G (Hy.pick (f := Hy.cGlo "check_vowels") Q0 6 rfl)
    b_check_vowels := A6.f.binds (ps := ["vowels", "letters"]) fun _ _ _ _ _ _ us hl => match us, hl with | [_, _], _ => rfl
    a_check_text := Hy.aG "check_text" K
    fd_check_text := fd7
    F_check_text := A7.f
    m_check_text := He.glo_ok X G (Hy.pick (f := Hy.cGlo "check_text") Q0 7 rfl)
    b_check_text := A7.f.binds (ps := ["text", "letters"]) fun _ _ _ _ _ _ us hl => match us, hl with | [_, _], _ => rfl
    a_is_condition := Hy.aG "is_condition" K
    fd_is_condition := fd8
    F_is_condition := A8.f
    m_is_condition := He.glo_ok X G (Hy.pick (f := Hy.cGlo "is_condition") Q0 8 rfl)
    b_is_condition := A8.f.binds (ps := ["thing"]) fun _ _ _ _ _ _ us hl => match us, hl with | [_], _ => rfl
    a_is_met := Hy.aG "is_met" K
    fd_is_met := fd9
    F_is_met := A9.f
    m_is_met := He.glo_ok X G (Hy.pick (f := Hy.cGlo "is_met") Q0 9 rfl)
    b_is_met := A9.f.binds (ps := ["condition", "rest", "vowels"]) fun _ _ _ _ _ _ us hl => match us, hl with | [_, _, _], _ => rfl
    a_plain_condition := Hy.aG "plain_condition" K
    fd_plain_condition := fd10
    F_plain_condition := A10.f
    m_plain_condition := He.glo_ok X G (Hy.pick (f := Hy.cGlo "plain_condition") Q0 10 rfl)
    b_plain_condition := A10.f.binds (ps := ["condition"]) fun _ _ _ _ _ _ us hl => match us, hl with | [_], _ => rfl
    a_has_vowel := Hy.aG "has_vowel" K
    fd_has_vowel := fd11
    F_has_vowel := A11.f
    m_has_vowel := He.glo_ok X G (Hy.pick (f := Hy.cGlo "has_vowel") Q0 11 rfl)
    b_has_vowel := A11.f.binds (ps := ["text", "vowels"]) fun _ _ _ _ _ _ us hl => match us, hl with | [_, _], _ => rfl
    a_count_runs := Hy.aG "count_runs" K
    fd_count_runs := fd12
    F_count_runs := A12.f
    m_count_runs := He.glo_ok X G (Hy.pick (f := Hy.cGlo "count_runs") Q0 12 rfl)
    b_count_runs := A12.f.binds (ps := ["text", "vowels"]) fun _ _ _ _ _ _ us hl => match us, hl with | [_, _], _ => rfl
    a_is_plain := Hy.aG "_is_plain" K
    fd_is_plain := fd13
    F_is_plain := A13.f
    m_is_plain := He.glo_ok X G (Hy.pick (f := Hy.cGlo "_is_plain") Q0 13 rfl)
    b_is_plain := A13.f.binds (ps := ["thing"]) fun _ _ _ _ _ _ us hl => match us, hl with | [_], _ => rfl
    a_is_plain_met := Hy.aG "_is_plain_met" K
    fd_is_plain_met := fd14
    F_is_plain_met := A14.f
    m_is_plain_met := He.glo_ok X G (Hy.pick (f := Hy.cGlo "_is_plain_met") Q0 14 rfl)
    b_is_plain_met := A14.f.binds (ps := ["condition", "rest", "vowels"]) fun _ _ _ _ _ _ us hl => match us, hl with | [_, _, _], _ => rfl
    a_ends_double := Hy.aG "_ends_double" K
    fd_ends_double := fd15
    F_ends_double := A15.f
    m_ends_double := He.glo_ok X G (Hy.pick (f := Hy.cGlo "_ends_double") Q0 15 rfl)
    b_ends_double := A15.f.binds (ps := ["rest", "vowels"]) fun _ _ _ _ _ _ us hl => match us, hl with | [_, _], _ => rfl
    a_has_shape := Hy.aG "_has_shape" K
    fd_has_shape := fd16
    F_has_shape := A16.f
    m_has_shape := He.glo_ok X G (Hy.pick (f := Hy.cGlo "_has_shape") Q0 16 rfl)
    b_has_shape := A16.f.binds (ps := ["rest", "shape", "vowels"]) fun _ _ _ _ _ _ us hl => match us, hl with | [_, _, _], _ => rfl
    a_bounds_of := Hy.aG "bounds_of" K
    fd_bounds_of := fd17
    F_bounds_of := A17.f
    m_bounds_of := He.glo_ok X G (Hy.pick (f := Hy.cGlo "bounds_of") Q0 17 rfl)
    b_bounds_of := A17.f.binds (ps := ["steps", "exceptions"]) fun _ _ _ _ _ _ us hl => match us, hl with | [_, _], _ => rfl
    a_sight_of := Hy.aG "sight_of" K
    fd_sight_of := fd18
    F_sight_of := A18.f
    m_sight_of := He.glo_ok X G (Hy.pick (f := Hy.cGlo "sight_of") Q0 18 rfl)
    b_sight_of := A18.f.binds (ps := ["text", "vowels", "bounds"]) fun _ _ _ _ _ _ us hl => match us, hl with | [_, _, _], _ => rfl
    a_plain_conditions := Hy.aG "_plain_conditions" K
    fd_plain_conditions := fd19
    F_plain_conditions := A19.f
    m_plain_conditions := He.glo_ok X G (Hy.pick (f := Hy.cGlo "_plain_conditions") Q0 19 rfl)
    b_plain_conditions := A19.f.binds (ps := ["steps"]) fun _ _ _ _ _ _ us hl => match us, hl with | [_], _ => rfl
    a_longest_measures := Hy.aG "longest_measures" K
    fd_longest_measures := fd20
    F_longest_measures := A20.f
    m_longest_measures := He.glo_ok X G (Hy.pick (f := Hy.cGlo "longest_measures") Q1 0 rfl)
    b_longest_measures := A20.f.binds (ps := ["texts"]) fun _ _ _ _ _ _ us hl => match us, hl with | [_], _ => rfl
    a_greatest_number := Hy.aG "_greatest_number" K
    fd_greatest_number := fd21
    F_greatest_number := A21.f
    m_greatest_number := He.glo_ok X G (Hy.pick (f := Hy.cGlo "_greatest_number") Q1 1 rfl)
    b_greatest_number := A21.f.binds (ps := ["plain", "kind"]) fun _ _ _ _ _ _ us hl => match us, hl with | [_, _], _ => rfl
    a_letters_seen := Hy.aG "_letters_seen" K
    fd_letters_seen := fd22
    F_letters_seen := A22.f
    m_letters_seen := He.glo_ok X G (Hy.pick (f := Hy.cGlo "_letters_seen") Q1 2 rfl)
    b_letters_seen := A22.f.binds (ps := ["condition"]) fun _ _ _ _ _ _ us hl => match us, hl with | [_], _ => rfl
    a_check_mode := Hy.aG "check_mode" K
    fd_check_mode := fd23
    F_check_mode := A23.f
    m_check_mode := He.glo_ok X G (Hy.pick (f := Hy.cGlo "check_mode") Q1 3 rfl)
    b_check_mode := A23.f.binds (ps := ["mode"]) fun _ _ _ _ _ _ us hl => match us, hl with | [_], _ => rfl
    a_texts_of_rule := Hy.aG "texts_of_rule" K
    fd_texts_of_rule := fd24
    F_texts_of_rule := A24.f
    m_texts_of_rule := He.glo_ok X G (Hy.pick (f := Hy.cGlo "texts_of_rule") Q1 4 rfl)
    b_texts_of_rule := A24.f.binds (ps := ["rule"]) fun _ _ _ _ _ _ us hl => match us, hl with | [_], _ => rfl
    a_rule_fits := Hy.aG "rule_fits" K
    fd_rule_fits := fd25
    F_rule_fits := A25.f
    m_rule_fits := He.glo_ok X G (Hy.pick (f := Hy.cGlo "rule_fits") Q1 5 rfl)
    b_rule_fits := A25.f.binds (ps := ["rule", "letters"]) fun _ _ _ _ _ _ us hl => match us, hl with | [_, _], _ => rfl
    a_check_conditions := Hy.aG "_check_conditions" K
    fd_check_conditions := fd26
    F_check_conditions := A26.f
    m_check_conditions := He.glo_ok X G (Hy.pick (f := Hy.cGlo "_check_conditions") Q1 6 rfl)
    b_check_conditions := A26.f.binds (ps := ["conditions"]) fun _ _ _ _ _ _ us hl => match us, hl with | [_], _ => rfl
    a_check_rules := Hy.aG "_check_rules" K
    fd_check_rules := fd27
    F_check_rules := A27.f
    m_check_rules := He.glo_ok X G (Hy.pick (f := Hy.cGlo "_check_rules") Q1 7 rfl)
    b_check_rules := A27.f.binds (ps := ["rules"]) fun _ _ _ _ _ _ us hl => match us, hl with | [_], _ => rfl
    a_check_endings := Hy.aG "_check_endings" K
    fd_check_endings := fd28
    F_check_endings := A28.f
    m_check_endings := He.glo_ok X G (Hy.pick (f := Hy.cGlo "_check_endings") Q1 8 rfl)
    b_check_endings := A28.f.binds (ps := ["rules"]) fun _ _ _ _ _ _ us hl => match us, hl with | [_], _ => rfl
    a_step_at := Hy.aG "step_at" K
    fd_step_at := fd29
    F_step_at := A29.f
    m_step_at := He.glo_ok X G (Hy.pick (f := Hy.cGlo "step_at") Q1 9 rfl)
    b_step_at := A29.f.binds (ps := ["step", "text", "vowels"]) fun _ _ _ _ _ _ us hl => match us, hl with | [_, _, _], _ => rfl
    a_rules_to_try := Hy.aG "rules_to_try" K
    fd_rules_to_try := fd30
    F_rules_to_try := A30.f
    m_rules_to_try := He.glo_ok X G (Hy.pick (f := Hy.cGlo "rules_to_try") Q1 10 rfl)
    b_rules_to_try := A30.f.binds (ps := ["step", "text"]) fun _ _ _ _ _ _ us hl => match us, hl with | [_, _], _ => rfl
    a_longest_stepping := Hy.aG "longest_stepping" K
    fd_longest_stepping := fd31
    F_longest_stepping := A31.f
    m_longest_stepping := He.glo_ok X G (Hy.pick (f := Hy.cGlo "longest_stepping") Q1 11 rfl)
    b_longest_stepping := A31.f.binds (ps := ["rules", "standing"]) fun _ _ _ _ _ _ us hl => match us, hl with | [_, _], _ => rfl
    a_check_steps := Hy.aG "_check_steps" K
    fd_check_steps := fd32
    F_check_steps := A32.f
    m_check_steps := He.glo_ok X G (Hy.pick (f := Hy.cGlo "_check_steps") Q1 12 rfl)
    b_check_steps := A32.f.binds (ps := ["steps", "letters"]) fun _ _ _ _ _ _ us hl => match us, hl with | [_, _], _ => rfl
    a_check_exceptions := Hy.aG "_check_exceptions" K
    fd_check_exceptions := fd33
    F_check_exceptions := A33.f
    m_check_exceptions := He.glo_ok X G (Hy.pick (f := Hy.cGlo "_check_exceptions") Q1 13 rfl)
    b_check_exceptions := A33.f.binds (ps := ["exceptions", "letters"]) fun _ _ _ _ _ _ us hl => match us, hl with | [_, _], _ => rfl
    a_law_mixed := Hy.aG "_law_mixed" K
    fd_law_mixed := fd34
    F_law_mixed := A34.f
    m_law_mixed := He.glo_ok X G (Hy.pick (f := Hy.cGlo "_law_mixed") Q1 14 rfl)
    b_law_mixed := A34.f.binds (ps := ["cell", "k"]) fun _ _ _ _ _ _ us hl => match us, hl with | [_, _], _ => rfl
    a_law_purse := Hy.aG "_law_purse" K
    fd_law_purse := fd35
    F_law_purse := A35.f
    m_law_purse := He.glo_ok X G (Hy.pick (f := Hy.cGlo "_law_purse") Q1 15 rfl)
    b_law_purse := A35.f.binds (ps := ["cells", "at"]) fun _ _ _ _ _ _ us hl => match us, hl with | [_, _], _ => rfl
    a_law_draw := Hy.aG "_law_draw" K
    fd_law_draw := fd36
    F_law_draw := A36.f
    m_law_draw := He.glo_ok X G (Hy.pick (f := Hy.cGlo "_law_draw") Q1 16 rfl)
    b_law_draw := A36.f.binds (ps := ["purse", "out_of"]) fun _ _ _ _ _ _ us hl => match us, hl with | [_, _], _ => rfl
    a_law_text := Hy.aG "_law_text" K
    fd_law_text := fd37
    F_law_text := A37.f
    m_law_text := He.glo_ok X G (Hy.pick (f := Hy.cGlo "_law_text") Q1 17 rfl)
    b_law_text := A37.f.binds (ps := ["purse", "signs", "least", "top"]) fun _ _ _ _ _ _ us hl => match us, hl with | [_, _, _, _], _ => rfl
    a_law_condition := Hy.aG "_law_condition" K
    fd_law_condition := fd38
    F_law_condition := A38.f
    m_law_condition := He.glo_ok X G (Hy.pick (f := Hy.cGlo "_law_condition") Q1 18 rfl)
    b_law_condition := A38.f.binds (ps := ["purse", "signs"]) fun _ _ _ _ _ _ us hl => match us, hl with | [_, _], _ => rfl
    a_law_rule := Hy.aG "_law_rule" K
    fd_law_rule := fd39
    F_law_rule := A39.f
    m_law_rule := He.glo_ok X G (Hy.pick (f := Hy.cGlo "_law_rule") Q1 19 rfl)
    b_law_rule := A39.f.binds (ps := ["purse", "signs"]) fun _ _ _ _ _ _ us hl => match us, hl with | [_, _], _ => rfl
    a_law_step := Hy.aG "_law_step" K
    fd_law_step := fd40
    F_law_step := A40.f
    m_law_step := He.glo_ok X G (Hy.pick (f := Hy.cGlo "_law_step") Q2 0 rfl)
    b_law_step := A40.f.binds (ps := ["purse", "signs", "top"]) fun _ _ _ _ _ _ us hl => match us, hl with | [_, _, _], _ => rfl
    a_law_made_step := Hy.aG "_law_made_step" K
    fd_law_made_step := fd41
    F_law_made_step := A41.f
    m_law_made_step := He.glo_ok X G (Hy.pick (f := Hy.cGlo "_law_made_step") Q2 1 rfl)
    b_law_made_step := A41.f.binds (ps := ["raw"]) fun _ _ _ _ _ _ us hl => match us, hl with | [_], _ => rfl
    a_law_made := Hy.aG "_law_made" K
    fd_law_made := fd42
    F_law_made := A42.f
    m_law_made := He.glo_ok X G (Hy.pick (f := Hy.cGlo "_law_made") Q2 2 rfl)
    b_law_made := A42.f.binds (ps := ["raw"]) fun _ _ _ _ _ _ us hl => match us, hl with | [_], _ => rfl
    a_law_names := Hy.aG "_law_names" K
    fd_law_names := fd43
    F_law_names := A43.f
    m_law_names := He.glo_ok X G (Hy.pick (f := Hy.cGlo "_law_names") Q2 3 rfl)
    b_law_names := A43.f.binds (ps := ["purse"]) fun _ _ _ _ _ _ us hl => match us, hl with | [_], _ => rfl
    a_law_stemmer := Hy.aG "_law_stemmer" K
    fd_law_stemmer := fd44
    F_law_stemmer := A44.f
    m_law_stemmer := He.glo_ok X G (Hy.pick (f := Hy.cGlo "_law_stemmer") Q2 4 rfl)
    b_law_stemmer := A44.f.binds (ps := ["purse", "names"]) fun _ _ _ _ _ _ us hl => match us, hl with | [_, _], _ => rfl
    a_law_longer := Hy.aG "_law_longer" K
    fd_law_longer := fd45
    F_law_longer := A45.f
    m_law_longer := He.glo_ok X G (Hy.pick (f := Hy.cGlo "_law_longer") Q2 5 rfl)
    b_law_longer := A45.f.binds (ps := ["purse", "text", "signs"]) fun _ _ _ _ _ _ us hl => match us, hl with | [_, _, _], _ => rfl
    a_law_right := Hy.aG "_law_right" K
    fd_law_right := fd46
    F_law_right := A46.f
    m_law_right := He.glo_ok X G (Hy.pick (f := Hy.cGlo "_law_right") Q2 6 rfl)
    b_law_right := A46.f.binds (ps := ["purse"]) fun _ _ _ _ _ _ us hl => match us, hl with | [_], _ => rfl
    a_law := Hy.aG "law" K
    fd_law := fd47
    F_law := A47.f
    m_law := He.glo_ok X G (Hy.pick (f := Hy.cGlo "law") Q2 7 rfl)
    b_law := A47.f.binds (ps := ["script"]) fun _ _ _ _ _ _ us hl => match us, hl with | [_], _ => rfl
    z_AttributeError := He.free_ok X G (Hy.pick (f := Hy.cFree "AttributeError") Q2 8 rfl)
    z_all := He.free_ok X G (Hy.pick (f := Hy.cFree "all") Q2 9 rfl)
    z_any := He.free_ok X G (Hy.pick (f := Hy.cFree "any") Q2 10 rfl)
    z_bool := He.free_ok X G (Hy.pick (f := Hy.cFree "bool") Q2 11 rfl)
    z_dict := He.free_ok X G (Hy.pick (f := Hy.cFree "dict") Q2 12 rfl)
    z_enumerate := He.free_ok X G (Hy.pick (f := Hy.cFree "enumerate") Q2 13 rfl)
    z_int := He.free_ok X G (Hy.pick (f := Hy.cFree "int") Q2 14 rfl)
    z_isinstance := He.free_ok X G (Hy.pick (f := Hy.cFree "isinstance") Q2 15 rfl)
    z_len := He.free_ok X G (Hy.pick (f := Hy.cFree "len") Q2 16 rfl)
    z_list := He.free_ok X G (Hy.pick (f := Hy.cFree "list") Q2 17 rfl)
    z_max := He.free_ok X G (Hy.pick (f := Hy.cFree "max") Q2 18 rfl)
    z_min := He.free_ok X G (Hy.pick (f := Hy.cFree "min") Q2 19 rfl)
    z_property := He.free_ok X G (Hy.pick (f := Hy.cFree "property") Q3 0 rfl)
    z_range := He.free_ok X G (Hy.pick (f := Hy.cFree "range") Q3 1 rfl)
    z_set := He.free_ok X G (Hy.pick (f := Hy.cFree "set") Q3 2 rfl)
    z_sorted := He.free_ok X G (Hy.pick (f := Hy.cFree "sorted") Q3 3 rfl)
    z_str := He.free_ok X G (Hy.pick (f := Hy.cFree "str") Q3 4 rfl)
    z_sum := He.free_ok X G (Hy.pick (f := Hy.cFree "sum") Q3 5 rfl)
    z_tuple := He.free_ok X G (Hy.pick (f := Hy.cFree "tuple") Q3 6 rfl)
    z_zip := He.free_ok X G (Hy.pick (f := Hy.cFree "zip") Q3 7 rfl)
    c_ALPHABET := (He.str_ok X G (Hy.pick (f := Hy.cStr "ALPHABET" "abcdefghijklmnopqrstuvwxyz") Q3 8 rfl)).elim fun t e => ⟨_, e, ⟨_, rfl⟩⟩
    C_StemError := Hy.aG "StemError" K
    mc_StemError := He.glo_ok X G (Hy.pick (f := Hy.cGlo "StemError") Q3 9 rfl)
    C_InvalidLetters := Hy.aG "InvalidLetters" K
    mc_InvalidLetters := He.glo_ok X G (Hy.pick (f := Hy.cGlo "InvalidLetters") Q3 10 rfl)
    x_InvalidLetters := X_InvalidLetters.o
    xf_InvalidLetters := X_InvalidLetters.xf
    aI_InvalidLetters := Hy.aM "InvalidLetters" "__init__" K
    fdI_InvalidLetters := fd48
    FI_InvalidLetters := A48.f
    bI_InvalidLetters := A48.f.binds (ps := ["self", "thing"]) fun _ _ _ _ _ _ us hl => match us, hl with | [_, _], _ => rfl
    i_InvalidLetters := X_InvalidLetters.i
    t_InvalidLetters := X_InvalidLetters.t
    n_InvalidLetters_thing := He.noat_ok (Hy.pick (f := Hy.cNo "InvalidLetters" "thing") Q3 12 rfl)
    C_InvalidVowels := Hy.aG "InvalidVowels" K
    mc_InvalidVowels := He.glo_ok X G (Hy.pick (f := Hy.cGlo "InvalidVowels") Q3 13 rfl)
    x_InvalidVowels := X_InvalidVowels.o
    xf_InvalidVowels := X_InvalidVowels.xf
    aI_InvalidVowels := Hy.aM "InvalidVowels" "__init__" K
    fdI_InvalidVowels := fd49
    FI_InvalidVowels := A49.f
    bI_InvalidVowels := A49.f.binds (ps := ["self", "thing"]) fun _ _ _ _ _ _ us hl => match us, hl with | [_, _], _ => rfl
    i_InvalidVowels := X_InvalidVowels.i
    t_InvalidVowels := X_InvalidVowels.t
    n_InvalidVowels_thing := He.noat_ok (Hy.pick (f := Hy.cNo "InvalidVowels" "thing") Q3 15 rfl)
    C_InvalidText := Hy.aG "InvalidText" K
    mc_InvalidText := He.glo_ok X G (Hy.pick (f := Hy.cGlo "InvalidText") Q3 16 rfl)
    x_InvalidText := X_InvalidText.o
    xf_InvalidText := X_InvalidText.xf
    aI_InvalidText := Hy.aM "InvalidText" "__init__" K
    fdI_InvalidText := fd50
    FI_InvalidText := A50.f
    bI_InvalidText := A50.f.binds (ps := ["self", "thing"]) fun _ _ _ _ _ _ us hl => match us, hl with | [_, _], _ => rfl
    i_InvalidText := X_InvalidText.i
    t_InvalidText := X_InvalidText.t
    n_InvalidText_thing := He.noat_ok (Hy.pick (f := Hy.cNo "InvalidText" "thing") Q3 18 rfl)
    C_InvalidConditions := Hy.aG "InvalidConditions" K
    mc_InvalidConditions := He.glo_ok X G (Hy.pick (f := Hy.cGlo "InvalidConditions") Q3 19 rfl)
    x_InvalidConditions := X_InvalidConditions.o
    xf_InvalidConditions := X_InvalidConditions.xf
    aI_InvalidConditions := Hy.aM "InvalidConditions" "__init__" K
    fdI_InvalidConditions := fd51
    FI_InvalidConditions := A51.f
    bI_InvalidConditions := A51.f.binds (ps := ["self", "place"]) fun _ _ _ _ _ _ us hl => match us, hl with | [_, _], _ => rfl
    i_InvalidConditions := X_InvalidConditions.i
    t_InvalidConditions := X_InvalidConditions.t
    n_InvalidConditions_place := He.noat_ok (Hy.pick (f := Hy.cNo "InvalidConditions" "place") Q4 1 rfl)
    C_InvalidRules := Hy.aG "InvalidRules" K
    mc_InvalidRules := He.glo_ok X G (Hy.pick (f := Hy.cGlo "InvalidRules") Q4 2 rfl)
    x_InvalidRules := X_InvalidRules.o
    xf_InvalidRules := X_InvalidRules.xf
    aI_InvalidRules := Hy.aM "InvalidRules" "__init__" K
    fdI_InvalidRules := fd52
    FI_InvalidRules := A52.f
    bI_InvalidRules := A52.f.binds (ps := ["self", "place"]) fun _ _ _ _ _ _ us hl => match us, hl with | [_, _], _ => rfl
    i_InvalidRules := X_InvalidRules.i
    t_InvalidRules := X_InvalidRules.t
    n_InvalidRules_place := He.noat_ok (Hy.pick (f := Hy.cNo "InvalidRules" "place") Q4 4 rfl)
    C_InvalidMode := Hy.aG "InvalidMode" K
    mc_InvalidMode := He.glo_ok X G (Hy.pick (f := Hy.cGlo "InvalidMode") Q4 5 rfl)
    x_InvalidMode := X_InvalidMode.o
    xf_InvalidMode := X_InvalidMode.xf
    aI_InvalidMode := Hy.aM "InvalidMode" "__init__" K
    fdI_InvalidMode := fd53
    FI_InvalidMode := A53.f
    bI_InvalidMode := A53.f.binds (ps := ["self", "thing"]) fun _ _ _ _ _ _ us hl => match us, hl with | [_, _], _ => rfl
    i_InvalidMode := X_InvalidMode.i
    t_InvalidMode := X_InvalidMode.t
    n_InvalidMode_thing := He.noat_ok (Hy.pick (f := Hy.cNo "InvalidMode" "thing") Q4 7 rfl)
    C_SameEnding := Hy.aG "SameEnding" K
    mc_SameEnding := He.glo_ok X G (Hy.pick (f := Hy.cGlo "SameEnding") Q4 8 rfl)
    x_SameEnding := X_SameEnding.o
    xf_SameEnding := X_SameEnding.xf
    aI_SameEnding := Hy.aM "SameEnding" "__init__" K
    fdI_SameEnding := fd54
    FI_SameEnding := A54.f
    bI_SameEnding := A54.f.binds (ps := ["self", "ending"]) fun _ _ _ _ _ _ us hl => match us, hl with | [_, _], _ => rfl
    i_SameEnding := X_SameEnding.i
    t_SameEnding := X_SameEnding.t
    n_SameEnding_ending := He.noat_ok (Hy.pick (f := Hy.cNo "SameEnding" "ending") Q4 10 rfl)
    C_InvalidSteps := Hy.aG "InvalidSteps" K
    mc_InvalidSteps := He.glo_ok X G (Hy.pick (f := Hy.cGlo "InvalidSteps") Q4 11 rfl)
    x_InvalidSteps := X_InvalidSteps.o
    xf_InvalidSteps := X_InvalidSteps.xf
    aI_InvalidSteps := Hy.aM "InvalidSteps" "__init__" K
    fdI_InvalidSteps := fd55
    FI_InvalidSteps := A55.f
    bI_InvalidSteps := A55.f.binds (ps := ["self", "place"]) fun _ _ _ _ _ _ us hl => match us, hl with | [_, _], _ => rfl
    i_InvalidSteps := X_InvalidSteps.i
    t_InvalidSteps := X_InvalidSteps.t
    n_InvalidSteps_place := He.noat_ok (Hy.pick (f := Hy.cNo "InvalidSteps" "place") Q4 13 rfl)
    C_InvalidExceptions := Hy.aG "InvalidExceptions" K
    mc_InvalidExceptions := He.glo_ok X G (Hy.pick (f := Hy.cGlo "InvalidExceptions") Q4 14 rfl)
    x_InvalidExceptions := X_InvalidExceptions.o
    xf_InvalidExceptions := X_InvalidExceptions.xf
    aI_InvalidExceptions := Hy.aM "InvalidExceptions" "__init__" K
    fdI_InvalidExceptions := fd56
    FI_InvalidExceptions := A56.f
    bI_InvalidExceptions := A56.f.binds (ps := ["self", "word"]) fun _ _ _ _ _ _ us hl => match us, hl with | [_, _], _ => rfl
    i_InvalidExceptions := X_InvalidExceptions.i
    t_InvalidExceptions := X_InvalidExceptions.t
    n_InvalidExceptions_word := He.noat_ok (Hy.pick (f := Hy.cNo "InvalidExceptions" "word") Q4 16 rfl)
    e_InvalidLetters_StemError := He.exm_ok (Hy.pick (f := Hy.cExm "InvalidLetters" "StemError" true) Q4 17 rfl)
    e_InvalidLetters_InvalidLetters := He.exm_ok (Hy.pick (f := Hy.cExm "InvalidLetters" "InvalidLetters" true) Q4 18 rfl)
    e_InvalidLetters_InvalidVowels := He.exm_ok (Hy.pick (f := Hy.cExm "InvalidLetters" "InvalidVowels" false) Q4 19 rfl)
    e_InvalidLetters_InvalidText := He.exm_ok (Hy.pick (f := Hy.cExm "InvalidLetters" "InvalidText" false) Q5 0 rfl)
    e_InvalidLetters_InvalidConditions := He.exm_ok (Hy.pick (f := Hy.cExm "InvalidLetters" "InvalidConditions" false) Q5 1 rfl)
    e_InvalidLetters_InvalidRules := He.exm_ok (Hy.pick (f := Hy.cExm "InvalidLetters" "InvalidRules" false) Q5 2 rfl)
    e_InvalidLetters_InvalidMode := He.exm_ok (Hy.pick (f := Hy.cExm "InvalidLetters" "InvalidMode" false) Q5 3 rfl)
    e_InvalidLetters_SameEnding := He.exm_ok (Hy.pick (f := Hy.cExm "InvalidLetters" "SameEnding" false) Q5 4 rfl)
    e_InvalidLetters_InvalidSteps := He.exm_ok (Hy.pick (f := Hy.cExm "InvalidLetters" "InvalidSteps" false) Q5 5 rfl)
    e_InvalidLetters_InvalidExceptions := He.exm_ok (Hy.pick (f := Hy.cExm "InvalidLetters" "InvalidExceptions" false) Q5 6 rfl)
    e_InvalidVowels_StemError := He.exm_ok (Hy.pick (f := Hy.cExm "InvalidVowels" "StemError" true) Q5 7 rfl)
    e_InvalidVowels_InvalidLetters := He.exm_ok (Hy.pick (f := Hy.cExm "InvalidVowels" "InvalidLetters" false) Q5 8 rfl)
    e_InvalidVowels_InvalidVowels := He.exm_ok (Hy.pick (f := Hy.cExm "InvalidVowels" "InvalidVowels" true) Q5 9 rfl)
    e_InvalidVowels_InvalidText := He.exm_ok (Hy.pick (f := Hy.cExm "InvalidVowels" "InvalidText" false) Q5 10 rfl)
    e_InvalidVowels_InvalidConditions := He.exm_ok (Hy.pick (f := Hy.cExm "InvalidVowels" "InvalidConditions" false) Q5 11 rfl)
    e_InvalidVowels_InvalidRules := He.exm_ok (Hy.pick (f := Hy.cExm "InvalidVowels" "InvalidRules" false) Q5 12 rfl)
    e_InvalidVowels_InvalidMode := He.exm_ok (Hy.pick (f := Hy.cExm "InvalidVowels" "InvalidMode" false) Q5 13 rfl)
    e_InvalidVowels_SameEnding := He.exm_ok (Hy.pick (f := Hy.cExm "InvalidVowels" "SameEnding" false) Q5 14 rfl)
    e_InvalidVowels_InvalidSteps := He.exm_ok (Hy.pick (f := Hy.cExm "InvalidVowels" "InvalidSteps" false) Q5 15 rfl)
    e_InvalidVowels_InvalidExceptions := He.exm_ok (Hy.pick (f := Hy.cExm "InvalidVowels" "InvalidExceptions" false) Q5 16 rfl)
    e_InvalidText_StemError := He.exm_ok (Hy.pick (f := Hy.cExm "InvalidText" "StemError" true) Q5 17 rfl)
    e_InvalidText_InvalidLetters := He.exm_ok (Hy.pick (f := Hy.cExm "InvalidText" "InvalidLetters" false) Q5 18 rfl)
    e_InvalidText_InvalidVowels := He.exm_ok (Hy.pick (f := Hy.cExm "InvalidText" "InvalidVowels" false) Q5 19 rfl)
    e_InvalidText_InvalidText := He.exm_ok (Hy.pick (f := Hy.cExm "InvalidText" "InvalidText" true) Q6 0 rfl)
    e_InvalidText_InvalidConditions := He.exm_ok (Hy.pick (f := Hy.cExm "InvalidText" "InvalidConditions" false) Q6 1 rfl)
    e_InvalidText_InvalidRules := He.exm_ok (Hy.pick (f := Hy.cExm "InvalidText" "InvalidRules" false) Q6 2 rfl)
    e_InvalidText_InvalidMode := He.exm_ok (Hy.pick (f := Hy.cExm "InvalidText" "InvalidMode" false) Q6 3 rfl)
    e_InvalidText_SameEnding := He.exm_ok (Hy.pick (f := Hy.cExm "InvalidText" "SameEnding" false) Q6 4 rfl)
    e_InvalidText_InvalidSteps := He.exm_ok (Hy.pick (f := Hy.cExm "InvalidText" "InvalidSteps" false) Q6 5 rfl)
    e_InvalidText_InvalidExceptions := He.exm_ok (Hy.pick (f := Hy.cExm "InvalidText" "InvalidExceptions" false) Q6 6 rfl)
    e_InvalidConditions_StemError := He.exm_ok (Hy.pick (f := Hy.cExm "InvalidConditions" "StemError" true) Q6 7 rfl)
    e_InvalidConditions_InvalidLetters := He.exm_ok (Hy.pick (f := Hy.cExm "InvalidConditions" "InvalidLetters" false) Q6 8 rfl)
    e_InvalidConditions_InvalidVowels := He.exm_ok (Hy.pick (f := Hy.cExm "InvalidConditions" "InvalidVowels" false) Q6 9 rfl)
    e_InvalidConditions_InvalidText := He.exm_ok (Hy.pick (f := Hy.cExm "InvalidConditions" "InvalidText" false) Q6 10 rfl)
    e_InvalidConditions_InvalidConditions := He.exm_ok (Hy.pick (f := Hy.cExm "InvalidConditions" "InvalidConditions" true) Q6 11 rfl)
    e_InvalidConditions_InvalidRules := He.exm_ok (Hy.pick (f := Hy.cExm "InvalidConditions" "InvalidRules" false) Q6 12 rfl)
    e_InvalidConditions_InvalidMode := He.exm_ok (Hy.pick (f := Hy.cExm "InvalidConditions" "InvalidMode" false) Q6 13 rfl)
    e_InvalidConditions_SameEnding := He.exm_ok (Hy.pick (f := Hy.cExm "InvalidConditions" "SameEnding" false) Q6 14 rfl)
    e_InvalidConditions_InvalidSteps := He.exm_ok (Hy.pick (f := Hy.cExm "InvalidConditions" "InvalidSteps" false) Q6 15 rfl)
    e_InvalidConditions_InvalidExceptions := He.exm_ok (Hy.pick (f := Hy.cExm "InvalidConditions" "InvalidExceptions" false) Q6 16 rfl)
    e_InvalidRules_StemError := He.exm_ok (Hy.pick (f := Hy.cExm "InvalidRules" "StemError" true) Q6 17 rfl)
    e_InvalidRules_InvalidLetters := He.exm_ok (Hy.pick (f := Hy.cExm "InvalidRules" "InvalidLetters" false) Q6 18 rfl)
    e_InvalidRules_InvalidVowels := He.exm_ok (Hy.pick (f := Hy.cExm "InvalidRules" "InvalidVowels" false) Q6 19 rfl)
    e_InvalidRules_InvalidText := He.exm_ok (Hy.pick (f := Hy.cExm "InvalidRules" "InvalidText" false) Q7 0 rfl)
    e_InvalidRules_InvalidConditions := He.exm_ok (Hy.pick (f := Hy.cExm "InvalidRules" "InvalidConditions" false) Q7 1 rfl)
    e_InvalidRules_InvalidRules := He.exm_ok (Hy.pick (f := Hy.cExm "InvalidRules" "InvalidRules" true) Q7 2 rfl)
    e_InvalidRules_InvalidMode := He.exm_ok (Hy.pick (f := Hy.cExm "InvalidRules" "InvalidMode" false) Q7 3 rfl)
    e_InvalidRules_SameEnding := He.exm_ok (Hy.pick (f := Hy.cExm "InvalidRules" "SameEnding" false) Q7 4 rfl)
    e_InvalidRules_InvalidSteps := He.exm_ok (Hy.pick (f := Hy.cExm "InvalidRules" "InvalidSteps" false) Q7 5 rfl)
    e_InvalidRules_InvalidExceptions := He.exm_ok (Hy.pick (f := Hy.cExm "InvalidRules" "InvalidExceptions" false) Q7 6 rfl)
    e_InvalidMode_StemError := He.exm_ok (Hy.pick (f := Hy.cExm "InvalidMode" "StemError" true) Q7 7 rfl)
    e_InvalidMode_InvalidLetters := He.exm_ok (Hy.pick (f := Hy.cExm "InvalidMode" "InvalidLetters" false) Q7 8 rfl)
    e_InvalidMode_InvalidVowels := He.exm_ok (Hy.pick (f := Hy.cExm "InvalidMode" "InvalidVowels" false) Q7 9 rfl)
    e_InvalidMode_InvalidText := He.exm_ok (Hy.pick (f := Hy.cExm "InvalidMode" "InvalidText" false) Q7 10 rfl)
    e_InvalidMode_InvalidConditions := He.exm_ok (Hy.pick (f := Hy.cExm "InvalidMode" "InvalidConditions" false) Q7 11 rfl)
    e_InvalidMode_InvalidRules := He.exm_ok (Hy.pick (f := Hy.cExm "InvalidMode" "InvalidRules" false) Q7 12 rfl)
    e_InvalidMode_InvalidMode := He.exm_ok (Hy.pick (f := Hy.cExm "InvalidMode" "InvalidMode" true) Q7 13 rfl)
    e_InvalidMode_SameEnding := He.exm_ok (Hy.pick (f := Hy.cExm "InvalidMode" "SameEnding" false) Q7 14 rfl)
    e_InvalidMode_InvalidSteps := He.exm_ok (Hy.pick (f := Hy.cExm "InvalidMode" "InvalidSteps" false) Q7 15 rfl)
    e_InvalidMode_InvalidExceptions := He.exm_ok (Hy.pick (f := Hy.cExm "InvalidMode" "InvalidExceptions" false) Q7 16 rfl)
    e_SameEnding_StemError := He.exm_ok (Hy.pick (f := Hy.cExm "SameEnding" "StemError" true) Q7 17 rfl)
    e_SameEnding_InvalidLetters := He.exm_ok (Hy.pick (f := Hy.cExm "SameEnding" "InvalidLetters" false) Q7 18 rfl)
    e_SameEnding_InvalidVowels := He.exm_ok (Hy.pick (f := Hy.cExm "SameEnding" "InvalidVowels" false) Q7 19 rfl)
    e_SameEnding_InvalidText := He.exm_ok (Hy.pick (f := Hy.cExm "SameEnding" "InvalidText" false) Q8 0 rfl)
    e_SameEnding_InvalidConditions := He.exm_ok (Hy.pick (f := Hy.cExm "SameEnding" "InvalidConditions" false) Q8 1 rfl)
    e_SameEnding_InvalidRules := He.exm_ok (Hy.pick (f := Hy.cExm "SameEnding" "InvalidRules" false) Q8 2 rfl)
    e_SameEnding_InvalidMode := He.exm_ok (Hy.pick (f := Hy.cExm "SameEnding" "InvalidMode" false) Q8 3 rfl)
    e_SameEnding_SameEnding := He.exm_ok (Hy.pick (f := Hy.cExm "SameEnding" "SameEnding" true) Q8 4 rfl)
    e_SameEnding_InvalidSteps := He.exm_ok (Hy.pick (f := Hy.cExm "SameEnding" "InvalidSteps" false) Q8 5 rfl)
    e_SameEnding_InvalidExceptions := He.exm_ok (Hy.pick (f := Hy.cExm "SameEnding" "InvalidExceptions" false) Q8 6 rfl)
    e_InvalidSteps_StemError := He.exm_ok (Hy.pick (f := Hy.cExm "InvalidSteps" "StemError" true) Q8 7 rfl)
    e_InvalidSteps_InvalidLetters := He.exm_ok (Hy.pick (f := Hy.cExm "InvalidSteps" "InvalidLetters" false) Q8 8 rfl)
    e_InvalidSteps_InvalidVowels := He.exm_ok (Hy.pick (f := Hy.cExm "InvalidSteps" "InvalidVowels" false) Q8 9 rfl)
    e_InvalidSteps_InvalidText := He.exm_ok (Hy.pick (f := Hy.cExm "InvalidSteps" "InvalidText" false) Q8 10 rfl)
    e_InvalidSteps_InvalidConditions := He.exm_ok (Hy.pick (f := Hy.cExm "InvalidSteps" "InvalidConditions" false) Q8 11 rfl)
    e_InvalidSteps_InvalidRules := He.exm_ok (Hy.pick (f := Hy.cExm "InvalidSteps" "InvalidRules" false) Q8 12 rfl)
    e_InvalidSteps_InvalidMode := He.exm_ok (Hy.pick (f := Hy.cExm "InvalidSteps" "InvalidMode" false) Q8 13 rfl)
    e_InvalidSteps_SameEnding := He.exm_ok (Hy.pick (f := Hy.cExm "InvalidSteps" "SameEnding" false) Q8 14 rfl)
    e_InvalidSteps_InvalidSteps := He.exm_ok (Hy.pick (f := Hy.cExm "InvalidSteps" "InvalidSteps" true) Q8 15 rfl)
    e_InvalidSteps_InvalidExceptions := He.exm_ok (Hy.pick (f := Hy.cExm "InvalidSteps" "InvalidExceptions" false) Q8 16 rfl)
    e_InvalidExceptions_StemError := He.exm_ok (Hy.pick (f := Hy.cExm "InvalidExceptions" "StemError" true) Q8 17 rfl)
    e_InvalidExceptions_InvalidLetters := He.exm_ok (Hy.pick (f := Hy.cExm "InvalidExceptions" "InvalidLetters" false) Q8 18 rfl)
    e_InvalidExceptions_InvalidVowels := He.exm_ok (Hy.pick (f := Hy.cExm "InvalidExceptions" "InvalidVowels" false) Q8 19 rfl)
    e_InvalidExceptions_InvalidText := He.exm_ok (Hy.pick (f := Hy.cExm "InvalidExceptions" "InvalidText" false) Q9 0 rfl)
    e_InvalidExceptions_InvalidConditions := He.exm_ok (Hy.pick (f := Hy.cExm "InvalidExceptions" "InvalidConditions" false) Q9 1 rfl)
    e_InvalidExceptions_InvalidRules := He.exm_ok (Hy.pick (f := Hy.cExm "InvalidExceptions" "InvalidRules" false) Q9 2 rfl)
    e_InvalidExceptions_InvalidMode := He.exm_ok (Hy.pick (f := Hy.cExm "InvalidExceptions" "InvalidMode" false) Q9 3 rfl)
    e_InvalidExceptions_SameEnding := He.exm_ok (Hy.pick (f := Hy.cExm "InvalidExceptions" "SameEnding" false) Q9 4 rfl)
    e_InvalidExceptions_InvalidSteps := He.exm_ok (Hy.pick (f := Hy.cExm "InvalidExceptions" "InvalidSteps" false) Q9 5 rfl)
    e_InvalidExceptions_InvalidExceptions := He.exm_ok (Hy.pick (f := Hy.cExm "InvalidExceptions" "InvalidExceptions" true) Q9 6 rfl)
    C_Rule := Hy.aG "Rule" K
    mc_Rule := He.glo_ok X G (Hy.pick (f := Hy.cGlo "Rule") Q9 8 rfl)
    cl_Rule := Z_Rule.cl
    in_Rule := Z_Rule.ins
    ki_Rule := Z_Rule.ki
    kt_Rule := Z_Rule.kt
    mk_Rule := Z_Rule.made
    aM_Rule_init := Hy.aM "Rule" "__init__" K
    fdM_Rule_init := fd57
    FM_Rule_init := A57.f
    aM_Rule_ending := Hy.aP "Rule" "ending" K
    fdM_Rule_ending := fd58
    FM_Rule_ending := A58.f
    bM_Rule_ending := A58.f.binds (ps := ["self"]) fun _ _ _ _ _ _ us hl => match us, hl with | [_], _ => rfl
    pr_Rule_ending := Hy.aM "Rule" "ending" K
    pp_Rule_ending := Hy.cProp_ok (Hy.pick (f := Hy.cProp "Rule" "ending") Q9 9 rfl)
    aM_Rule_put := Hy.aP "Rule" "put" K
    fdM_Rule_put := fd59
    FM_Rule_put := A59.f
    bM_Rule_put := A59.f.binds (ps := ["self"]) fun _ _ _ _ _ _ us hl => match us, hl with | [_], _ => rfl
    pr_Rule_put := Hy.aM "Rule" "put" K
    pp_Rule_put := Hy.cProp_ok (Hy.pick (f := Hy.cProp "Rule" "put") Q9 10 rfl)
    aM_Rule_conditions := Hy.aP "Rule" "conditions" K
    fdM_Rule_conditions := fd60
    FM_Rule_conditions := A60.f
    bM_Rule_conditions := A60.f.binds (ps := ["self"]) fun _ _ _ _ _ _ us hl => match us, hl with | [_], _ => rfl
    pr_Rule_conditions := Hy.aM "Rule" "conditions" K
    pp_Rule_conditions := Hy.cProp_ok (Hy.pick (f := Hy.cProp "Rule" "conditions") Q9 11 rfl)
    aM_Rule_eq := Hy.aM "Rule" "__eq__" K
    fdM_Rule_eq := fd61
    FM_Rule_eq := A61.f
    bM_Rule_eq := A61.f.binds (ps := ["self", "other"]) fun _ _ _ _ _ _ us hl => match us, hl with | [_, _], _ => rfl
    ow_Rule := Hy.cOwn_ok (Hy.pick (f := Hy.cOwn "Rule") Q9 12 rfl)
    n_Rule_ending := He.noat_ok (Hy.pick (f := Hy.cNo "Rule" "_ending") Q9 13 rfl)
    n_Rule_put := He.noat_ok (Hy.pick (f := Hy.cNo "Rule" "_put") Q9 14 rfl)
    n_Rule_conditions := He.noat_ok (Hy.pick (f := Hy.cNo "Rule" "_conditions") Q9 15 rfl)
    e_Rule_conditions := (Hy.aK "Rule" "__init__" "conditions") K
    te_Rule_conditions := fun H => Hy.cNil_ok (Hy.pick (f := Hy.cNil (Hy.aK "Rule" "__init__" "conditions")) Q9 16 rfl) H
    ko_Rule_Rule := Hy.cSub_ok (Hy.pick (f := Hy.cSub "Rule" "Rule" true) Q9 17 rfl)
    ko_Rule_Step := Hy.cSub_ok (Hy.pick (f := Hy.cSub "Rule" "Step" false) Q9 18 rfl)
    ko_Rule_Stemmer := Hy.cSub_ok (Hy.pick (f := Hy.cSub "Rule" "Stemmer" false) Q9 19 rfl)
    C_Step := Hy.aG "Step" K
    mc_Step := He.glo_ok X G (Hy.pick (f := Hy.cGlo "Step") Q10 1 rfl)
    cl_Step := Z_Step.cl
    in_Step := Z_Step.ins
    ki_Step := Z_Step.ki
    kt_Step := Z_Step.kt
    mk_Step := Z_Step.made
    aM_Step_init := Hy.aM "Step" "__init__" K
    fdM_Step_init := fd62
    FM_Step_init := A62.f
    aM_Step_rules := Hy.aP "Step" "rules" K
    fdM_Step_rules := fd63
    FM_Step_rules := A63.f
    bM_Step_rules := A63.f.binds (ps := ["self"]) fun _ _ _ _ _ _ us hl => match us, hl with | [_], _ => rfl
    pr_Step_rules := Hy.aM "Step" "rules" K
    pp_Step_rules := Hy.cProp_ok (Hy.pick (f := Hy.cProp "Step" "rules") Q10 2 rfl)
    aM_Step_mode := Hy.aP "Step" "mode" K
    fdM_Step_mode := fd64
    FM_Step_mode := A64.f
    bM_Step_mode := A64.f.binds (ps := ["self"]) fun _ _ _ _ _ _ us hl => match us, hl with | [_], _ => rfl
    pr_Step_mode := Hy.aM "Step" "mode" K
    pp_Step_mode := Hy.cProp_ok (Hy.pick (f := Hy.cProp "Step" "mode") Q10 3 rfl)
    aM_Step_eq := Hy.aM "Step" "__eq__" K
    fdM_Step_eq := fd65
    FM_Step_eq := A65.f
    bM_Step_eq := A65.f.binds (ps := ["self", "other"]) fun _ _ _ _ _ _ us hl => match us, hl with | [_, _], _ => rfl
    ow_Step := Hy.cOwn_ok (Hy.pick (f := Hy.cOwn "Step") Q10 4 rfl)
    n_Step_rules := He.noat_ok (Hy.pick (f := Hy.cNo "Step" "_rules") Q10 5 rfl)
    n_Step_mode := He.noat_ok (Hy.pick (f := Hy.cNo "Step" "_mode") Q10 6 rfl)
    ko_Step_Rule := Hy.cSub_ok (Hy.pick (f := Hy.cSub "Step" "Rule" false) Q10 7 rfl)
    ko_Step_Step := Hy.cSub_ok (Hy.pick (f := Hy.cSub "Step" "Step" true) Q10 8 rfl)
    ko_Step_Stemmer := Hy.cSub_ok (Hy.pick (f := Hy.cSub "Step" "Stemmer" false) Q10 9 rfl)
    C_Stemmer := Hy.aG "Stemmer" K
    mc_Stemmer := He.glo_ok X G (Hy.pick (f := Hy.cGlo "Stemmer") Q10 11 rfl)
    cl_Stemmer := Z_Stemmer.cl
    in_Stemmer := Z_Stemmer.ins
    ki_Stemmer := Z_Stemmer.ki
    kt_Stemmer := Z_Stemmer.kt
    mk_Stemmer := Z_Stemmer.made
    aM_Stemmer_init := Hy.aM "Stemmer" "__init__" K
    fdM_Stemmer_init := fd66
    FM_Stemmer_init := A66.f
    aM_Stemmer_letters := Hy.aP "Stemmer" "letters" K
    fdM_Stemmer_letters := fd67
    FM_Stemmer_letters := A67.f
    bM_Stemmer_letters := A67.f.binds (ps := ["self"]) fun _ _ _ _ _ _ us hl => match us, hl with | [_], _ => rfl
    pr_Stemmer_letters := Hy.aM "Stemmer" "letters" K
    pp_Stemmer_letters := Hy.cProp_ok (Hy.pick (f := Hy.cProp "Stemmer" "letters") Q10 12 rfl)
    aM_Stemmer_vowels := Hy.aP "Stemmer" "vowels" K
    fdM_Stemmer_vowels := fd68
    FM_Stemmer_vowels := A68.f
    bM_Stemmer_vowels := A68.f.binds (ps := ["self"]) fun _ _ _ _ _ _ us hl => match us, hl with | [_], _ => rfl
    pr_Stemmer_vowels := Hy.aM "Stemmer" "vowels" K
    pp_Stemmer_vowels := Hy.cProp_ok (Hy.pick (f := Hy.cProp "Stemmer" "vowels") Q10 13 rfl)
    aM_Stemmer_steps := Hy.aP "Stemmer" "steps" K
    fdM_Stemmer_steps := fd69
    FM_Stemmer_steps := A69.f
    bM_Stemmer_steps := A69.f.binds (ps := ["self"]) fun _ _ _ _ _ _ us hl => match us, hl with | [_], _ => rfl
    pr_Stemmer_steps := Hy.aM "Stemmer" "steps" K
    pp_Stemmer_steps := Hy.cProp_ok (Hy.pick (f := Hy.cProp "Stemmer" "steps") Q10 14 rfl)
    aM_Stemmer_exceptions := Hy.aP "Stemmer" "exceptions" K
    fdM_Stemmer_exceptions := fd70
    FM_Stemmer_exceptions := A70.f
    bM_Stemmer_exceptions := A70.f.binds (ps := ["self"]) fun _ _ _ _ _ _ us hl => match us, hl with | [_], _ => rfl
    pr_Stemmer_exceptions := Hy.aM "Stemmer" "exceptions" K
    pp_Stemmer_exceptions := Hy.cProp_ok (Hy.pick (f := Hy.cProp "Stemmer" "exceptions") Q10 15 rfl)
    aM_Stemmer_eq := Hy.aM "Stemmer" "__eq__" K
    fdM_Stemmer_eq := fd71
    FM_Stemmer_eq := A71.f
    bM_Stemmer_eq := A71.f.binds (ps := ["self", "other"]) fun _ _ _ _ _ _ us hl => match us, hl with | [_, _], _ => rfl
    aM_Stemmer_stem := Hy.aM "Stemmer" "stem" K
    fdM_Stemmer_stem := fd72
    FM_Stemmer_stem := A72.f
    bM_Stemmer_stem := A72.f.binds (ps := ["self", "word"]) fun _ _ _ _ _ _ us hl => match us, hl with | [_, _], _ => rfl
    me_Stemmer_stem := Hy.cMeth_ok (Hy.pick (f := Hy.cMeth "Stemmer" "stem") Q10 16 rfl)
    aM_Stemmer_trace := Hy.aM "Stemmer" "trace" K
    fdM_Stemmer_trace := fd73
    FM_Stemmer_trace := A73.f
    bM_Stemmer_trace := A73.f.binds (ps := ["self", "word"]) fun _ _ _ _ _ _ us hl => match us, hl with | [_, _], _ => rfl
    me_Stemmer_trace := Hy.cMeth_ok (Hy.pick (f := Hy.cMeth "Stemmer" "trace") Q10 17 rfl)
    aM_Stemmer_sight := Hy.aM "Stemmer" "sight" K
    fdM_Stemmer_sight := fd74
    FM_Stemmer_sight := A74.f
    bM_Stemmer_sight := A74.f.binds (ps := ["self", "word"]) fun _ _ _ _ _ _ us hl => match us, hl with | [_, _], _ => rfl
    me_Stemmer_sight := Hy.cMeth_ok (Hy.pick (f := Hy.cMeth "Stemmer" "sight") Q10 18 rfl)
    aM_Stemmer_bounds := Hy.aM "Stemmer" "bounds" K
    fdM_Stemmer_bounds := fd75
    FM_Stemmer_bounds := A75.f
    bM_Stemmer_bounds := A75.f.binds (ps := ["self"]) fun _ _ _ _ _ _ us hl => match us, hl with | [_], _ => rfl
    me_Stemmer_bounds := Hy.cMeth_ok (Hy.pick (f := Hy.cMeth "Stemmer" "bounds") Q10 19 rfl)
    aM_Stemmer_without := Hy.aM "Stemmer" "without" K
    fdM_Stemmer_without := fd76
    FM_Stemmer_without := A76.f
    bM_Stemmer_without := A76.f.binds (ps := ["self", "step", "rule"]) fun _ _ _ _ _ _ us hl => match us, hl with | [_, _, _], _ => rfl
    me_Stemmer_without := Hy.cMeth_ok (Hy.pick (f := Hy.cMeth "Stemmer" "without") Q11 0 rfl)
    ow_Stemmer := Hy.cOwn_ok (Hy.pick (f := Hy.cOwn "Stemmer") Q11 1 rfl)
    n_Stemmer_letters := He.noat_ok (Hy.pick (f := Hy.cNo "Stemmer" "_letters") Q11 2 rfl)
    n_Stemmer_vowels := He.noat_ok (Hy.pick (f := Hy.cNo "Stemmer" "_vowels") Q11 3 rfl)
    n_Stemmer_steps := He.noat_ok (Hy.pick (f := Hy.cNo "Stemmer" "_steps") Q11 4 rfl)
    n_Stemmer_exceptions := He.noat_ok (Hy.pick (f := Hy.cNo "Stemmer" "_exceptions") Q11 5 rfl)
    n_Stemmer_bounds := He.noat_ok (Hy.pick (f := Hy.cNo "Stemmer" "_bounds") Q11 6 rfl)
    ko_Stemmer_Rule := Hy.cSub_ok (Hy.pick (f := Hy.cSub "Stemmer" "Rule" false) Q11 7 rfl)
    ko_Stemmer_Step := Hy.cSub_ok (Hy.pick (f := Hy.cSub "Stemmer" "Step" false) Q11 8 rfl)
    ko_Stemmer_Stemmer := Hy.cSub_ok (Hy.pick (f := Hy.cSub "Stemmer" "Stemmer" true) Q11 9 rfl)
    kb_Step_init_1_mode := A62.f.kbn fun _ _ _ _ _ _ us ws h1 h2 => match us, h1, ws, h2 with | [_, _], _, [_], _ => rfl
    kb_Rule_init_2_conditions := A57.f.kbn fun _ _ _ _ _ _ us ws h1 h2 => match us, h1, ws, h2 with | [_, _, _], _, [_], _ => rfl
    kb_Stemmer_init_3_exceptions := A66.f.kbn fun _ _ _ _ _ _ us ws h1 h2 => match us, h1, ws, h2 with | [_, _, _, _], _, [_], _ => rfl
    dD_Stemmer := ds_Stemmer
    vD_Stemmer := vd_Stemmer
    bD_Stemmer := bd_Stemmer
    dD_Step := ds_Step
    vD_Step := vd_Step
    bD_Step := bd_Step
    dD_Rule := ds_Rule
    vD_Rule := vd_Rule
    bD_Rule := bd_Rule }
  cases hfa.symm.trans T.m_law
  exact ⟨T.fd_law, A47.arg fun _ _ _ _ _ _ _ => rfl, fun base _ _ => ok_law T⟩
end K91
open PySem PySem.W PySem.Calls PyProof.Rows
set_option maxHeartbeats 0 in
theorem PySem.Challenge.cw_stemsteps_k91_whole_sights_tell_what_fol_holds : PySem.Challenge.rw_stemsteps_k91_whole_sights_tell_what_fol.Holds := by
  w_on; o_law
  refine HandSHeadRun.head_any (r := OpenLaw.row PySem.Challenge.rw_stemsteps_k91_whole_sights_tell_what_fol) (q := view (OpenLaw.row PySem.Challenge.rw_stemsteps_k91_whole_sights_tell_what_fol).prog [77]) (H := K91.hk) (ob := K91.ob) (M := 30000) (loose := K91.nms) (d := HandSHeadRun.topDef (OpenLaw.row PySem.Challenge.rw_stemsteps_k91_whole_sights_tell_what_fol).prog 77) (kwd := []) K91.ob_eq
    (by kernel_rfl) (fun s => by kernel_rfl) K91.run (by kernel_rfl) (by kernel_rfl) (by kernel_rfl) (by rfl) (by first | assumption | decide +kernel) (by decide +kernel) ⟨rfl, rfl, rfl, rfl, rfl, by decide +kernel⟩ ?hw ?hc
  case hw => w_witness2
  case hc =>
    refine L2.walk_ofGE (l := PySem.Challenge.rw_stemsteps_k91_whole_sights_tell_what_fol) (n := 63) (k := 15) (x := "script") rfl (by decide) (by kernel_rfl) ⟨rfl, by decide, by decide⟩ ?F
    intro w mg fa h Y G hmg0
    obtain ⟨K, KX, c⟩ := Y
    have hmg : mg ("law" : PySem.Str) = some (.ref fa) := by
      have e : (HandSHeadRun.topDef (OpenLaw.row PySem.Challenge.rw_stemsteps_k91_whole_sights_tell_what_fol).prog 77).name = ("law" : PySem.Str) := by kernel_rfl
      rw [← e]
      exact hmg0
    obtain ⟨fd, hb, hF⟩ := K91.all_mk (P := PySem.Challenge.rw_stemsteps_k91_whole_sights_tell_what_fol.prog) (w := w) KX G hmg c
    exact ⟨K, fd, K91.spLaw K, KX, hb, fun H a ns hl _ hS => ⟨a, ns, rfl, hS, hl, fun _ => rfl⟩, hF⟩
