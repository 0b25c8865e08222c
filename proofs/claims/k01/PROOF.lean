import PyProof.Rows.All
import Wide.All
import OpenK.AllK
import Wide.FinOn
import KE.KStateDown
import KE.KIsAll
import KE.KExcPX
import HandS.Exc
import HandS.ExcInit
import HandS.ExcIs
import HandS.ExcField
import HandS.Defaults
import HandS.Head0
import HandS.Head1
import HandS.Head2
import HandS.HeadHook1
import HandS.HeadHook2
import PySem.Challenge.RW_weavestore_k01_errors_made
import PyProof.EqAt
import PyProof.EqKinds
import PyProof.TupleCall
import KE.KTryMore
import HandS.ForMost
import HandS.IsInst
import PyProof.ReprRoads
import HandS.Dict
import HandS.Ends
import HandS.HeadEnd
import HandS.Wide
import HandS.WideBits
import HandS.Style
import HandS.MakeKw
set_option Elab.async false
set_option linter.all false
set_option maxRecDepth 100000
set_option maxHeartbeats 0
/-! What is read of the heap that the module's top leaves, and the run of it. -/
namespace L2
open PySem PySem.Spec PyProof.Rows
def sysB (K : PySem.W.Frag) : Bool := match K.lookup sysModules with
  | some ⟨_, _, .dict _ _, _⟩ => true
  | _ => false
end L2
namespace K01
open PySem PySem.Spec PyProof.Rows L2
def top (i : Nat) : Stmt := PySem.Challenge.pw_weavestore_k01_errors_made.main.body.getD i (.Pass ⟨0, 0, 0, 0⟩)
def EN0 : List Str := ["InvalidDisc", "InvalidCell", "InvalidContent", "InvalidChoice", "InvalidCode", "InvalidPage", "InvalidLine", "InvalidRun", "InvalidMoment", "InvalidOrder", "InvalidDeed", "InvalidDeeds", "InvalidStamps", "InvalidChain", "InvalidBook", "InvalidKey", "InvalidThing", "InvalidWrites", "InvalidCommit", "InvalidSnapshot", "InvalidHeld"]
def EN1 : List Str := ["InvalidQuestion", "InvalidName", "InvalidKind", "InvalidTransaction", "InvalidHistory", "InvalidPrograms", "InvalidShelf", "InvalidState", "InvalidTable", "InvalidRow", "InvalidText", "InvalidStore", "InvalidSpot", "InvalidScript", "InvalidRecord", "InvalidCount", "Unlike", "Full", "Refused", "Fallen"]
/-- the errors' names, in the law's order -/
def EN : List Str := EN0 ++ EN1
/-- an error's class by its name -/
abbrev cA (K : PySem.W.Frag) (x : Str) : Addr := He.ga K x
abbrev iA (K : PySem.W.Frag) (x : Str) : Addr := He.ma K (He.ga K x) "__init__"
abbrev sSt : Stmt := inClass (top 1) 0
/-- the class object at C, as OexC wants it -/
def oexB (K : PySem.W.Frag) (C : Addr) : Bool := match K.lookup C with
  | some ⟨.type "type", _, .cls cd, sl⟩ => (match cd.mro, sl.toList with
    | .ref C' :: bm, [_, _, _, _, some (.builtin n), _] => decide (C' = C) && (decide (n = "ValueError.__new__") && (!cd.hasDel && (cd.hasDict && PySem.HandSPX.refsVE bm)))
    | _, _ => false)
  | _ => false
def veI : Option PySem.W.CFound → Bool
  | some (.val (.builtin n)) => decide (n = "ValueError.__init__")
  | _ => false
/-- what is read of a class of errors -/
def clB (K : PySem.W.Frag) (C : Addr) (I : Addr) : Bool :=
  oexB K C && (decide (PySem.W.findIn K (.ref C) "__setattr__" = some (some (.builtin "object.__setattr__"))) && (decide (PySem.W.subIn K (.ref C) (.type "BaseException") = some true) &&
  (decide (PySem.W.typeIn K (.ref C) = some (.type "type")) && (PySem.W.keepIn K (.ref C) &&
  (decide (PySem.W.findIn K (.ref C) "__getattribute__" = some (some (.builtin "BaseException.__getattribute__"))) && (decide (PySem.W.findIn K (.ref C) "__getattr__" = some none) &&
  (PySem.W.hasDictIn K C && (decide (PySem.W.findIn K (.ref C) "__class__" = some (some (.builtin "object.__class__"))) && (decide (PySem.W.mroIn K C (.type "object") = some true) &&
  (decide (PySem.W.findIn K (.ref C) "__init__" = some (some (.ref I))) && decide (PySem.W.typeIn K (.ref I) = some (.type "function"))))))))))))
/-- what is read once -/
def onceB (K : PySem.W.Frag) : Bool := sysB K && (decide (PySem.W.specialIn K (.builtin "object.__class__") "__get__" = some (some (.builtin "getset_descriptor.__get__"))) && (decide (PySem.W.takesIn K (.builtin "object.__class__") = some true) &&
  veI (PySem.W.findCls K (.type "ValueError") (.type "type") "__init__")))
def noVal (K : PySem.W.Frag) (C : Addr) : Bool := decide (PySem.W.findIn K (.ref C) "value" = some none)
/-- its line of classes: itself, the base, ValueError .. -/
def mroB (K : PySem.W.Frag) (C S : Addr) : Bool := match PySem.W.clsIn K C with
  | some cd => decide (cd.mro = [.ref C, .ref S, .type "ValueError", .type "Exception", .type "BaseException", .type "object"])
  | none => false
def upB : List Addr → Bool
  | a :: b :: r => Nat.blt a b && upB (b :: r)
  | _ => true
def exB (K : PySem.W.Frag) : Bool := onceB K && ((clB K (cA K "StoreError") (iA K "StoreError") && EN.all fun x => clB K (cA K x) (iA K x) && (noVal K (cA K x) && mroB K (cA K x) (cA K "StoreError"))) && 
  (upB (cA K "StoreError" :: EN.map (cA K)) && decide ((PySem.W.clsIn K (cA K "StoreError")).map (fun cd => cd.mro) = some [.ref (cA K "StoreError"), .type "ValueError", .type "Exception", .type "BaseException", .type "object"])))
def dT (i : Nat) (x : Str) : He.DefD := ⟨(x, none), x, x, defArgs (top i), defBody (top i), defScope (top i), [], []⟩
def dE (i : Nat) (x q : Str) : He.DefD := ⟨(x, some "__init__"), "__init__", q, defArgs (inClass (top i) 0), defBody (inClass (top i) 0), defScope (inClass (top i) 0), [.non], []⟩
def dS : He.DefD := ⟨("StoreError", some "__init__"), "__init__", "StoreError.__init__", defArgs sSt, defBody sSt, defScope sSt, [], []⟩
def fn0 : List He.DefD := [dT 44 "_law_purse", dT 45 "_law_mixed", dT 46 "_law_draw", dT 47 "_law_purses", dT 48 "_law_one_of", dT 49 "_law_word", dT 50 "_law_first", dT 51 "_law_called", dT 52 "_law_bare", dT 53 "_law_code", dT 54 "_law_is_error", dT 55 "_law_right", dT 56 "law", dS]
def fn1 : List He.DefD := [dE 2 "InvalidDisc" "InvalidDisc.__init__", dE 3 "InvalidCell" "InvalidCell.__init__", dE 4 "InvalidContent" "InvalidContent.__init__", dE 5 "InvalidChoice" "InvalidChoice.__init__", dE 6 "InvalidCode" "InvalidCode.__init__", dE 7 "InvalidPage" "InvalidPage.__init__", dE 8 "InvalidLine" "InvalidLine.__init__", dE 9 "InvalidRun" "InvalidRun.__init__", dE 10 "InvalidMoment" "InvalidMoment.__init__", dE 11 "InvalidOrder" "InvalidOrder.__init__", dE 12 "InvalidDeed" "InvalidDeed.__init__", dE 13 "InvalidDeeds" "InvalidDeeds.__init__", dE 14 "InvalidStamps" "InvalidStamps.__init__", dE 15 "InvalidChain" "InvalidChain.__init__", dE 16 "InvalidBook" "InvalidBook.__init__", dE 17 "InvalidKey" "InvalidKey.__init__", dE 18 "InvalidThing" "InvalidThing.__init__", dE 19 "InvalidWrites" "InvalidWrites.__init__", dE 20 "InvalidCommit" "InvalidCommit.__init__", dE 21 "InvalidSnapshot" "InvalidSnapshot.__init__", dE 22 "InvalidHeld" "InvalidHeld.__init__"]
def fn2 : List He.DefD := [dE 23 "InvalidQuestion" "InvalidQuestion.__init__", dE 24 "InvalidName" "InvalidName.__init__", dE 25 "InvalidKind" "InvalidKind.__init__", dE 26 "InvalidTransaction" "InvalidTransaction.__init__", dE 27 "InvalidHistory" "InvalidHistory.__init__", dE 28 "InvalidPrograms" "InvalidPrograms.__init__", dE 29 "InvalidShelf" "InvalidShelf.__init__", dE 30 "InvalidState" "InvalidState.__init__", dE 31 "InvalidTable" "InvalidTable.__init__", dE 32 "InvalidRow" "InvalidRow.__init__", dE 33 "InvalidText" "InvalidText.__init__", dE 34 "InvalidStore" "InvalidStore.__init__", dE 35 "InvalidSpot" "InvalidSpot.__init__", dE 36 "InvalidScript" "InvalidScript.__init__", dE 37 "InvalidRecord" "InvalidRecord.__init__", dE 38 "InvalidCount" "InvalidCount.__init__", dE 39 "Unlike" "Unlike.__init__", dE 40 "Full" "Full.__init__", dE 41 "Refused" "Refused.__init__", dE 42 "Fallen" "Fallen.__init__"]
def fn : List He.DefD := fn0 ++ (fn1 ++ fn2)
def fa0 : List He.Fa := [.glo "_law_purse", .glo "_law_mixed", .glo "_law_draw", .glo "_law_purses", .glo "_law_one_of", .glo "_law_word", .glo "_law_first", .glo "_law_called", .glo "_law_bare", .glo "_law_code", .glo "_law_is_error", .glo "_law_right", .glo "law", .glo "StoreError"]
def fa1 : List He.Fa := [.free "sum", .free "int", .free "max", .free "min", .free "len", .free "range", .free "isinstance", .free "repr", .free "ValueError", .free "list", .free "dict", .free "tuple"]
def fa : List He.Fa := fa0 ++ (fa1 ++ EN.map He.Fa.glo)
def names0 : List Str := ["StoreError", "InvalidDisc", "InvalidCell", "InvalidContent", "InvalidChoice", "InvalidCode", "InvalidPage", "InvalidLine", "InvalidRun", "InvalidMoment", "InvalidOrder", "InvalidDeed", "InvalidDeeds", "InvalidStamps", "InvalidChain", "InvalidBook", "InvalidKey", "InvalidThing", "InvalidWrites", "InvalidCommit", "InvalidSnapshot", "InvalidHeld", "InvalidQuestion", "InvalidName", "InvalidKind", "InvalidTransaction", "InvalidHistory"]
def names1 : List Str := ["InvalidPrograms", "InvalidShelf", "InvalidState", "InvalidTable", "InvalidRow", "InvalidText", "InvalidStore", "InvalidSpot", "InvalidScript", "InvalidRecord", "InvalidCount", "Unlike", "Full", "Refused", "Fallen", "_law_purse", "_law_mixed", "_law_draw", "_law_purses", "_law_one_of", "_law_word", "_law_first", "_law_called", "_law_bare", "_law_code", "_law_is_error", "_law_right"]
def names : List Str := names0 ++ names1
abbrev R : PySem.W.OpenRow := PySem.W.OpenLaw.row PySem.Challenge.rw_weavestore_k01_errors_made
abbrev qv : Program := PySem.W.view R.prog [56]
abbrev AlX : Type := He.AlD × Bool
def obX (K : PySem.W.Frag) : AlX := (He.obsD fa fn K, exB K)
/-- what an object of these names, one step on -/
def tgt (g : Addr → Option Obj) (a : Addr) : List Addr := match g a with
  | some o => (match o.data with
    | .cls cd => [cd.ns]
    | .func fd => He.refV fd.code ++ He.refV fd.defaults
    | .dict es _ => es.toList.flatMap fun e => He.refV e.val
    | _ => [])
  | none => []
def as1 (g : Addr → Option Obj) : List Addr := tgt g mainGlobals
def as2 (g : Addr → Option Obj) : List Addr := (as1 g).flatMap (tgt g)
def as3 (g : Addr → Option Obj) : List Addr := (as2 g).flatMap (tgt g)
def as4 (g : Addr → Option Obj) : List Addr := (as3 g).flatMap (tgt g)
def obG (g : Addr → Option Obj) : AlX := obX (He.frG g (sysModules :: mainGlobals :: (as1 g ++ (as2 g ++ (as3 g ++ as4 g)))))
def hk : PySem.W.Hook where
  α := AlX
  obs := fun s => obG s.heap.get?
  val := fun _ => (He.valD fn, true)
  says := fun _ h => ∃ K : PySem.W.Frag, K.In h ∧ He.SaysD fa fn K ∧ exB K = true
  of := fun _ _ e => ⟨_, He.frG_in, congrArg (fun z : AlX => z.1) e, congrArg (fun z : AlX => z.2) e⟩
  keeps := fun _ _ _ ⟨K, hK, c⟩ k => ⟨K, PySem.W.Frag.In.keeps hK k, c⟩
def ob (s : PySem.W.SharedT) : AlX := obG (HandSHeadRun.getT s)
theorem ob_eq (s : PySem.W.SharedT) : ob s = hk.obs s.abs := by
  have e : HandSHeadRun.getT s = s.abs.heap.get? := funext (HandSHeadRun.getT_eq s)
  show obG (HandSHeadRun.getT s) = obG s.abs.heap.get?
  rw [e]
theorem run (w : World) : HandSHeadRun.RunEq R qv hk ob 20000 names w := by
  intro os
  kernel_rfl
end K01
set_option Elab.async false
set_option linter.all false
set_option maxRecDepth 100000
set_option maxHeartbeats 4000000
/-! An own exception class over ValueError called with keywords: the same object comes as without. -/
namespace PySem
namespace KwX
open PySem.W PySem.Calls PyProof.Rows PySem.HandSPX
section
variable {M : Model} {A : Around} {E : Value → Shared → Prop} {h : Heap} {g : Array GenState} {d : Drawn} {t : Nat} {os : OsState}
variable {nm q : Str} {C N : Addr} {bs bm bmB : List Value} {hdct : Bool} {sn : List Str} {sub : List Value} {ab : Bool} {col : Option Bool} {dd : Option Addr}
variable {k0 k1 k2 k3 k5 : Option Value} {B newId initId : String} {kw : List (Str × Value)}

theorem chk (F : ExcBaseFacts B newId initId bmB) (hT : ∀ X : String, bm.contains (.type X) = bmB.contains (.type X))
    {rest : List Value} {Q : Unit → Shared → Prop}
    (hC : h.get? C = some (excClassObj nm q C N bs bm hdct sn sub ab col dd k0 k1 k2 k3 k5 newId))
    (hq : Q () ⟨h, g, d, t, os⟩) :
    wpAny M A (checkBuiltinCall newId ⟨.ref C :: rest, kw⟩) Q E ⟨h, g, d, t, os⟩ := by
  have hB : (Value.ref C :: bm).contains (.type B) = true := by
    rw [List.contains_cons, hT, F.hasB, Bool.or_true]
  have hs := F.noStar
  simp only [checkBuiltinCall, F.newKind, F.newSplit, F.newRow]
  repeat (first
    | refine wpAny_loadPart_at hC ?_
    | (refine wpAny_isSubtype_exc hC ?_; rw [hB])
    | refine wpAny_staticBase_exc hC ?_
    | refine wpAny_madeBy_exc hC ?_
    | simp only [bne_self_eq_false, Bool.false_eq_true, if_false]
    | wp_step)
  exact hq
end

section
variable {prog : Program} {w : World} {A : Around} {E : Value → Shared → Prop} {R : Result → Shared → Prop} {h : Heap} {g : Array GenState} {d : Drawn} {t : Nat} {os : OsState}
variable {nm q : Str} {C N : Addr} {bs bm bmB : List Value} {hdct : Bool} {sn : List Str} {sub : List Value} {ab : Bool} {col : Option Bool} {dd : Option Addr}
variable {k0 k1 k2 k3 k5 : Option Value} {B newId initId : String} {kw : List (Str × Value)}

theorem made (F : ExcBaseFacts B newId initId bmB) (hT : ∀ X : String, bm.contains (.type X) = bmB.contains (.type X)) {rest : List Value}
    (hC : h.get? C = some (excClassObj nm q C N bs bm hdct sn sub ab col dd k0 k1 k2 k3 k5 newId))
    (hq : R (.ok (.ret (.ref (h.objs.size + 1)))) ⟨(h.push (W.kdv_tup rest)).push (excO C h.objs.size), g, d, t, os⟩)
    (hrest : rest.length ≤ sizeLine) : codeAny (model prog w) A (.builtin newId ⟨.ref C :: rest, kw⟩) R ⟨h, g, d, t, os⟩ := by
  have he := F.ends
  have hB : (Value.ref C :: bm).contains (.type B) = true := by
    rw [List.contains_cons, hT, F.hasB, Bool.or_true]
  have hA : (Value.ref C :: bm).contains (.type "AttributeError") = false := by
    rw [List.contains_cons, hT, F.noAttr]
    rfl
  have hN : (Value.ref C :: bm).contains (.type "NameError") = false := by
    rw [List.contains_cons, hT, F.noName]
    rfl
  refine codeAny_builtinAt F.entry ?_
  unfold Builtin.«BaseException.__new__»
  refine wpAt_bind ?_
  show wpAt _ _ _ (stack >>= _) _ _ _
  refine wpAt_bind (wpAt_stack fun p below => wpAt_of_wpAny ?_)
  wp_walk
  refine wpAt_of_wpAny ?_
  rw [F.owner]
  repeat (first
    | with_reducible refine wpAny_madeHere_exc F.canon hC ?_
    | with_reducible refine wpAny_loadPart_at hC ?_
    | (with_reducible refine wpAny_isSubtype_exc hC ?_; first | rw [hB] | rw [hA] | rw [hN])
    | wp_step)
  show R _ _
  rw [Heap.size_push]
  exact hq

theorem tcall (F : ExcBaseFacts B newId initId bmB) (hT : ∀ X : String, bm.contains (.type X) = bmB.contains (.type X)) {rest : List Value} {fI : Addr} {Q : Fin → Shared → Prop}
    (hC : h.get? C = some (excClassObj nm q C N bs bm hdct sn sub ab col dd k0 k1 k2 k3 k5 newId))
    (hi : W.Looks (model prog w) h (typeLookup (.ref C) "__init__") (some (.ref fI)))
    (hb : ∀ self, W.Looks (model prog w) h (bindSpecial (.ref fI) self) (.ref fI, [self])) (hrest : rest.length ≤ sizeLine)
    (hq : codeAny (model prog w) A (.call (.ref fI) ⟨.ref (h.objs.size + 1) :: rest, kw⟩)
      (fun r s' => match r with
        | .ok (.ret v) => v = .none ∧ Q (.done (.ret (.ref (h.objs.size + 1)))) s'
        | .ok _ => False
        | .error e => E e s') ⟨(h.push (W.kdv_tup rest)).push (excO C h.objs.size), g, d, t, os⟩) :
    wpAny (model prog w) A (Builtin.«type.__call__» ⟨.ref C :: rest, kw⟩) Q E ⟨h, g, d, t, os⟩ := by
  repeat (first
    | with_reducible refine wpAny_loadPart_at hC ?_
    | with_reducible refine wpAny_madeBy_exc hC ?_
    | wp_step)
  refine codeAny_call_builtin_code (Code.quiet_builtin _ F.quiet) (chk F hT hC ?_)
  refine made F hT hC ?_ hrest
  show wpAny _ _ _ _ _ _
  have k : ∀ b o, h.get? b = some o → ((h.push (W.kdv_tup rest)).push (excO C h.objs.size)).get? b = some o :=
    fun b o e => Heap.get?_push_of_some _ (Heap.get?_push_of_some _ e)
  have c1 := k _ _ hC
  have hg : ((h.push (W.kdv_tup rest)).push (excO C h.objs.size)).get? (h.objs.size + 1) = some (excO C h.objs.size) := by heap_get
  have cc : (Value.ref C :: bm).contains (.ref C) = true := by simp
  have i1 := hi.keeps k
  have b1 := (hb (.ref (h.objs.size + 1))).keeps k
  unfold isInstance
  repeat (first
    | with_reducible refine wpAny_loadPart_at hg ?_
    | (with_reducible refine wpAny_isSubtype_exc c1 ?_; rw [cc])
    | wp_step)
  show wpAny _ _ (typeLookup (.ref C) _) _ _ _
  refine i1.at (wpAny_holding (wpAny_bind (b1.at ?_)))
  refine wpAny_bind (wpAny_call (codeAny_mono hq fun r s' z => ?_))
  rcases r with e | (v | _ | _ | _) <;> first | exact z | exact z.elim | skip
  obtain ⟨rfl, z⟩ := z
  first
    | exact wpAny_pure (wpAny_pure z)
    | (wp_walk; exact z)

/-- C(.., k = v): the object, then __init__ with the same arguments -/
theorem callk (F : ExcBaseFacts B newId initId bmB) (hT : ∀ X : String, bm.contains (.type X) = bmB.contains (.type X)) {rest : List Value} {fI : Addr}
    (hC : h.get? C = some (excClassObj nm q C N bs bm hdct sn sub ab col dd k0 k1 k2 k3 k5 newId))
    (hi : W.Looks (model prog w) h (typeLookup (.ref C) "__init__") (some (.ref fI)))
    (hb : ∀ self, W.Looks (model prog w) h (bindSpecial (.ref fI) self) (.ref fI, [self])) (hrest : rest.length ≤ sizeLine)
    (hq : codeAny (model prog w) (A.under (.builtin "type.__call__" ⟨.ref C :: rest, kw⟩)) (.call (.ref fI) ⟨.ref (h.objs.size + 1) :: rest, kw⟩)
      (W.InitBack (h.objs.size + 1) R) ⟨(h.push (W.kdv_tup rest)).push (excO C h.objs.size), g, d, t, os⟩) :
    codeAny (model prog w) A (.call (.ref C) ⟨rest, kw⟩) R ⟨h, g, d, t, os⟩ := by
  have f1 := tc_lookup
  have f2 := tc_bind (.ref C)
  have hTy : (⟨h, g, d, t, os⟩ : Shared).TypeIs (.ref C) "type" := ⟨_, hC, rfl⟩
  refine codeAny_of_tree ?_
  show wpAny _ _ (callAny (.ref C) _) _ _ _
  repeat (any_goals (first
    | assumption
    | with_reducible refine wpAny_loadPart_at hC ?_
    | wp_step))
  refine ⟨rfl, ?_⟩
  refine codeAny_call_builtin_at (Code.quiet_builtin _ (by decide +kernel)) entry_typeCall (wpAny_check_type_call_sub hC (tcall F hT hC hi hb hrest ?_))
  refine codeAny_mono hq fun r s' z => ?_
  rcases r with e | (v | _ | _ | _) <;> exact z
end
end KwX
end PySem
set_option Elab.async false
set_option linter.all false
set_option maxRecDepth 100000
set_option maxHeartbeats 4000000
/-! Errors of the program's own as values: made, asked for their class, read. -/
namespace PySem.W
open PySem PySem.Spec PySem.Calls PyProof.Rows
section
variable {prog : Program} {w : World} {A : Around} {E : Value → Shared → Prop} {s : Shared} {K : Frag} {x D : Addr} {ox : Obj} {od : Option Obj}
theorem err_find (hc : (clsIn K D).isSome = true) (ha : findIn K (.ref D) "__class__" = some (some (.builtin "object.__class__")))
    (hg : specialIn K (.builtin "object.__class__") "__get__" = some (some (.builtin "getset_descriptor.__get__"))) (ht : takesIn K (.builtin "object.__class__") = some true) :
    findObj K D od "__class__" = some (.bind (.builtin "getset_descriptor.__get__") (.builtin "object.__class__")) := by
  cases od with
  | none => exact findObj_dataN hc ha hg ht
  | some o => exact findObj_data hc ha hg ht
/-- x.__class__ of an error, with a dict of its own or without one -/
theorem err_class {Q : Option Value → Shared → Prop} (T : L2.ExcC K D) (X : K.In s.heap) (I : InstAt s.heap x ox D od)
    (h : Q (some (.ref D)) { s with toks := s.toks + 1 }) : wpAny (model prog w) A (getAttr? (.ref x) "__class__") Q E s := by
  have hf := err_find (od := od) (K := K) (D := D) (by obtain ⟨cd, hc, _⟩ := any_some T.hd; rw [hc]; rfl) T.ha T.hn T.ht
  obtain ⟨hp, g, d, t, os⟩ := s
  have A0 := I.type (M := model prog w)
  have A1 := looks_findIn (M := model prog w) X T.hg
  have A2 := looks_findIn (M := model prog w) X T.hk
  have A3 := looks_find (M := model prog w) X I hf
  have A4 : Looks (model prog w) hp (isInstance (.ref x) (.type "BaseException")) true := A0.andThen (looks_subIn X T.hs)
  have n0 : (false && onTheHeap (Value.builtin "BaseException.__getattribute__")) = false := rfl
  have n2 : (Value.builtin "BaseException.__getattribute__" == Value.builtin "object.__getattribute__") = false := by decide +kernel
  have n1 : (onTheHeap (Value.ref D) && Value.builtin "BaseException.__getattribute__" == Value.builtin "object.__getattribute__") = false := by
    rw [n2]
    rfl
  unfold getAttr? getAttrBy? getAttrBy
  refine wpAny_bind (wpAny_mkText (wpAny_bind (wpAny_attempt (wpAny_holding (wpAny_bind (A0.at (wpAny_bind (A1.at ?_))))))))
  show wpAny _ _ (if (onTheHeap (Value.ref D) && Value.builtin "BaseException.__getattribute__" == Value.builtin "object.__getattribute__") = true then _ else _) _ _ _
  rw [n1, if_neg Bool.false_ne_true]
  unfold getAttrByItsOwn hookBefore
  refine wpAny_bind ?_
  rw [if_pos (show onTheHeap (Value.ref D) = true from rfl)]
  refine A2.at (wpAny_bind (wpAny_attempt (wpAny_holding ?_)))
  unfold callGetattribute
  rw [n0, if_neg Bool.false_ne_true]
  unfold boundAndCalled
  rw [PySem.F.excAttr_ValueError.ga.bind (.ref x)]
  refine wpAny_bind (wpAny_pure ?_)
  show wpAny _ _ (call (.builtin "BaseException.__getattribute__") [.ref x, .str "__class__" t]) _ _ _
  refine wpAny_call (codeAny_call_builtin PySem.F.excAttr_ValueError.ga.plain PySem.F.entry_bexc_ga ?_)
  refine @check_slot (model prog w) _ _ ⟨hp, g, d, t + 1, os⟩ "BaseException.__getattribute__" "BaseException" "__getattribute__" (.ref x) [.str "__class__" t] [] _
    (by decide +kernel) (by decide +kernel) A4 (PySem.F.args_bexc_ga (.ref x) (.str "__class__" t)) ?_
  unfold Builtin.«object.__getattribute__»
  refine wpAny_bind (wpAny_of_eq (a := ((Value.ref x : Value), [Value.str "__class__" t])) (by first | rfl | (simp only [slotArgs]; rfl)) ?_)
  refine wpAny_bind (wpAny_pure (wpAny_bind (A0.at (wpAny_bind (A3.at ?_)))))
  show wpAny _ _ (holding [Value.builtin "object.__class__"] (call (.builtin "getset_descriptor.__get__") [.builtin "object.__class__", .ref x, .ref D]) >>= ret) _ _ _
  refine wpAny_bind (wpAny_holding (wpAny_call (class_get (s := ⟨hp, g, d, t + 1, os⟩) (ox := ox) (od := od) X I T.hm ?_)))
  refine wpAny_pure ?_
  show wpAny _ _ (handedOut (.ref D)) _ _ _
  rw [handedOut_of (v := .ref D) rfl]
  first
    | exact wpAny_pure (wpAny_pure h)
    | exact wpAny_pure h
    | exact wpAny_pure (wpAny_bind (wpAny_pure (wpAny_pure h)))
theorem err_kit (T : L2.ExcC K D) : KitX K (.ref x) (.ref D) (fun h => ∃ ox od, InstAt h x ox D od) where
  ty := fun _ _ _ ⟨_, _, I⟩ => I.type
  it := fun _ _ X _ => by
    obtain ⟨cd, hc, _⟩ := any_some T.hd
    unfold clsIn at hc
    split at hc
    · rename_i c1 d1 cd1 sl1 ho
      intro A' Q' E' s' k q
      unfold isType loadHead
      exact wpAny_bind (wpAny_loadPart (k _ _ (X _ _ ho)) (wpAny_pure q))
    · cases hc
  ne := fun h tp dd its n sl X htp => by
    obtain ⟨cd, hc, _⟩ := any_some T.hd
    refine Bool.eq_false_iff.mpr fun q => ?_
    have e : D = tp := Value.ref.inj (beq_iff_eq.mp q)
    subst e
    unfold clsIn at hc
    split at hc
    · rename_i c1 d1 cd1 sl1 ho
      have z := (X _ _ ho).symm.trans htp
      cases z
    · cases hc
  ca := fun X ⟨_, _, I⟩ k => err_class T X I k
end
end PySem.W
set_option Elab.async false
set_option linter.all false
set_option maxRecDepth 100000
set_option maxHeartbeats 4000000
namespace L2
open PySem PySem.Spec PyProof.Rows
/-- what the written part says of a class of errors at C whose __init__ stands at fI -/
structure ErrC (K : PySem.W.Frag) (C fI : Addr) : Prop where
  ox : OexC K C
  xf : XfC K C
  xc : ExcC K C
  iC : PySem.W.findIn K (.ref C) "__init__" = some (some (.ref fI))
  tI : PySem.W.typeIn K (.ref fI) = some (.type "function")
  nv : PySem.W.findIn K (.ref C) "value" = some none
/-- x is an error of the class at C whose field holds v -/
def ErrAt (H : Hp) (C : Addr) (v x : V) : Prop := ∃ e d, x = .ref e ∧ H e = some (exo e C (some d)) ∧ H d = some (exd d [("value", v)])
theorem ErrAt.same {H H' : Hp} {C : Addr} {v x : V} (k : Same H H') (h : ErrAt H C v x) : ErrAt H' C v x := by
  obtain ⟨e, d, e1, e2, e3⟩ := h
  exact ⟨e, d, e1, k _ _ e2, k _ _ e3⟩
/-- its __init__ -/
def spErr (C : Addr) : Sp := fun vs H Q _ => ∃ (e : Addr) (v : V), vs = [.ref e, v] ∧ H e = some (exo e C none) ∧
  ∀ d, H d = none → d ≠ e → Q .non (upd (upd H d (exd d [("value", v)])) e (exo e C (some d)))
def errScope : Scope := { kind := .function, names := [("self", .local), ("value", .local)], isGenerator := false, isCoroutine := false, more := [] }
def errBody (p1 p2 p3 p4 : Pos) : List Stmt := [.Assign [.Attribute (.Name "self" p1) "value" p2] (.Name "value" p3) p4]
theorem errSc : FnScope ["self", "value"] ["self", "value"] errScope := ⟨rfl, rfl, rfl, by decide +kernel, rfl, by decide +kernel, by decide +kernel⟩
section
variable {P : Program} {w : World} {K : PySem.W.Frag} {mg : Str → Option Value} {base : Heap}
theorem ok_err {qual : Str} {params : Arguments} {C fI : Addr} {fd : FuncData} {p1 p2 p3 p4 : Pos} (F : FunD K "__init__" qual params (errBody p1 p2 p3 p4) errScope [.non] [] fI fd) (T : ErrC K C fI) :
    FnOk P w K mg base CX0 1 fI fd ["self", "value"] (spErr C) := by
  refine F.ok errSc (fun vs H Q E h => ?_) (fun cdv A outer s H vs Q E hr h => ?_)
  · obtain ⟨e, v, rfl, _⟩ := h
    rfl
  · obtain ⟨e, v, rfl, he, k⟩ := h
    refine ⟨_, PSs.nox (pss_one (ps_ost (pv 0) (pv 1))), ?_⟩
    exact ⟨_, rfl, _, rfl, e, C, rfl, T.ox, T.nv, Or.inl ⟨he, fun d h1 h2 => k d h1 h2⟩⟩
end
section
variable {X : Cx} {pins : List (Addr × Obj)} {σ : St} {H : Hp} {s : Shared} {C fI : Addr} {fd : FuncData} {k : Nat}
/-- C(..), however the value comes to its parameter -/
theorem run_err {Q : VK} {us : List Value} {kw : List (Str × Value)} {u : Value} {v : V} (T : ErrC X.K C fI) (F1 : FnOk X.prog X.w X.K X.mg X.base CX0 k fI fd ["self", "value"] (spErr C)) (hr : Room (k + 1) X.A)
    (hus : us.length ≤ sizeLine) (hb : ∀ (s' : Shared) (e : Addr), X.K.In s'.heap → BindsTo s' fd ⟨.ref e :: us, kw⟩ ((["self", "value"] : List Str).zip [.ref e, u])) (rv : RelV v u)
    (I : Inv X pins σ H s) (h : ∀ e H', Same H H' → ErrAt H' C v (.ref e) → Q (.ref e) H') :
    wpAny (model X.prog X.w) X.A (call (.ref C) us kw) (EP X pins σ Q) X.xe s := by
  obtain ⟨nm, q, N, bs, bm, sn, sub, ab, col, dd, k0, k1, k2, k3, k5, hC, hbm⟩ := T.ox.cls
  obtain ⟨hp, g, dr, tk, os⟩ := s
  have hsz : hp.objs.size ≤ hp.objs.size + 1 := Nat.le_succ _
  have hn : H (hp.objs.size + 1) = none := I.hok.fresh hsz
  have kk : ∀ b o, hp.get? b = some o → ((hp.push (PySem.W.kdv_tup us)).push (PySem.HandSPX.excO C hp.objs.size)).get? b = some o :=
    fun b o e => Heap.get?_push_of_some _ (Heap.get?_push_of_some _ e)
  have hget : ((hp.push (PySem.W.kdv_tup us)).push (PySem.HandSPX.excO C hp.objs.size)).get? (hp.objs.size + 1) = some (PySem.HandSPX.excO C hp.objs.size) := by heap_get
  have I2 : Inv X pins σ (upd H (hp.objs.size + 1) (exo (hp.objs.size + 1) C none)) ⟨(hp.push (PySem.W.kdv_tup us)).push (PySem.HandSPX.excO C hp.objs.size), g, dr, tk, os⟩ :=
    I.laid (t' := tk) (a := hp.objs.size + 1) (o := exo (hp.objs.size + 1) C none) (h' := (hp.push (PySem.W.kdv_tup us)).push (PySem.HandSPX.excO C hp.objs.size)) kk hsz (exo_ok hget)
  have hq : spErr C [.ref (hp.objs.size + 1), v] (upd H (hp.objs.size + 1) (exo (hp.objs.size + 1) C none))
      (fun v' H3 => v' = .non ∧ Q (.ref (hp.objs.size + 1)) H3) (fun _ _ _ => False) := by
    refine ⟨_, v, rfl, upd_same, fun d hd hne => ⟨rfl, ?_⟩⟩
    rw [upd_ne hne] at hd
    refine h _ _ (fun b o e => ?_) ⟨_, d, rfl, upd_same, ?_⟩
    · rw [upd_ne (ne_of_none e hn), upd_ne (ne_of_none e hd), upd_ne (ne_of_none e hn)]
      exact e
    · rw [upd_ne hne, upd_same]
  refine wpAny_call (PySem.KwX.callk F.excBase_ValueError (fun Y => PySem.HandSPX.refsVE_contains Y bm hbm) (I.kIn _ _ hC) (PySem.W.looks_findIn I.kIn T.iC) (fun self => PySem.W.bind_fn I.kIn self T.tI) hus
    (codeAny_mono (F1.run _ X.stack _ _ ⟨Value.ref (hp.objs.size + 1) :: us, kw⟩ [Value.ref (hp.objs.size + 1), u] [V.ref (hp.objs.size + 1), v] _ (fun _ _ _ => False) (hr.make C us kw) (I2.env0.make C us kw) (hb _ _ I2.kIn)
      (.cons rfl (.cons rv .nil)) hq) fun r s' hq' => ?_))
  cases r with
  | error er => exact absurd hq' id
  | ok fl =>
    cases fl with
    | ret u' =>
      obtain ⟨v', H', I3, rv', ev, q3⟩ := I2.after hq'
      subst ev
      have e1 : ∀ b o, hp.get? b = some o → H b = none → upd H (hp.objs.size + 1) (exo (hp.objs.size + 1) C none) b = none := fun b o e n => by
        rw [upd_ne (Nat.ne_of_lt (Nat.lt_of_lt_of_le (Heap.lt_size e) hsz))]
        exact n
      exact ⟨rv', V.ref (hp.objs.size + 1), H', I3, rfl, q3⟩
    | next => exact False.elim hq'
    | brk => exact False.elim hq'
    | cont => exact False.elim hq'
end
/-! ### the rules: C(), C(e), C(value=e) -/
section
variable {X : Cx} {C fI : Addr} {fd : FuncData} {k : Nat} {x : Str} {p pos : Pos} {e : Expr} {te : TE}
/-- how an argument comes to the parameter: none, by place, by name -/
structure ErrB (K : PySem.W.Frag) (fd : FuncData) : Prop where
  b0 : ∀ (s : Shared) (a : Value), K.In s.heap → BindsTo s fd ⟨[a], []⟩ ((["self", "value"] : List Str).zip [a, .none])
  b1 : ∀ (s : Shared) (a u : Value), K.In s.heap → BindsTo s fd ⟨[a, u], []⟩ ((["self", "value"] : List Str).zip [a, u])
  bk : ∀ (s : Shared) (a u : Value), K.In s.heap → BindsTo s fd ⟨[a], [("value", u)]⟩ ((["self", "value"] : List Str).zip [a, u])
/-- what a call of the class leaves -/
def newErr (C : Addr) (v : V) (H : Hp) (Q : VK) : Prop := ∀ e H', Same H H' → ErrAt H' C v (.ref e) → Q (.ref e) H'
def tErr (C : Addr) (te : TE) : TE := fun σ H Q => te σ H fun v H1 => newErr C v H1 Q
theorem pe_err0 (T : ErrC X.K C fI) (F1 : FnOk X.prog X.w X.K X.mg X.base CX0 k fI fd ["self", "value"] (spErr C)) (B : ErrB X.K fd) (hr : Room (k + 1) X.A) (hm : X.mg x = some (.ref C)) (hg : Gl X x := by rfl)
    (hdb : (x == ("__debug__" : Str)) = false := by decide) : PE X (.Call (.Name x p) [] [] pos) (fun _ H Q => newErr C .non H Q) := by
  refine ⟨fun pins s σ H Q I h => ?_⟩
  refine wpAny_Call_Name_kw (ld_glob I hg hm ?_ hdb)
  refine PySem.W.callWith_K0 I.kIn T.ox.kC ?_
  exact run_err (us := []) (kw := []) T F1 hr (Nat.zero_le _) (fun s' a X' => B.b0 s' _ X') (v := .non) rfl I h
theorem pe_err1 (T : ErrC X.K C fI) (F1 : FnOk X.prog X.w X.K X.mg X.base CX0 k fI fd ["self", "value"] (spErr C)) (B : ErrB X.K fd) (hr : Room (k + 1) X.A) (hm : X.mg x = some (.ref C)) (he : PE X e te) (hg : Gl X x := by rfl)
    (hdb : (x == ("__debug__" : Str)) = false := by decide) (hs : starEach [e] X.env = (false, eval e X.env) :: starEach [] X.env := by rfl) (hpl : (backTo pos (starEach [] X.env)).any (·.1) = false := by rfl) :
    PE X (.Call (.Name x p) [e] [] pos) (tErr C te) := by
  refine ⟨fun pins s σ H Q I h => ?_⟩
  refine wpAny_Call_Name_kw (ld_glob I hg hm ?_ hdb)
  refine PySem.W.callWith_K (h₀ := X.base) I.ok.mod.kin T.ox.kC ?_ hs hpl
  rw [hs]
  show wpAny _ _ (spliced ((false, eval e X.env) :: backTo pos (starEach [] X.env))) _ _ s
  refine Calls.spliced_cons (thn (he.run pins s σ H _ I h) fun u s1 ⟨v, H1, I1, r1, q1⟩ => ?_)
  refine Calls.spliced_nil ⟨I1.kIn, ?_⟩
  exact run_err (us := [u]) (kw := []) T F1 hr (by show 1 ≤ sizeLine; decide) (fun s' a X' => B.b1 s' _ u X') r1 I1 q1
theorem pe_errk {pk : Pos} (T : ErrC X.K C fI) (F1 : FnOk X.prog X.w X.K X.mg X.base CX0 k fI fd ["self", "value"] (spErr C)) (B : ErrB X.K fd) (hr : Room (k + 1) X.A) (hm : X.mg x = some (.ref C))
    {ta : TA} (hkw : PK X [⟨some "value", e, pk⟩] ta) (hg : Gl X x := by rfl) (hdb : (x == ("__debug__" : Str)) = false := by decide)
    (hall : (backToKw pos (keywordEach [⟨some "value", e, pk⟩] X.env)).all (·.1.isSome) = true := by rfl) (hks : (backToKw pos (keywordEach [⟨some "value", e, pk⟩] X.env)).filterMap (·.1) = (["value"] : List Str) := by rfl)
    (hpl : ((backTo pos (starEach [] X.env)).any (·.1) || (backToKw pos (keywordEach [⟨some "value", e, pk⟩] X.env)).any (·.1.isNone)) = false := by rfl) :
    PE X (.Call (.Name x p) [] [⟨some "value", e, pk⟩] pos) (fun σ H Q => ta σ H fun vs H1 => ∃ v, vs = [v] ∧ newErr C v H1 Q) := by
  refine ⟨fun pins s σ H Q I h => ?_⟩
  refine wpAny_Call_Name_kw (ld_glob I hg hm ?_ hdb)
  refine PySem.W.callWith_KW0 (h₀ := X.base) I.ok.mod.kin T.ox.kC hall ?_ hpl
  refine thn (hkw.run pos pins s σ H _ I h) fun us s1 ⟨vs, H1, I1, r1, v, ev, q1⟩ => ?_
  subst ev
  rw [hks]
  cases r1 with
  | @cons _ u _ _ ru rn =>
    cases rn
    exact ⟨I1.kIn, run_err (us := []) (kw := [("value", u)]) T F1 hr (Nat.zero_le _) (fun s' a X' => B.bk s' _ u X') ru I1 q1⟩
end
/-! ### isinstance, the field -/
/-- an error, with or without a field -/
def AnErr (H : Hp) (C : Addr) (x : V) : Prop := ∃ e, x = .ref e ∧ (H e = some (exo e C none) ∨ ∃ d fs, H e = some (exo e C (some d)) ∧ H d = some (exd d fs))
theorem ErrAt.an {H : Hp} {C : Addr} {v x : V} (h : ErrAt H C v x) : AnErr H C x := by
  obtain ⟨e, d, e1, e2, e3⟩ := h
  exact ⟨e, e1, .inr ⟨d, _, e2, e3⟩⟩
theorem AnErr.same {H H' : Hp} {C : Addr} {x : V} (k : Same H H') (h : AnErr H C x) : AnErr H' C x := by
  obtain ⟨e, e1, e2 | ⟨d, fs, e2, e3⟩⟩ := h
  · exact ⟨e, e1, .inl (k _ _ e2)⟩
  · exact ⟨e, e1, .inr ⟨d, fs, k _ _ e2, k _ _ e3⟩⟩
section
variable {X : Cx} {pins : List (Addr × Obj)} {σ : St} {H : Hp} {s : Shared} {C : Addr}
theorem AnErr.inst {e : Addr} (I : Inv X pins σ H s) (h : AnErr H C (.ref e)) : ∃ ox od, PySem.W.InstAt s.heap e ox C od := by
  obtain ⟨e', e1, h⟩ := h
  cases e1
  rcases h with h | ⟨d, fs, h, hd⟩
  · obtain ⟨t1, ho⟩ := exo_at I.hok h
    exact ⟨_, none, ho, rfl, rfl, trivial⟩
  · obtain ⟨t1, ho⟩ := exo_at I.hok h
    obtain ⟨mA, hn, _⟩ := exd_at I.hok hd
    obtain ⟨o, es, ep, hod, _⟩ := hn
    exact ⟨_, some o, ho, rfl, rfl, hod⟩
def rIsX (K : PySem.W.Frag) : List V → Hp → VK → Prop := fun xs H Q => ∃ (x : V) (C : Addr) (c : V) (cv : Value) (b : Bool), xs = [x, c] ∧ AnErr H C x ∧ ExcC K C ∧ ClsV c cv ∧ PySem.W.kitOne K (.ref C) cv = some b ∧ Q (.bl b) H
theorem call_isX : CallR X (.builtin "isinstance") (rIsX X.K) := by
  intro pins s σ H xs us Q I r h
  obtain ⟨x, C, c, cv, b, rfl, hx, T, kc, e, q⟩ := h
  obtain ⟨u1, u2, rfl, r1, r2⟩ := vals2 r
  have e2 := kc.eq r2
  subst e2
  obtain ⟨a, rfl, hh⟩ := id hx
  obtain rfl : u1 = Value.ref a := r1
  exact PySem.W.kia_one (PySem.W.err_kit T) I.kIn (hx.inst I) e (fun z => nomatch z) fun tk => ⟨.bl b, H, I.tok tk, rfl, q⟩
/-- e.value -/
def tErrVal (K : PySem.W.Frag) (te : TE) : TE := fun σ H Q => te σ H fun x H1 => ∃ C fI v, ErrAt H1 C v x ∧ ErrC K C fI ∧ Q v H1
theorem pe_errVal {e : Expr} {te : TE} {pos : Pos} (he : PE X e te) (hb : attributeBase e "value" X.env (eval e X.env) = eval e X.env := by rfl) : PE X (.Attribute e "value" pos) (tErrVal X.K te) := by
  refine ⟨fun pins s σ H Q I h => ?_⟩
  refine attr_of hb (thn (he.run pins s σ H _ I h) fun u s1 hh => ?_)
  obtain ⟨x, H1, I1, rx, C, fI, v, ⟨a, d, rfl, ha, hd⟩, T, q⟩ := hh
  obtain rfl : u = Value.ref a := rx
  obtain ⟨t1, ho⟩ := exo_at I1.hok ha
  obtain ⟨mA, hns, hr⟩ := exd_at I1.hok hd
  obtain ⟨od, hod, hl⟩ := lookIn_ns hns
  obtain ⟨w, hw, rw'⟩ := RelO.some_of (v := v) (o := mA "value") (hr "value")
  have J : PySem.W.InstAt s1.heap a _ C (some od) := ⟨ho, rfl, rfl, hod⟩
  exact HandSPX.exc_get I1.kIn J T.xf.ga T.xf.gg T.xf.exC (PySem.W.findObj_own T.xf.hdC T.nv rfl (by rw [hl, hw])) (handed_of rw') ⟨v, H1, I1.tok _, rw', q⟩
end
end L2
set_option Elab.async false
set_option linter.all false
set_option maxRecDepth 100000
set_option maxHeartbeats 4000000
/-! repr of data that stand on the tracked heap: lists, tuples, dicts with int and text keys, of any depth. -/
namespace L2
open PySem PySem.Spec PyProof.Rows
mutual
/-- v stands for the datum d -/
inductive Sh (H : Hp) : V → PyData → Prop
  | non : Sh H .non .none
  | bl (b : Bool) : Sh H (.bl b) (.bool b)
  | int (i : Int) : Sh H (.int i) (.int i)
  | str (x : Str) : Sh H (.str x) (.str x)
  | lst {a : Addr} {xs : List V} {ds : List PyData} : H a = some (.lst xs) → ShA H xs ds → Sh H (.ref a) (.list ds)
  | tup {a : Addr} {xs : List V} {ds : List PyData} : H a = some (.tup xs) → ShA H xs ds → Sh H (.ref a) (.tuple ds)
  | dic {a : Addr} {kvs : List (Key × V)} {ds : List (PyData × PyData)} : H a = some (.dK kvs) → ShA H (kvs.map fun p => kV p.1) (ds.map (·.1)) → ShA H (kvs.map (·.2)) (ds.map (·.2)) → Sh H (.ref a) (.dict ds)
inductive ShA (H : Hp) : List V → List PyData → Prop
  | nil : ShA H [] []
  | cons {v : V} {vs : List V} {d : PyData} {ds : List PyData} : Sh H v d → ShA H vs ds → ShA H (v :: vs) (d :: ds)
end
mutual
theorem Sh.same {H H' : Hp} (k : Same H H') : ∀ {d : PyData} {v : V}, Sh H v d → Sh H' v d
  | _, _, .non => .non
  | _, _, .bl b => .bl b
  | _, _, .int i => .int i
  | _, _, .str x => .str x
  | _, _, .lst h a => .lst (k _ _ h) (ShA.same k a)
  | _, _, .tup h a => .tup (k _ _ h) (ShA.same k a)
  | _, _, .dic h a b => .dic (k _ _ h) (ShA.same k a) (ShA.same k b)
theorem ShA.same {H H' : Hp} (k : Same H H') : ∀ {ds : List PyData} {vs : List V}, ShA H vs ds → ShA H' vs ds
  | _, _, .nil => .nil
  | _, _, .cons h t => .cons (Sh.same k h) (ShA.same k t)
end
/-- sys.modules is known, so that no list is it -/
def SysK (K : PySem.W.Frag) : Prop := ∃ oc od es n sl, K.lookup sysModules = some ⟨oc, od, .dict es n, sl⟩
theorem sysB_ok {K : PySem.W.Frag} (h : sysB K = true) : SysK K := by
  unfold sysB at h
  cases q : K.lookup sysModules with
  | none =>
    rw [q] at h
    cases h
  | some o =>
    obtain ⟨oc, od, dt, sl⟩ := o
    rw [q] at h
    cases dt with
    | dict es n => exact ⟨oc, od, es, n, sl, q⟩
    | _ => cases h
section
variable {X : Cx} {pins : List (Addr × Obj)} {σ : St} {H : Hp} {s : Shared}
theorem key_vals : ∀ {kvs : List (Key × V)} {vs : List (Key × Value)} {es : List DictEntry}, KV kvs vs → Pairs (mixKind X.prog X.w) es vs → Vals (kvs.map fun p => kV p.1) (es.map (·.key)) ∧ Vals (kvs.map (·.2)) (es.map (·.val))
  | _, _, _, .nil, .nil => ⟨.nil, .nil⟩
  | p :: _, q :: _, e :: _, .cons r t, .cons h1 h2 h3 => by
    obtain ⟨i1, i2⟩ := key_vals t h3
    obtain ⟨k, v⟩ := p
    obtain ⟨k', u⟩ := q
    obtain ⟨r1, r2⟩ := r
    have r1' : k = k' := r1
    subst r1'
    have h2' : e.val = u := h2
    refine ⟨.cons ?_ i1, .cons ?_ i2⟩
    · show RelV (kV k) e.key
      have h1' : keyIs k e.key = true := h1
      rcases keyIs_shape h1' with ⟨i, t, rfl, e1⟩ | ⟨x, t, rfl, e1⟩
      · rw [e1]
        exact ⟨t, rfl⟩
      · rw [e1]
        exact ⟨t, rfl⟩
    · show RelV v e.val
      rw [h2']
      exact r2
mutual
theorem Sh.reads (I : Inv X pins σ H s) (hK : SysK X.K) : ∀ {d : PyData} {v : V} {u : Value}, Sh H v d → RelV v u → ∃ as, Reads s.heap u d as ∧ sysModules ∉ as
  | _, _, _, .non, r => by
    cases r
    exact ⟨[], .none, fun z => nomatch z⟩
  | _, _, _, .bl b, r => by
    cases r
    exact ⟨[], .bool b, fun z => nomatch z⟩
  | _, _, _, .int i, r => by
    obtain ⟨t, rfl⟩ := r
    exact ⟨[], .int i t, fun z => nomatch z⟩
  | _, _, _, .str x, r => by
    obtain ⟨t, rfl⟩ := r
    exact ⟨[], .str x t, fun z => nomatch z⟩
  | _, _, _, @Sh.lst _ a xs ds h ha, r => by
    cases r
    obtain ⟨_, its, n, rv, ho⟩ := (show ObjOk X.prog X.w H s.heap a (.lst xs) from I.hok a _ h)
    obtain ⟨as, h1, h2⟩ := ShA.reads I hK ha rv
    refine ⟨_, .list ho rfl rfl (by simpa using h1), fun z => ?_⟩
    rcases List.mem_cons.mp z with e | z
    · obtain ⟨oc, od, es, m, sl, q⟩ := hK
      have q' := I.kIn _ _ q
      rw [e, ho] at q'
      cases q'
    · exact h2 z
  | _, _, _, @Sh.tup _ a xs ds h ha, r => by
    cases r
    obtain ⟨_, its, rv, o, ho, hc, n, hd⟩ := (show ObjOk X.prog X.w H s.heap a (.tup xs) from I.hok a _ h)
    obtain ⟨as, h1, h2⟩ := ShA.reads I hK ha rv
    exact ⟨_, .tuple ho hc hd (by simpa using h1), h2⟩
  | _, _, _, @Sh.dic _ a kvs ds h h1 h2, r => by
    cases r
    obtain ⟨_, hn, vs, rk, o, es, ep, ho, hx, hd, _, hp, _⟩ := (show ObjOk X.prog X.w H s.heap a (.dK kvs) from I.hok a _ h)
    obtain ⟨v1, v2⟩ := key_vals rk hp
    obtain ⟨as, a1, a2⟩ := ShA.reads I hK h1 v1
    obtain ⟨bs, b1, b2⟩ := ShA.reads I hK h2 v2
    refine ⟨_, .dict ho hx.1 hd a1 b1, fun z => ?_⟩
    rcases List.mem_append.mp z with z | z
    · rcases List.mem_cons.mp z with e | z
      · rw [← e] at hn
        simp at hn
      · exact a2 z
    · exact b2 z
theorem ShA.reads (I : Inv X pins σ H s) (hK : SysK X.K) : ∀ {ds : List PyData} {vs : List V} {us : List Value}, ShA H vs ds → Vals vs us → ∃ as, ReadsAll s.heap us ds as ∧ sysModules ∉ as
  | _, _, _, .nil, r => by
    cases r
    exact ⟨[], .nil, fun z => nomatch z⟩
  | _, _, _, .cons h t, r => by
    cases r with
    | cons r1 r2 =>
      obtain ⟨as, h1, h2⟩ := Sh.reads I hK h r1
      obtain ⟨bs, h3, h4⟩ := ShA.reads I hK t r2
      exact ⟨_, .cons h1 h3, fun z => (List.mem_append.mp z).elim h2 h4⟩
end
/-- repr(x), nothing being shown at the time -/
def rRepr : List V → Hp → VK → Prop := fun xs H Q => ∃ (x : V) (d : PyData), xs = [x] ∧ Sh H x d ∧ d.showable = true ∧ d.depth ≤ 64 ∧ d.shown.length ≤ sizeLine ∧ Q (.str d.shown) H
theorem call_repr (hK : SysK X.K) (hg : X.A.guards = some []) {k : Nat} (hr : Room k X.A) : CallR X (.builtin "repr") rRepr := by
  intro pins s σ H xs us Q I r h
  obtain ⟨x, d, rfl, hs, h1, h2, h3, q⟩ := h
  obtain ⟨u, rfl, rx⟩ := vals1 r
  have hu : X.A.units + (d.depth + 1) < cLine := by have := hr.un; omega
  have key : ∀ a, u = .ref a → wpAny (model X.prog X.w) X.A (call (.builtin "repr") [u]) (EP X pins σ Q) X.xe s := fun a e => by
    subst e
    obtain ⟨as, hr1, hr2⟩ := hs.reads I hK rx
    exact repr_of_reads' hr1 h1 (fun _ => hr2) hg hu (fun _ _ e => e) (fun h' u tk hk => ⟨.str _, H, I.kept (t' := tk) hk, ⟨u, rfl⟩, q⟩) h3
  cases hs with
  | non =>
    cases (show u = Value.none from rx)
    rw [PyData.shown_none] at q
    exact PySem.P.repr_of_none ⟨.str _, H, I.tok _, ⟨_, rfl⟩, q⟩
  | bl b =>
    cases (show u = Value.bool b from rx)
    rw [PyData.shown_bool] at q
    exact PySem.P.repr_of_bool ⟨.str _, H, I.tok _, ⟨_, rfl⟩, q⟩
  | int i =>
    obtain ⟨t, rfl⟩ := (show ∃ t, u = Value.int i t from rx)
    rw [PyData.shown_int] at q
    exact PySem.P.repr_of_int (by simpa [PyData.showable] using h1) ⟨.str _, H, I.tok _, ⟨_, rfl⟩, q⟩
  | str y =>
    obtain ⟨t, rfl⟩ := (show ∃ t, u = Value.str y t from rx)
    rw [PyData.shown_str] at q h3
    exact PySem.P.repr_of_str ⟨.str _, H, I.tok _, ⟨_, rfl⟩, q⟩ h3
  | lst h a => exact key _ rx
  | tup h a => exact key _ rx
  | dic h a b => exact key _ rx
end
end L2
set_option Elab.async false
set_option linter.all false
set_option maxRecDepth 100000
set_option maxHeartbeats 4000000
/-! Promises of defs that are kept where nothing is being shown (A.guards = some []): a def that asks repr, and its callers up to the law. -/
namespace L2
open PySem PySem.Spec PyProof.Rows
structure FnOkG (P : Program) (w : World) (K : PySem.W.Frag) (mg : Str → Option Value) (base : Heap) (k : Nat) (f : Addr) (fd : FuncData) (ps : List Str) (sp : Sp) : Prop where
  len : ∀ vs H Q E, sp vs H Q E → vs.length = ps.length
  run : ∀ (A : Around) (outer : List Env) (s : Shared) (H : Hp) (args : Args) (us : List Value) (vs : List V) (Q : VK) (E : XK), Room k A → A.guards = some [] → Env0 P w K mg base A outer s H →
    BindsTo s fd args (ps.zip us) → Vals vs us → sp vs H Q E → codeAny (model P w) A (.call (.ref f) args) (CR CX0 outer P w H s Q E) s
section
variable {P : Program} {w : World} {K : PySem.W.Frag} {mg : Str → Option Value} {base : Heap} {x qual : Str} {params : Arguments} {body : List Stmt} {scope : Scope} {f : Addr} {fd : FuncData}
theorem FunD.okG {dvs : List V} {kws : List (Str × V)} {N ps : List Str} {k : Nat} {sp : Sp} (F : FunD K x qual params body scope dvs kws f fd) (S : FnScope N ps scope) (len : ∀ vs H Q E, sp vs H Q E → vs.length = ps.length)
    (hbody : ∀ (cdv : Value) (A : Around) (outer : List Env) (s : Shared) (H : Hp) (vs : List V) (Q : VK) (E : XK), Room k (A.deeper (envOfC qual scope s.heap.objs.size f cdv)) → A.guards = some [] → sp vs H Q E →
      ∃ t, PSs (cxOf CX0 P w K mg base N qual scope f cdv A outer s H E) body t ∧ t { nx := fun _ H' => Q .non H', rt := Q } (start N vs) H) :
    FnOkG P w K mg base (k + 1) f fd ps sp := by
  obtain ⟨oc, od, dV, kV, doc, pm, an, cdv, ct, osl, rfl, lk, hcd, _, _⟩ := F.ex
  refine ⟨len, fun A outer s H args us vs Q E hr hg e0 hb r hsp => ?_⟩
  have hl := len _ _ _ _ hsp
  have keep : ∀ b o, base.get? b = some o → s.heap.get? b = some o := fun b o e => (e0.bs b o e).1
  have KX : K.In s.heap := e0.mod.kin.keeps keep
  have kinds : ∀ y ∈ ps.zip us, scope.names.lookup y.1 = some .local ∨ (scope.names.lookup y.1 = some .cell ∧ ((cellsFrom (s.heap.objs.size + 1) scope.names []).lookup y.1).isSome = true) := by
    rintro ⟨n, v⟩ hy
    rcases S.par n (List.of_mem_zip hy).1 with q | q
    · exact .inl q
    · exact .inr ⟨q, PySem.W.cellsFrom_some _ _ _ (.inl q)⟩
  refine codeAny_call_function hr.depth (KX _ _ lk) rfl S.co S.gen rfl (PySem.W.codeRec_of KX hcd) (hb _ _ _ _ ?_)
  refine wpAny_newFunctionEnv_cells S.kind kinds fun env he s1 x => ?_
  subst he
  refine ⟨(e0.mod.nolimit.keeps keep).keeps x.toInCall.keep, codeAny_func ?_⟩
  obtain ⟨t, ht, hq⟩ := hbody cdv A outer s H vs Q E (hr.deeper _) hg hsp
  have I := inv_start (CX := CX0) (E := E) S hr.hd e0 hl r x
  refine wpAny_mono (ht.run [] s1 (start N vs) H _ I hq) (fun fl s' hs => ?_) fun e s' hs => hs
  have fin : ∀ {σ' : St} {H' : Hp} {v : V} {u : Value}, Inv (cxOf CX0 P w K mg base N qual scope f cdv A outer s H E) [] σ' H' s' → RelV v u → Q v H' → CE outer P w H s Q u s' :=
    fun {_ H' v _} J rv q => ⟨v, H', J.os, J.bare, J.base, J.hok, rv, q⟩
  cases fl with
  | ret u =>
    obtain ⟨v, _, _, J, rv, q⟩ := hs
    exact fin J rv q
  | next =>
    obtain ⟨_, _, J, q⟩ := hs
    exact fin (v := V.non) (u := Value.none) J rfl q
  | brk => exact hs.elim fun _ z => z.elim fun _ z => z.2.elim
  | cont => exact hs.elim fun _ z => z.elim fun _ z => z.2.elim
end
section
variable {X : Cx} {k : Nat} {f : Addr} {fd : FuncData} {ps : List Str} {sp : Sp} {x : Str} {p pos : Pos} {e : Expr} {es : List Expr} {ta : TA}
/-- a call of such a def -/
theorem pe_callG (F : FnOkG X.prog X.w X.K X.mg X.base k f fd ps sp) (hr : Room k X.A) (hG : X.A.guards = some []) (hg : Gl X x) (hm : X.mg x = some (.ref f)) (hk : PySem.W.keepIn X.K (.ref f) = true) (hb : Binds X.K fd ps [])
    (ha : PA X (e :: es) ta) (hdb : (x == ("__debug__" : Str)) = false := by decide) (he : starEach (e :: es) X.env = (false, eval e X.env) :: starEach es X.env := by rfl) (hpl : (backTo pos (starEach es X.env)).any (·.1) = false := by rfl) :
    PE X (.Call (.Name x p) (e :: es) [] pos) (tCall sp [] (fun _ _ _ => False) ta) := by
  refine ⟨fun pins s σ H Q I h => ?_⟩
  refine wpAny_Call_Name_kw (ld_glob I hg hm ?_ hdb)
  refine PySem.W.callWith_K (h₀ := X.base) I.ok.mod.kin hk (thn (ha.run pos pins s σ H _ I h) fun us s1 ⟨vs, H1, I1, r1, q1⟩ => ⟨I1.kIn, ?_⟩) he hpl
  show wpAny _ _ (call (.ref f) us) _ _ _
  have hl : us.length = ps.length := by
    have z := F.len _ _ _ _ q1
    rw [List.append_nil] at z
    rw [← r1.length]
    exact z
  have hq : sp vs H1 Q (fun _ _ _ => False) := by
    have z : sp (vs ++ []) H1 Q (fun _ _ _ => False) := q1
    rw [List.append_nil] at z
    exact z
  have hbb : BindsTo s1 fd ⟨us, []⟩ (ps.zip us) := by
    have z := hb s1 us I1.kIn (by rw [List.append_nil]; exact hl)
    rw [List.append_nil] at z
    exact z
  refine wpAny_call (codeAny_mono (F.run X.A X.stack s1 H1 ⟨us, []⟩ us vs Q (fun _ _ _ => False) hr hG I1.env0 hbb r1 hq) fun r s' hq' => ?_)
  cases r with
  | error er => exact hq'.elim
  | ok fl =>
    cases fl with
    | ret u =>
      obtain ⟨v, H', I3, rv, q3⟩ := I1.after hq'
      exact ⟨v, H', I3, rv, q3⟩
    | next => exact False.elim hq'
    | brk => exact False.elim hq'
    | cont => exact False.elim hq'
end
/-! ### the end: the law's own call, where nothing is being shown -/
/-- the tracked heap at the law's entry (the script alone, if it is no object of the module), and the base under it -/
theorem law_base {P : Program} {w : World} {K : PySem.W.Frag} {mg mb : Str → Option Value} {a : Addr} {s₁ : Shared} {vs : List Value} {ns : List Int}
    (KX : K.In s₁.heap) (hns : s₁.heap.Ns mainGlobals mg) (hb : s₁.heap.Ns builtinsNs mb) (hbb : ∀ x : Str, x ≠ "__name__" → mb x = bootBuiltins x) (hlim : s₁.heap.NoLimit) (hg : s₁.gens = #[])
    (ha : s₁.heap.get? a = some { cls := .type "list", data := .seq vs.toArray }) (hi : IntsAre vs ns) (hl : ns.length ≤ sizeLine) :
    ∃ (H : Hp) (base : Heap), Only H ∧ SqL K H a (ns.map V.int) ∧ K.In base ∧ base.Ns mainGlobals mg ∧ Env0 P w K mg base callerA [] s₁ H ∧
      ∀ (H' : Hp) (h' : Heap), Un [] [] H H' s₁.heap h' → HOk P w H' h' → ∀ b o, s₁.heap.get? b = some o → h'.get? b = some o := by
  have rv := vals_ints hi
  have lenV := hi.length
  obtain ⟨H, hO, hS, hok, hA, hK⟩ : ∃ H : Hp, Only H ∧ SqL K H a (ns.map V.int) ∧ HOk P w H s₁.heap ∧ (∀ b, H b ≠ none → b = a) ∧ (H a ≠ none → K.lookup a = none) := by
    cases hk : K.lookup a with
    | some o =>
      have e := KX a o hk
      rw [ha] at e
      cases e
      refine ⟨fun _ => none, fun _ => .inl rfl, .inr ⟨_, vs.toArray, _, hk, rfl, rfl, rfl, ?_, by simpa using rv⟩, fun b u z => ?_, fun b z => absurd rfl z, fun z => absurd rfl z⟩
      · rw [List.size_toArray, lenV]
        exact hl
      · exact nomatch (show (none : Option HO) = some u from z)
    | none =>
      let ob : Obj := { cls := .type "list", data := .seq vs.toArray }
      refine ⟨upd (fun _ => none) a (.frz ob (.lst (ns.map V.int))), fun b => ?_, .inl (.inr ⟨ob, upd_same⟩), fun b u z => ?_, fun b z => ?_, fun _ => rfl⟩
      · by_cases e : b = a
        · exact .inr ⟨ob, _, by rw [e]; exact upd_same⟩
        · exact .inl (by rw [upd_ne e])
      · by_cases e : b = a
        · subst e
          rw [upd_same] at z
          cases z
          exact ⟨ha, by rw [List.length_map]; exact hl, vs, _, rv, ha⟩
        · rw [upd_ne e] at z
          cases z
      · by_cases e : b = a
        · exact e
        · exact absurd (by rw [upd_ne e]) z
  have keepN : ∀ {b : Addr} {o : Obj}, s₁.heap.get? b = some o → b ≠ a → (hidT s₁.heap H).get? b = some o := fun {b o} e n => hidT_get e (by
    cases q : H b with
    | none => rfl
    | some u => exact absurd (hA b (by rw [q]; exact fun z => nomatch z)) n)
  have nsN : ∀ {b : Addr} {m : Str → Option Value}, s₁.heap.Ns b m → (hidT s₁.heap H).Ns b m := fun {b m} ⟨o, es, ep, e, d, r⟩ => ⟨o, es, ep, keepN e (fun z => by
    rw [z, ha] at e
    cases e
    cases d), d, r⟩
  have kB : K.In (hidT s₁.heap H) := fun b o e => by
    by_cases n : b = a
    · refine hidT_get (KX b o e) ?_
      cases q : H b with
      | none => rfl
      | some u =>
        rw [n] at q e
        rw [hK (by rw [q]; exact fun z => nomatch z)] at e
        cases e
    · exact keepN (KX b o e) n
  have M : Mod K mg (hidT s₁.heap H) := ⟨kB, nsN hns, ⟨mb, nsN hb, hbb⟩, hlim.elim fun mc z => ⟨mc, nsN z.1, z.2⟩⟩
  refine ⟨H, hidT s₁.heap H, hO, hS, kB, nsN hns, ⟨rfl, M, fun b o e => of_hidT e, Nat.le_of_eq (hidT_size _ _), trivial, fun b z => (nomatch (show b ∈ ([] : List Addr) from z)), hok, .of_eq hg⟩, fun H' h' un hok' b o e => ?_⟩
  rcases hO b with q | ⟨ob, xs, q⟩
  · exact un.keep b o e q (fun z => nomatch z) (fun z => nomatch z)
  · obtain ⟨e1, _⟩ := hok b _ q
    obtain ⟨e2, _⟩ := hok' b _ (un.frzs b ob _ q)
    rw [e] at e1
    cases e1
    exact e2
/-- a law whose def wants that nothing is being shown -/
theorem walk_ofG {l : PySem.W.OpenLaw} {n k : Nat} {q : Program} {loose : List Str} {XP : (Str → Option Value) → Heap → Prop} {YP : World → Heap → Prop} {d : DefRec} {x : Str}
    (hn : l.most = some n) (hn2 : n ≤ sizeLine) (hdf : d.params.defaults = []) (hr : Room k callerA)
    (F : ∀ (w : World) (mg : Str → Option Value) (fa : Addr) (h : Heap), YP w h → h.Ns mainGlobals mg → mg d.name = some (.ref fa) →
      ∃ (K : PySem.W.Frag) (fd : FuncData) (sp : Sp), K.In h ∧ (∀ (s : Shared) (u : Value), BindsTo s fd ⟨[u], []⟩ [(x, u)]) ∧
        (∀ (H : Hp) (a : Addr) (ns : List Int), ns.length ≤ n → Only H → SqL K H a (ns.map V.int) → sp [.ref a] H (fun v _ => v = .bl true) fun _ _ _ => False) ∧
        ∀ base : Heap, K.In base → base.Ns mainGlobals mg → FnOkG l.prog w K mg base k fa fd [x] sp) :
    PySem.W.WalkO q loose XP YP l.row.toRowW d [] (fun f vs => PySem.call f vs) := by
  refine Att.attach_call hn hdf fun w s₀ s₁ mg mb fa o pm cd doc a vs ns G Y ho hd hcd hmg hobj hints hlen hg => ?_
  obtain ⟨K, fd, sp, KX, hb, hsp, hF⟩ := F w mg fa _ Y G.T.g hmg
  obtain ⟨H, base, hO, hS, kB, nB, e0, back⟩ := law_base (P := l.prog) (w := w) KX G.T.g G.T.b G.T.builtins G.T.nolimit hg hobj hints (Nat.le_trans hlen hn2)
  refine codeAny_mono ((hF base kB nB).run callerA [] s₁ H ⟨[.ref a], []⟩ [.ref a] [.ref a] _ _ hr rfl e0 (hb s₁ (.ref a)) (.cons rfl .nil) (hsp H a ns hlen hO hS)) fun r s' h => ?_
  cases r with
  | error e => exact h.elim
  | ok fl =>
    cases fl with
    | ret u =>
      obtain ⟨v, H', os, bare, un, hok', r', rfl⟩ := h
      cases (show u = Value.bool true from r')
      exact ⟨rfl, OldK.of_keep fun b o e => back H' _ un hok' b o e, os, bare⟩
    | next => exact False.elim h
    | brk => exact False.elim h
    | cont => exact False.elim h
end L2
set_option Elab.async false
set_option linter.all false
set_option maxRecDepth 100000
set_option maxHeartbeats 4000000
/-! The draws of the law: purse, mixed, draw. -/
namespace K01
open PySem PySem.Spec PyProof.Rows L2
abbrev FnP (K : PySem.W.Frag) (x : Str) (st : Stmt) (f : Addr) (fd : FuncData) : Prop := FunD K x x (defArgs st) (defBody st) (defScope st) [] [] f fd
abbrev sPurse : Stmt := top 44
abbrev sMixed : Stmt := top 45
abbrev sDraw : Stmt := top 46
/-- built-in names that the module leaves free -/
structure Free (mg : Str → Option Value) : Prop where
  sum : mg "sum" = none
  int : mg "int" = none
  max : mg "max" = none
  min : mg "min" = none
  len : mg "len" = none
  range : mg "range" = none
  isi : mg "isinstance" = none
  repr : mg "repr" = none
  ve : mg "ValueError" = none
  tlist : mg "list" = none
  tdict : mg "dict" = none
  ttuple : mg "tuple" = none
theorem op_powL {X : Cx} : OpR X (binaryOp .Pow) (rI (fun i n => 0 ≤ n ∧ (Builtin.Int.intBits i : Int) * n ≤ 2 ^ 27) fun i j => .int (i ^ j.toNat)) :=
  opI fun _ _ _ _ _ _ _ hc q => pow_int hc.1 hc.2 q
/-- a purse: what is left of a great number, the seed, how often it was mixed, the place -/
structure Purse (H : Hp) (p : Addr) (N : Nat) : Prop where
  at_ : ∃ A B c i : Int, H p = some (.lst [.int A, .int B, .int c, .int i]) ∧ (0 ≤ B ∧ B < 2147483648) ∧ 0 ≤ A ∧ 0 ≤ c ∧ c ≤ (N : Int)
theorem Purse.mono {H : Hp} {p : Addr} {N M : Nat} (h : Purse H p N) (l : N ≤ M) : Purse H p M := by
  obtain ⟨A, B, c, i, e, hB, h1, h2, h3⟩ := h
  exact ⟨A, B, c, i, e, hB, h1, h2, by omega⟩
theorem Purse.same {H H' : Hp} {p : Addr} {N : Nat} (k : Same H H') (h : Purse H p N) : Purse H' p N := by
  obtain ⟨A, B, c, i, e, r⟩ := h
  exact ⟨A, B, c, i, k _ _ e, r⟩
/-- all but p stands as it did -/
def But (p : Addr) (H H' : Hp) : Prop := ∀ b o, b ≠ p → H b = some o → H' b = some o
theorem But.refl (p : Addr) (H : Hp) : But p H H := fun _ _ _ e => e
theorem But.trans {p : Addr} {H H1 H2 : Hp} (a : But p H H1) (b : But p H1 H2) : But p H H2 := fun x o n e => b x o n (a x o n e)
theorem But.of {p : Addr} {H H' : Hp} (k : Same H H') : But p H H' := fun b o _ e => k b o e
theorem But.upd {p : Addr} {H : Hp} {o : HO} : But p H (L2.upd H p o) := fun b o' n e => by
  rw [upd_ne n]
  exact e
theorem Same.upd {H : Hp} {p : Addr} {o : HO} (h : H p = none) : Same H (L2.upd H p o) := fun b o' e => by
  rw [upd_ne (ne_of_none e h)]
  exact e
theorem cut_map (ns : List Int) (lo hi : Option Int) : cutV (ns.map V.int) lo hi = ((ns.drop (HT.sIx (ns.map V.int).length 0 lo)).take (HT.sIx (ns.map V.int).length (ns.map V.int).length hi - HT.sIx (ns.map V.int).length 0 lo)).map V.int := by
  unfold cutV
  rw [List.map_take, List.map_drop]
def spPurse (K : PySem.W.Frag) : Sp := fun vs H Q _ => ∃ (a : Addr) (ns : List Int) (i : Int), vs = [.ref a, .int i] ∧ SqL K H a (ns.map V.int) ∧
  ∀ p H', Same H H' → H p = none → Purse H' p 0 → Q (.ref p) H'
/-- any rest there is -/
def spMixed : Sp := fun vs H Q _ => ∃ B c i : Int, vs = [.int B, .int c, .int i] ∧ (0 ≤ c ∧ c ≤ 2 ^ 60) ∧ ∀ r : Int, 0 ≤ r → r < 2147483587 → Q (.int r) H
/-- how often a draw of one of m mixes -/
def mixes (m : Int) : Nat := (1 + (Builtin.Int.intBits m : Int) / 28).toNat
def spDraw : Sp := fun vs H Q _ => ∃ (p : Addr) (m : Int) (N : Nat), vs = [.ref p, .int m] ∧ 1 ≤ m ∧ m.natAbs.log2 < 9000 ∧ Purse H p N ∧ N + mixes m ≤ 2 ^ 50 ∧ mixes m ≤ 2 ^ 50 ∧
  ∀ (r : Int) (H' : Hp), 0 ≤ r → r < m → But p H H' → Purse H' p (N + mixes m) → Q (.int r) H'
section
variable {P : Program} {w : World} {K : PySem.W.Frag} {mg : Str → Option Value} {base : Heap} {f fM : Addr} {fd fdM : FuncData}
theorem scPurse : FnScope ["_law_script", "_law_at", "_law_seed"] ["_law_script", "_law_at"] (defScope sPurse) := ⟨rfl, rfl, rfl, by decide +kernel, rfl, by decide +kernel, by decide +kernel⟩
theorem ok_purse (F : FnP K "_law_purse" sPurse f fd) (Z : Free mg) : FnOk P w K mg base CX0 1 f fd ["_law_script", "_law_at"] (spPurse K) := by
  refine F.ok scPurse (fun vs H Q E h => ?_) (fun cdv A outer s H vs Q E hr h => ?_)
  · obtain ⟨a, ns, i, rfl, _⟩ := h
    rfl
  · obtain ⟨a, ns, i, rfl, hS, k⟩ := h
    have nd := scPurse.nd
    refine ⟨_, PSs.nox (pss_cons (ps_set (i := 2) nd rfl (Or.inl rfl) (pe_callB (cr_sum rfl) (by rfl) Z.sum (by decide +kernel) (pa_cons (pe_slice sl_list (pv 0) (po_some (pv 1)) (po_some (pe_op op_add (pv 1) pe_int))) pa_nil)))
      (pss_one (ps_ret (pe_lst (pa_cons (pe_op op_mod (pe_callTy call_int1 (by rfl) Z.int (by decide +kernel) (pa_cons (pe_callB (call_max2 rfl) (by rfl) Z.max (by decide +kernel)
          (pa_cons (pe_op op_sub (pv 2) (pe_op op_pow pe_int pe_int)) (pa_cons pe_int pa_nil))) pa_nil)) (pe_op op_powL (pe_op op_pow pe_int pe_int) pe_int))
        (pa_cons (pe_op op_mod (pe_callTy call_int1 (by rfl) Z.int (by decide +kernel) (pa_cons (pv 2) pa_nil)) pe_int) (pa_cons pe_int (pa_cons (pv 1) pa_nil)))))))), ?_⟩
    refine ⟨_, rfl, _, rfl, i, rfl, ?_⟩
    refine ⟨_, rfl, _, _, rfl, rfl, ?_⟩
    refine ⟨i + 1, rfl, a, _, rfl, hS, fun q hq => ?_⟩
    rw [cut_map]
    refine ⟨q, _, rfl, SqL.of upd_same, ?_⟩
    -- the list
    refine ⟨_, rfl, _, _, rfl, rfl, ⟨by decide, by decide, by decide⟩, _, _, rfl, rfl, ?_⟩
    refine ⟨_, _, rfl, Or.inl ⟨_, rfl, ?_⟩⟩
    refine ⟨_, _, rfl, rfl, ⟨by decide, by decide, by decide⟩, ?_⟩
    refine ⟨_, _, rfl, rfl, ⟨by decide, by decide +kernel⟩, ?_⟩
    refine ⟨_, _, rfl, rfl, (by show (0 : Int) < _; decide +kernel), ?_⟩
    refine ⟨_, rfl, Or.inl ⟨_, rfl, ?_⟩⟩
    refine ⟨_, _, rfl, rfl, (by show (0 : Int) < _; decide), ?_⟩
    refine ⟨_, rfl, (by show 4 ≤ sizeLine; decide), fun p hp => ?_⟩
    refine k p _ (Same.trans (Same.upd hq) (Same.upd hp)) ?_ ⟨_, _, 0, i, upd_same, ⟨Int.emod_nonneg _ (by decide), Int.lt_trans (Int.emod_lt_of_pos _ (by decide)) (by decide)⟩, Int.emod_nonneg _ (by decide +kernel), Int.le_refl _, Int.le_refl _⟩
    rw [upd_ne (fun e => by rw [e, upd_same] at hp; cases hp)] at hp
    exact hp
theorem scMixed : FnScope ["_law_seed", "_law_spin", "_law_at", "_law_mixed_here"] ["_law_seed", "_law_spin", "_law_at"] (defScope sMixed) := ⟨rfl, rfl, rfl, by decide +kernel, rfl, by decide +kernel, by decide +kernel⟩
theorem ok_mixed (F : FnP K "_law_mixed" sMixed f fd) (Z : Free mg) : FnOk P w K mg base CX0 1 f fd ["_law_seed", "_law_spin", "_law_at"] spMixed := by
  refine F.ok scMixed (fun vs H Q E h => ?_) (fun cdv A outer s H vs Q E hr h => ?_)
  · obtain ⟨B, c, i, rfl, _⟩ := h
    rfl
  · obtain ⟨B, c, i, rfl, ⟨hc0, hc1⟩, k⟩ := h
    have nd := scMixed.nd
    refine ⟨_, PSs.nox (pss_cons (ps_set (i := 3) nd rfl (Or.inl rfl) (pe_op op_add (pe_op op_mul (pv 0) pe_int) (pe_op op_mul (pe_op op_mul pe_int (pv 1)) (pv 1))))
      (pss_cons (ps_set (i := 3) nd rfl (Or.inl rfl) (pe_op op_mod (pe_callTy call_int1 (by rfl) Z.int (by decide +kernel) (pa_cons (pe_op op_add (pe_op op_add (pv 3) (pe_op op_mul pe_int (pv 2))) (pv 1)) pa_nil)) pe_int))
      (pss_cons (ps_set (i := 3) nd rfl (Or.inl rfl) (pe_op op_mod (pe_callTy call_int1 (by rfl) Z.int (by decide +kernel) (pa_cons (pe_op op_add (pe_op op_mul (pv 3) (pv 3)) pe_int) pa_nil)) pe_int))
      (pss_one (ps_ret (pe_op op_mod (pe_callTy call_int1 (by rfl) Z.int (by decide +kernel) (pa_cons (pe_op op_mul (pv 3) pe_int) pa_nil)) pe_int)))))), ?_⟩
    have c64 : -(2 ^ 64) < c ∧ c < 2 ^ 64 := ⟨by omega, by omega⟩
    refine ⟨_, rfl, _, _, rfl, rfl, Or.inr ⟨by decide, by decide⟩, ?_⟩
    refine ⟨_, rfl, _, _, rfl, rfl, Or.inl ⟨by decide, by decide⟩, ?_⟩
    refine ⟨_, rfl, _, _, rfl, rfl, Or.inr c64, ?_⟩
    refine ⟨_, _, rfl, rfl, ?_⟩
    refine ⟨_, rfl, _, rfl, _, _, rfl, rfl, Or.inl ⟨by decide, by decide⟩, ?_⟩
    refine ⟨_, _, rfl, rfl, _, rfl, _, _, rfl, rfl, ?_⟩
    refine Or.inl ⟨_, rfl, ?_⟩
    refine ⟨_, _, rfl, rfl, (by show (0 : Int) < _; decide), ?_⟩
    generalize hm : (B * 69069 + 104729 * c * c + 7919 * i + c) % 2147483647 = m
    have h1 : 0 ≤ m := by rw [← hm]; exact Int.emod_nonneg _ (by decide)
    have h2 : m < 2147483647 := by rw [← hm]; exact Int.emod_lt_of_pos _ (by decide)
    refine ⟨_, rfl, _, rfl, _, _, rfl, rfl, Or.inl ⟨by omega, by omega⟩, ?_⟩
    refine ⟨_, _, rfl, rfl, Or.inl ⟨_, rfl, ?_⟩⟩
    refine ⟨_, _, rfl, rfl, (by show (0 : Int) < _; decide), ?_⟩
    refine ⟨_, rfl, _, _, rfl, rfl, Or.inr ⟨by decide, by decide⟩, Or.inl ⟨_, rfl, ?_⟩⟩
    refine ⟨_, _, rfl, rfl, (by show (0 : Int) < _; decide), ?_⟩
    exact k _ (Int.emod_nonneg _ (by decide)) (Int.emod_lt_of_pos _ (by decide))
theorem scDraw : FnScope ["_law_purse_here", "_law_many", "_law_drawn", "_law_found", "_law_piece"] ["_law_purse_here", "_law_many"] (defScope sDraw) := ⟨rfl, rfl, rfl, by decide +kernel, rfl, by decide +kernel, by decide +kernel⟩
theorem ok_draw (F : FnP K "_law_draw" sDraw f fd) (Z : Free mg) (FM : FnP K "_law_mixed" sMixed fM fdM) (gM : mg "_law_mixed" = some (.ref fM)) : FnOk P w K mg base CX0 2 f fd ["_law_purse_here", "_law_many"] spDraw := by
  have GM : FnOk P w K mg base CX0 1 fM fdM ["_law_seed", "_law_spin", "_law_at"] spMixed := ok_mixed FM Z
  have bM : Binds K fdM ["_law_seed", "_law_spin", "_law_at"] [] := FM.bindsN fun _ _ _ _ _ _ us hl => match us, hl with | [_, _, _], _ => rfl
  refine F.ok scDraw (fun vs H Q E h => ?_) (fun cdv A outer s H vs Q E hr h => ?_)
  · obtain ⟨p, m, N, rfl, _⟩ := h
    rfl
  · obtain ⟨p, m, N, rfl, hm1, hm2, hP, hN, hN2, k⟩ := h
    obtain ⟨A0, B, c, i, hp, hB, hA, hc, hcN⟩ := id hP
    have nd := scDraw.nd
    refine ⟨_, PSs.nox (pss_cons (ps_if (pt_cmpR op_gt (pe_ix ix_list (pv 0) pe_int (fun _ _ => rfl)) pe_int (nomark _))
        (pss_cons (ps_set (i := 2) nd rfl (Or.inl rfl) (pe_op op_mod (pe_callTy call_int1 (by rfl) Z.int (by decide +kernel) (pa_cons (pe_ix ix_list (pv 0) pe_int (fun _ _ => rfl)) pa_nil)) (pv 1)))
        (pss_cons (ps_asg (pe_op op_fdivW (pe_ix ix_list (pv 0) pe_int (fun _ _ => rfl)) (pv 1)) (pg_sub (pv 0) pe_int set_list))
        (pss_one (ps_ret (pv 2))))) pss_nil)
      (pss_cons (ps_set (i := 3) nd rfl (Or.inl rfl) pe_int)
      (pss_cons (ps_for PassesOwn.never rfl (pi_range1 rfl Z.range (pa_cons (pe_op op_add pe_int (pe_op op_fdiv (pe_bits (pv 1)) pe_int)) pa_nil)) (pg_name (i := 4) nd rfl (Or.inl rfl))
        (pss_cons (ps_asg (pe_op op_add (pe_ix ix_list (pv 0) pe_int (fun _ _ => rfl)) pe_int) (pg_sub (pv 0) pe_int set_list))
        (pss_one (ps_set (i := 3) nd rfl (Or.inl rfl) (pe_op op_add (pe_op op_mul (pv 3) pe_int) (pe_call GM hr rfl gM FM.kp bM .nil pass0
          (pa_cons (pe_ix ix_list (pv 0) pe_int (fun _ _ => rfl)) (pa_cons (pe_ix ix_list (pv 0) pe_int (fun _ _ => rfl)) (pa_cons (pe_ix ix_list (pv 0) pe_int (fun _ _ => rfl)) pa_nil)))))))))
      (pss_one (ps_ret (pe_op op_mod (pe_callTy call_int1 (by rfl) Z.int (by decide +kernel) (pa_cons (pv 3) pa_nil)) (pv 1))))))), ?_⟩
    -- if purse[0] > 0
    refine ⟨_, rfl, p, _, 0, .int A0, rfl, rfl, SqL.of hp, rfl, ?_⟩
    refine ⟨_, _, rfl, rfl, _, rfl, ?_⟩
    refine ite2 (fun hpos => ?_) (fun hneg => ?_)
    · refine ⟨_, rfl, p, _, 0, .int A0, rfl, rfl, SqL.of hp, rfl, Or.inl ⟨_, rfl, ?_⟩⟩
      refine ⟨_, rfl, _, _, rfl, rfl, (by show (0 : Int) < m; omega), ?_⟩
      refine ⟨_, rfl, p, _, 0, .int A0, rfl, rfl, SqL.of hp, rfl, ?_⟩
      refine ⟨_, rfl, _, _, rfl, rfl, ⟨by omega, hm2⟩, ?_⟩
      refine ⟨_, rfl, p, _, 0, 0, rfl, rfl, hp, rfl, ?_⟩
      refine ⟨_, rfl, ?_⟩
      refine k _ _ (Int.emod_nonneg _ (by omega)) (Int.emod_lt_of_pos _ (by omega)) But.upd ⟨A0 / m, B, c, i, upd_same, hB, Int.ediv_nonneg hA (by omega), hc, by omega⟩
    · -- found = 0; for piece in range(..)
      have hb : (0 : Int) ≤ 1 + (Builtin.Int.intBits m : Int) / 28 := by omega
      have hM : ((mixes m : Nat) : Int) = 1 + (Builtin.Int.intBits m : Int) / 28 := by
        unfold mixes
        exact Int.toNat_of_nonneg hb
      refine ⟨_, rfl, _, rfl, _, _, rfl, rfl, ⟨by decide, by decide⟩, _, _, rfl, rfl, ?_⟩
      refine ⟨1 + (Builtin.Int.intBits m : Int) / 28, rfl, by omega, by omega, ?_⟩
      refine for_range (lo := 0) (n := (1 + (Builtin.Int.intBits m : Int) / 28).toNat) (fun j σ H2 => ∃ (g : Int) (v2 v4 : Option V), σ = [some (.ref p), some (.int m), v2, some (.int g), v4] ∧ But p H H2 ∧
          ∃ c' : Int, H2 p = some (.lst [.int A0, .int B, .int c', .int i]) ∧ 0 ≤ c' ∧ c' ≤ (N : Int) + (j : Int))
        ⟨0, none, none, rfl, But.refl _ _, c, hp, hc, by omega⟩ ?_ ?_
      · rintro j σ H2 hj ⟨g, v2, v4, rfl, kb, c', hp2, h0, h1⟩
        have hj2 : (j : Int) < 2 ^ 50 := by
          have : j < mixes m := hj
          omega
        refine ⟨_, rfl, p, _, 2, .int c', rfl, rfl, SqL.of hp2, rfl, ?_⟩
        refine ⟨_, _, rfl, rfl, ?_⟩
        refine ⟨_, rfl, p, _, 2, 2, rfl, rfl, hp2, rfl, ?_⟩
        have hp3 : (L2.upd H2 p (.lst (List.set [V.int A0, .int B, .int c', .int i] 2 (.int (c' + 1))))) p = some (.lst [.int A0, .int B, .int (c' + 1), .int i]) := upd_same
        refine ⟨_, rfl, _, _, rfl, rfl, Or.inr ⟨by decide, by decide⟩, ?_⟩
        refine ⟨_, rfl, p, _, 1, .int B, rfl, rfl, SqL.of hp3, rfl, ?_⟩
        refine ⟨_, rfl, p, _, 2, .int (c' + 1), rfl, rfl, SqL.of hp3, rfl, ?_⟩
        refine ⟨_, rfl, p, _, 3, .int i, rfl, rfl, SqL.of hp3, rfl, ?_⟩
        refine ⟨B, c' + 1, i, rfl, ⟨by omega, by omega⟩, fun r hr0 hr1 => ?_⟩
        refine ⟨_, _, rfl, rfl, ?_⟩
        exact ⟨_, v2, _, rfl, But.trans kb But.upd, c' + 1, hp3, by omega, by omega⟩
      · rintro σ H2 ⟨g, v2, v4, rfl, kb, c', hp2, h0, h1⟩
        refine ⟨_, rfl, Or.inl ⟨_, rfl, ?_⟩⟩
        refine ⟨_, rfl, _, _, rfl, rfl, (by show (0 : Int) < m; omega), ?_⟩
        refine k _ _ (Int.emod_nonneg _ (by omega)) (Int.emod_lt_of_pos _ (by omega)) kb ⟨A0, B, c', i, hp2, hB, hA, h0, ?_⟩
        have : ((N + mixes m : Nat) : Int) = (N : Int) + (mixes m : Int) := by omega
        rw [this]
        exact h1
end
end K01
set_option Elab.async false
set_option linter.all false
set_option maxRecDepth 100000
set_option maxHeartbeats 4000000
/-! purses, one_of, word. -/
namespace K01
open PySem PySem.Spec PyProof.Rows L2
open TL
abbrev sPurses : Stmt := top 47
abbrev sOne : Stmt := top 48
abbrev sWord : Stmt := top 49
theorem mixes_one {m : Int} (h0 : 1 ≤ m) (h : m < 2 ^ 27) : mixes m = 1 := by
  have e : Builtin.Int.intBits m ≤ 27 := PyProof.Rows.intBits_le (by omega)
  unfold mixes
  omega
theorem log_small {m : Int} (h0 : 1 ≤ m) (h : m < 2 ^ 27) : m.natAbs.log2 < 9000 := by
  have e : m.natAbs < 2 ^ 27 := by omega
  have := PySem.Flt.log2_lt_of (by decide) e
  omega
theorem But.seq {K : PySem.W.Frag} {p a : Addr} {H H' : Hp} {xs : List V} (k : But p H H') (n : a ≠ p) (h : SqL K H a xs) : SqL K H' a xs := by
  rcases h with (h | ⟨o, h⟩) | h
  · exact .inl (.inl (k _ _ n h))
  · exact .inl (.inr ⟨o, k _ _ n h⟩)
  · exact .inr h
/-- purses(script, 1): the list of one purse -/
def spPurses (K : PySem.W.Frag) : Sp := fun vs H Q _ => ∃ (a : Addr) (ns : List Int), vs = [.ref a, .int 1] ∧ SqL K H a (ns.map V.int) ∧
  ∀ q p H', Same H H' → H p = none → H q = none → p ≠ q → H' q = some (.lst [.ref p]) → Purse H' p 0 → Q (.ref q) H'
def spOne (K : PySem.W.Frag) : Sp := fun vs H Q _ => ∃ (p q : Addr) (xs : List V) (N : Nat), vs = [.ref p, .ref q] ∧ q ≠ p ∧ SqL K H q xs ∧ 1 ≤ xs.length ∧ xs.length ≤ 1000000 ∧ Purse H p N ∧ N ≤ 2 ^ 40 ∧
  ∀ x H', x ∈ xs → But p H H' → Purse H' p (N + 1) → Q x H'
structure IsWord (z : Str) : Prop where
  low : 1 ≤ z.length
  high : z.length ≤ 8
  signs : ∀ c ∈ tl z, 97 ≤ c ∧ c ≤ 122
def spWord : Sp := fun vs H Q _ => ∃ (p : Addr) (N : Nat), vs = [.ref p] ∧ Purse H p N ∧ N ≤ 2 ^ 40 ∧ ∀ z H', IsWord z → But p H H' → Purse H' p (N + 10) → Q (.str z) H'
/-- one sign of the row of letters -/
theorem letter {r : Int} (h0 : 0 ≤ r) (h1 : r < 26) : ∃ c, atI (tl ("abcdefghijklmnopqrstuvwxyz" : Str)) r = some c ∧ 97 ≤ c ∧ c ≤ 122 := by
  obtain ⟨j, rfl⟩ : ∃ j : Nat, r = j := ⟨r.toNat, by omega⟩
  have hj : j < 26 := by omega
  have e : (tl ("abcdefghijklmnopqrstuvwxyz" : Str)) = (List.range 26).map (· + 97) := by decide +kernel
  refine ⟨j + 97, atI_nat ?_, by omega, by omega⟩
  rw [e, List.getElem?_map, List.getElem?_range hj]
  rfl
theorem join_word {ys : List Str} (h1 : 1 ≤ ys.length) (h2 : ys.length ≤ 8) (h : ∀ y ∈ ys, ∃ c, y = ⟨#[c]⟩ ∧ 97 ≤ c ∧ c ≤ 122) : IsWord (Txt.join "" ys) := by
  have e : ∀ l : List Str, (∀ y ∈ l, ∃ c, y = ⟨#[c]⟩ ∧ 97 ≤ c ∧ c ≤ 122) → (joinL [] (l.map tl)).length = l.length ∧ ∀ c ∈ joinL [] (l.map tl), 97 ≤ c ∧ c ≤ 122 := by
    intro l
    induction l with
    | nil => intro _; exact ⟨rfl, fun c hc => nomatch hc⟩
    | cons y l ih =>
      intro hl
      obtain ⟨c, rfl, hc1, hc2⟩ := hl y List.mem_cons_self
      obtain ⟨i1, i2⟩ := ih fun z hz => hl z (List.mem_cons_of_mem _ hz)
      cases l with
      | nil => exact ⟨rfl, fun d hd => by
          have : d = c := by simpa [joinL] using hd
          omega⟩
      | cons y2 l =>
        have e2 : joinL [] (((⟨#[c]⟩ : Str) :: y2 :: l).map tl) = [c] ++ ([] ++ joinL [] ((y2 :: l).map tl)) := rfl
        rw [e2]
        refine ⟨?_, fun d hd => ?_⟩
        · rw [List.nil_append, List.length_append, i1]
          simp
          omega
        · rcases List.mem_append.mp hd with z | z
          · have : d = c := by simpa using z
            omega
          · exact i2 d (by simpa using z)
  obtain ⟨e1, e2⟩ := e ys h
  have et : tl (Txt.join "" ys) = joinL [] (ys.map tl) := by
    rw [join_eq, tl_join]
    rfl
  have el : (Txt.join "" ys).length = ys.length := by
    show (Txt.join "" ys).cps.size = _
    rw [← Array.length_toList, show (Txt.join "" ys).cps.toList = joinL [] (ys.map tl) from et, e1]
  exact ⟨by omega, by omega, fun c hc => e2 c (by rw [← et]; exact hc)⟩
theorem ones_sum : ∀ ys : List Str, (∀ y ∈ ys, ∃ c, y = ⟨#[c]⟩ ∧ 97 ≤ c ∧ c ≤ 122) → (ys.map (·.length)).sum = ys.length
  | [], _ => rfl
  | y :: ys, h => by
    obtain ⟨c, rfl, _⟩ := h y List.mem_cons_self
    have ih := ones_sum ys fun z hz => h z (List.mem_cons_of_mem _ hz)
    rw [List.map_cons, List.sum_cons, ih, List.length_cons]
    show 1 + ys.length = ys.length + 1
    omega
section
variable {P : Program} {w : World} {K : PySem.W.Frag} {mg : Str → Option Value} {base : Heap} {f fP fD : Addr} {fd fdP fdD : FuncData}
theorem scPurses : FnScope ["_law_script", "_law_few", "_law_at"] ["_law_script", "_law_few"] (defScope sPurses) := ⟨rfl, rfl, rfl, by decide +kernel, rfl, by decide +kernel, by decide +kernel⟩
theorem ok_purses (F : FnP K "_law_purses" sPurses f fd) (Z : Free mg) (GP : FnOk P w K mg base CX0 1 fP fdP ["_law_script", "_law_at"] (spPurse K)) (FP : FnP K "_law_purse" sPurse fP fdP) (gP : mg "_law_purse" = some (.ref fP)) :
    FnOk P w K mg base CX0 2 f fd ["_law_script", "_law_few"] (spPurses K) := by
  have bP : Binds K fdP ["_law_script", "_law_at"] [] := FP.bindsN fun _ _ _ _ _ _ us hl => match us, hl with | [_, _], _ => rfl
  refine F.ok scPurses (fun vs H Q E h => ?_) (fun cdv A outer s H vs Q E hr h => ?_)
  · obtain ⟨a, ns, rfl, _⟩ := h
    rfl
  · obtain ⟨a, ns, rfl, hS, k⟩ := h
    have nd := scPurses.nd
    refine ⟨_, PSs.nox (pss_one (ps_ret (pe_lc (own := [("_law_at", 2)]) (g := gName 2) (tt := tYes) (by rfl) nd (pi_range1 rfl Z.range (pa_cons (pe_callB (call_max2 rfl) (by rfl) Z.max (by decide +kernel) (pa_cons pe_int
        (pa_cons (pe_callB (call_min2 rfl) (by rfl) Z.min (by decide +kernel) (pa_cons (pv 1) (pa_cons (pe_callB call_len_seq (by rfl) Z.len (by decide +kernel) (pa_cons (pv 0) pa_nil)) pa_nil))) pa_nil))) pa_nil))
      (blkOk_by (own := [("_law_at", 2)]) (N := ["_law_script", "_law_few", "_law_at"]) (sc := defScope sPurses) (by decide +kernel)) (fun _ _ _ _ _ => pg_name (i := 2) nd rfl (Or.inl rfl)) (fun _ _ _ _ _ => pts_nil)
      (fun _ _ _ _ _ => pe_call GP hr rfl gP FP.kp bP .nil pass0 (pa_cons (pv 0) (pa_cons (pv 2) pa_nil)))))), ?_⟩
    refine ⟨_, rfl, _, rfl, a, _, rfl, Or.inl hS, _, _, rfl, ?_⟩
    refine ⟨_, _, rfl, ?_⟩
    have hone : ∀ n : Int, 0 ≤ n → (if (if n < 1 then n else 1) > 1 then (if n < 1 then n else 1) else (1 : Int)) = 1 := fun n hn => by
      by_cases c : n < 1
      · rw [if_pos c, if_neg (by omega)]
      · rw [if_neg c, if_neg (by omega)]
    refine ⟨1, congrArg (fun z => [V.int z]) (hone _ (Int.natCast_nonneg _)), by decide, by decide, fun D hD => ?_⟩
    refine lc_range (lo := 0) (n := 1) (fun j H2 => (j = 0 ∧ H2 = upd H D (.lst [])) ∨ (j = 1 ∧ ∃ p, H2 D = some (.lst [.ref p]) ∧ Same H H2 ∧ H p = none ∧ p ≠ D ∧ Purse H2 p 0)) (Or.inl ⟨rfl, rfl⟩) ?_ ?_
    · intro j H2 hj hP
      rcases hP with ⟨rfl, rfl⟩ | ⟨rfl, _⟩
      · refine ⟨rfl, _, rfl, _, rfl, a, ns, _, rfl, (Same.upd hD).seq hS, fun p H3 hk hp hpu => ?_⟩
        have hne : p ≠ D := fun e => by
          rw [e, upd_same] at hp
          cases hp
        refine ⟨[], hk _ _ upd_same, by decide, Or.inr ⟨rfl, p, upd_same, fun b o e => ?_, ?_, hne, ?_⟩⟩
        · rw [upd_ne (ne_of_none e hD)]
          exact hk _ _ (by rw [upd_ne (ne_of_none e hD)]; exact e)
        · rw [upd_ne hne] at hp
          exact hp
        · obtain ⟨A0, B, c, i, e, r⟩ := hpu
          exact ⟨A0, B, c, i, by rw [upd_ne hne]; exact e, r⟩
      · omega
    · intro H2 hP
      rcases hP with ⟨h, _⟩ | ⟨_, p, h1, h2, h3, h4, h5⟩
      · omega
      · exact k D p H2 h2 h3 hD h4 h1 h5
theorem scOne : FnScope ["_law_purse_here", "_law_some"] ["_law_purse_here", "_law_some"] (defScope sOne) := ⟨rfl, rfl, rfl, by decide +kernel, rfl, by decide +kernel, by decide +kernel⟩
theorem ok_one (F : FnP K "_law_one_of" sOne f fd) (Z : Free mg) (GD : FnOk P w K mg base CX0 2 fD fdD ["_law_purse_here", "_law_many"] spDraw) (FD : FnP K "_law_draw" sDraw fD fdD) (gD : mg "_law_draw" = some (.ref fD)) :
    FnOk P w K mg base CX0 3 f fd ["_law_purse_here", "_law_some"] (spOne K) := by
  have bD : Binds K fdD ["_law_purse_here", "_law_many"] [] := FD.bindsN fun _ _ _ _ _ _ us hl => match us, hl with | [_, _], _ => rfl
  refine F.ok scOne (fun vs H Q E h => ?_) (fun cdv A outer s H vs Q E hr h => ?_)
  · obtain ⟨p, q, xs, N, rfl, _⟩ := h
    rfl
  · obtain ⟨p, q, xs, N, rfl, hqp, hS, hl1, hl2, hP, hN, k⟩ := h
    refine ⟨_, PSs.nox (pss_one (ps_ret (pe_ix ix_list (pv 1) (pe_call GD hr rfl gD FD.kp bD .nil pass0 (pa_cons (pv 0) (pa_cons (pe_callB call_len_seq (by rfl) Z.len (by decide +kernel) (pa_cons (pv 1) pa_nil)) pa_nil))) (fun _ _ => rfl)))), ?_⟩
    have hm := mixes_one (m := (xs.length : Int)) (by omega) (by omega)
    refine ⟨_, rfl, _, rfl, _, rfl, q, xs, rfl, Or.inl hS, ?_⟩
    refine ⟨p, (xs.length : Int), N, rfl, by omega, log_small (by omega) (by omega), hP, by omega, by omega, fun r H' h0 h1 kb hP' => ?_⟩
    obtain ⟨j, rfl⟩ : ∃ j : Nat, r = j := ⟨r.toNat, by omega⟩
    have hj : j < xs.length := by omega
    refine ⟨q, xs, _, xs[j], rfl, rfl, kb.seq hqp hS, atI_nat (by rw [List.getElem?_eq_getElem hj]), ?_⟩
    rw [hm] at hP'
    exact k _ _ (List.getElem_mem hj) kb hP'
theorem scWord : FnScope ["_law_purse_here", "_law_size", "_law_spin"] ["_law_purse_here"] (defScope sWord) := ⟨rfl, rfl, rfl, by decide +kernel, rfl, by decide +kernel, by decide +kernel⟩
theorem ok_word (F : FnP K "_law_word" sWord f fd) (Z : Free mg) (GD : FnOk P w K mg base CX0 2 fD fdD ["_law_purse_here", "_law_many"] spDraw) (FD : FnP K "_law_draw" sDraw fD fdD) (gD : mg "_law_draw" = some (.ref fD)) :
    FnOk P w K mg base CX0 3 f fd ["_law_purse_here"] spWord := by
  have bD : Binds K fdD ["_law_purse_here", "_law_many"] [] := FD.bindsN fun _ _ _ _ _ _ us hl => match us, hl with | [_, _], _ => rfl
  refine F.ok scWord (fun vs H Q E h => ?_) (fun cdv A outer s H vs Q E hr h => ?_)
  · obtain ⟨p, N, rfl, _⟩ := h
    rfl
  · obtain ⟨p, N, rfl, hP, hN, k⟩ := h
    have nd := scWord.nd
    have m3 : mixes 3 = 1 := by decide +kernel
    have m8 : mixes 8 = 1 := by decide +kernel
    have m26 : mixes 26 = 1 := by decide +kernel
    refine ⟨_, PSs.nox (pss_cons (ps_set (i := 1) nd rfl (Or.inl rfl) (pe_op op_add pe_int (pe_call GD hr rfl gD FD.kp bD .nil pass0 (pa_cons (pv 0) (pa_cons
        (pe_ifExp (pt_cmpR op_eq (pe_call GD hr rfl gD FD.kp bD .nil pass0 (pa_cons (pv 0) (pa_cons pe_int pa_nil))) pe_int (nomark _)) pe_int pe_int) pa_nil)))))
      (pss_one (ps_ret (pe_join pe_str (pe_lc (own := [("_law_spin", 2)]) (g := gName 2) (tt := tYes) (by rfl) nd (pi_range1 rfl Z.range (pa_cons (pv 1) pa_nil))
        (blkOk_by (own := [("_law_spin", 2)]) (N := ["_law_purse_here", "_law_size", "_law_spin"]) (sc := defScope sWord) (by decide +kernel)) (fun _ _ _ _ _ => pg_name (i := 2) nd rfl (Or.inl rfl)) (fun _ _ _ _ _ => pts_nil)
        (fun _ _ _ _ _ => pe_ix ix_str pe_str (pe_call GD hr rfl gD FD.kp bD .nil pass0 (pa_cons (pv 0) (pa_cons pe_int pa_nil))) (fun _ _ => rfl))))))), ?_⟩
    refine ⟨_, rfl, _, rfl, p, 3, N, rfl, by decide, by decide, hP, by omega, by omega, fun r H1 h0 h1 kb1 hP1 => ?_⟩
    rw [m3] at hP1
    refine ⟨rfl, _, rfl, ?_⟩
    refine ite2 (fun _ => ?_) (fun _ => ?_)
    · refine ⟨p, 8, N + 1, rfl, by decide, by decide, hP1, by omega, by omega, fun r H2 q0 q1 kb2' hP2' => ?_⟩
      rw [m8] at hP2'
      have kb2 := kb1.trans kb2'
      have hP2 : Purse H2 p (N + 2) := hP2'
      refine ⟨_, _, rfl, rfl, ?_⟩
      refine ⟨⟨_, rfl⟩, _, rfl, 1 + r, rfl, by omega, by omega, fun D hD => ?_⟩
      have hpD : p ≠ D := fun e => by
        obtain ⟨A0, B, c, i, z, _⟩ := hP2
        rw [e, hD] at z
        cases z
      refine lc_range (lo := 0) (n := (1 + r).toNat) (fun j H3 => ∃ ys : List Str, ys.length = j ∧ (∀ y ∈ ys, ∃ c, y = ⟨#[c]⟩ ∧ 97 ≤ c ∧ c ≤ 122) ∧ H3 D = some (.lst (ys.map V.str)) ∧ But p H H3 ∧ Purse H3 p (N + 2 + j))
        ⟨[], rfl, (fun y hy => nomatch hy), upd_same, fun b o n e => ?_, ?_⟩ ?_ ?_
      · have e2 := kb2 b o n e
        rw [upd_ne (ne_of_none e2 hD)]
        exact e2
      · exact hP2.same (Same.upd hD)
      · rintro j H3 hj ⟨ys, hl, hy, hD3, kb3, hP3⟩
        refine ⟨rfl, _, rfl, p, 26, N + 2 + j, rfl, by decide, by decide, hP3, by omega, by omega, fun r' H4 z0 z1 kb4 hP4 => ?_⟩
        rw [m26] at hP4
        obtain ⟨c, hc, hc1, hc2⟩ := letter z0 z1
        refine ⟨_, _, c, rfl, rfl, by decide, hc, ?_⟩
        refine ⟨ys.map V.str, kb4 _ _ (Ne.symm hpD) hD3, by rw [List.length_map]; exact Nat.lt_of_lt_of_le (show ys.length < 100 by omega) (by decide), ?_⟩
        refine ⟨ys ++ [⟨#[c]⟩], by rw [List.length_append, hl]; rfl, fun y hy' => ?_, by rw [upd_same, List.map_append]; rfl, ?_, ?_⟩
        · rcases List.mem_append.mp hy' with z | z
          · exact hy y z
          · exact ⟨c, by simpa using z, hc1, hc2⟩
        · intro b o n e
          have e2 := kb4 b o n (kb3 b o n e)
          by_cases hb : b = D
          · exfalso
            rw [hb] at e n
            have e3 := kb2 D o n e
            rw [hD] at e3
            cases e3
          · rw [upd_ne hb]
            exact e2
        · obtain ⟨A0, B, c', i, z, r'⟩ := hP4
          exact ⟨A0, B, c', i, by rw [upd_ne hpD]; exact z, r'⟩
      · rintro H3 ⟨ys, hl, hy, hD3, kb3, hP3⟩
        refine ⟨_, D, ys, rfl, rfl, Or.inl (SqL.of hD3), ?_, ?_⟩
        · rw [ones_sum ys hy]
          show ys.length + ys.length * 0 ≤ 16777216
          omega
        · exact k _ _ (join_word (by omega) (by omega) hy) kb3 (hP3.mono (by omega))
    · refine ⟨p, 3, N + 1, rfl, by decide, by decide, hP1, by omega, by omega, fun r H2 q0 q1 kb2' hP2' => ?_⟩
      rw [m3] at hP2'
      have kb2 := kb1.trans kb2'
      have hP2 : Purse H2 p (N + 2) := hP2'
      refine ⟨_, _, rfl, rfl, ?_⟩
      refine ⟨⟨_, rfl⟩, _, rfl, 1 + r, rfl, by omega, by omega, fun D hD => ?_⟩
      have hpD : p ≠ D := fun e => by
        obtain ⟨A0, B, c, i, z, _⟩ := hP2
        rw [e, hD] at z
        cases z
      refine lc_range (lo := 0) (n := (1 + r).toNat) (fun j H3 => ∃ ys : List Str, ys.length = j ∧ (∀ y ∈ ys, ∃ c, y = ⟨#[c]⟩ ∧ 97 ≤ c ∧ c ≤ 122) ∧ H3 D = some (.lst (ys.map V.str)) ∧ But p H H3 ∧ Purse H3 p (N + 2 + j))
        ⟨[], rfl, (fun y hy => nomatch hy), upd_same, fun b o n e => ?_, ?_⟩ ?_ ?_
      · have e2 := kb2 b o n e
        rw [upd_ne (ne_of_none e2 hD)]
        exact e2
      · exact hP2.same (Same.upd hD)
      · rintro j H3 hj ⟨ys, hl, hy, hD3, kb3, hP3⟩
        refine ⟨rfl, _, rfl, p, 26, N + 2 + j, rfl, by decide, by decide, hP3, by omega, by omega, fun r' H4 z0 z1 kb4 hP4 => ?_⟩
        rw [m26] at hP4
        obtain ⟨c, hc, hc1, hc2⟩ := letter z0 z1
        refine ⟨_, _, c, rfl, rfl, by decide, hc, ?_⟩
        refine ⟨ys.map V.str, kb4 _ _ (Ne.symm hpD) hD3, by rw [List.length_map]; exact Nat.lt_of_lt_of_le (show ys.length < 100 by omega) (by decide), ?_⟩
        refine ⟨ys ++ [⟨#[c]⟩], by rw [List.length_append, hl]; rfl, fun y hy' => ?_, by rw [upd_same, List.map_append]; rfl, ?_, ?_⟩
        · rcases List.mem_append.mp hy' with z | z
          · exact hy y z
          · exact ⟨c, by simpa using z, hc1, hc2⟩
        · intro b o n e
          have e2 := kb4 b o n (kb3 b o n e)
          by_cases hb : b = D
          · exfalso
            rw [hb] at e n
            have e3 := kb2 D o n e
            rw [hD] at e3
            cases e3
          · rw [upd_ne hb]
            exact e2
        · obtain ⟨A0, B, c', i, z, r'⟩ := hP4
          exact ⟨A0, B, c', i, by rw [upd_ne hpD]; exact z, r'⟩
      · rintro H3 ⟨ys, hl, hy, hD3, kb3, hP3⟩
        refine ⟨_, D, ys, rfl, rfl, Or.inl (SqL.of hD3), ?_, ?_⟩
        · rw [ones_sum ys hy]
          show ys.length + ys.length * 0 ≤ 16777216
          omega
        · exact k _ _ (join_word (by omega) (by omega) hy) kb3 (hP3.mono (by omega))
end
end K01
set_option Elab.async false
set_option linter.all false
set_option maxRecDepth 100000
set_option maxHeartbeats 8000000
/-! The lists of errors of the law: first, called, bare. -/
namespace K01
open PySem PySem.Spec PyProof.Rows L2
abbrev sFirst : Stmt := top 50
abbrev sCalled : Stmt := top 51
abbrev sBare : Stmt := top 52
/-- all that the walk asks of a class of errors of the name x -/
structure EOk (P : Program) (w : World) (K : PySem.W.Frag) (mg : Str → Option Value) (base : Heap) (x : Str) : Prop where
  gl : mg x = some (.ref (cA K x))
  T : ErrC K (cA K x) (iA K x)
  fn : ∃ fd, FnOk P w K mg base CX0 1 (iA K x) fd ["self", "value"] (spErr (cA K x)) ∧ ErrB K fd
abbrev AllE (P : Program) (w : World) (K : PySem.W.Frag) (mg : Str → Option Value) (base : Heap) : Prop := ∀ x ∈ EN, EOk P w K mg base x
section
variable {X : Cx} {x : Str} {p pos pk : Pos} {e : Expr} {te : TE}
def tE0 (C : Addr) : TE := fun _ H Q => newErr C .non H Q
def tEk (C : Addr) (te : TE) : TE := fun σ H Q => tCons te tNil σ H fun vs H1 => ∃ v, vs = [v] ∧ newErr C v H1 Q
theorem pe_e0 (h : EOk X.prog X.w X.K X.mg X.base x) (hr : Room 2 X.A) (hg : Gl X x := by rfl) (hdb : (x == ("__debug__" : Str)) = false := by decide) : PE X (.Call (.Name x p) [] [] pos) (tE0 (cA X.K x)) := by
  obtain ⟨fd, F1, B⟩ := h.fn
  exact pe_err0 h.T F1 B hr h.gl hg hdb
theorem pe_e1 (h : EOk X.prog X.w X.K X.mg X.base x) (hr : Room 2 X.A) (he : PE X e te) (hg : Gl X x := by rfl) (hdb : (x == ("__debug__" : Str)) = false := by decide)
    (hs : starEach [e] X.env = (false, eval e X.env) :: starEach [] X.env := by rfl) : PE X (.Call (.Name x p) [e] [] pos) (tErr (cA X.K x) te) := by
  obtain ⟨fd, F1, B⟩ := h.fn
  exact pe_err1 h.T F1 B hr h.gl he hg hdb hs
theorem pe_ek (h : EOk X.prog X.w X.K X.mg X.base x) (hr : Room 2 X.A) (he : PE X e te) (hg : Gl X x := by rfl) (hdb : (x == ("__debug__" : Str)) = false := by decide) : PE X (.Call (.Name x p) [] [⟨some "value", e, pk⟩] pos) (tEk (cA X.K x) te) := by
  obtain ⟨fd, F1, B⟩ := h.fn
  exact pe_errk h.T F1 B hr h.gl (pk_cons he pk_nil) hg hdb
end
/-- errors of such classes, with such a field -/
abbrev Errs (H : Hp) (v : V) (Cs : List Addr) (xs : List V) : Prop := Paired (fun C x => ErrAt H C v x) Cs xs
theorem Errs.same {H H' : Hp} {v : V} {Cs : List Addr} {xs : List V} (k : Same H H') (h : Errs H v Cs xs) : Errs H' v Cs xs := Paired.mapP h fun _ _ z => z.same k
theorem Errs.app {H : Hp} {v : V} : ∀ {Cs Ds : List Addr} {xs ys : List V}, Errs H v Cs xs → Errs H v Ds ys → Errs H v (Cs ++ Ds) (xs ++ ys)
  | _, _, _, _, .nil, s => s
  | _, _, _, _, .cons r t, s => .cons r (Errs.app t s)
def tAllE : List TE → TA
  | [] => tNil
  | t :: ts => tCons t (tAllE ts)
theorem errs_read {σ : L2.St} {v : V} : ∀ {ts : List TE} {Cs : List Addr} {H : Hp} {Q : List V → Hp → Prop}, Paired (fun (t : TE) C => ∀ H Q, newErr C v H Q → t σ H Q) ts Cs →
    (∀ xs H', Same H H' → Errs H' v Cs xs → Q xs H') → tAllE ts σ H Q
  | _, _, H, Q, .nil, k => k [] H (Same.refl H) .nil
  | _, _, H, Q, .cons h t, k => h H _ fun e H1 s1 r1 => errs_read t fun xs H2 s2 r2 => k _ H2 (s1.trans s2) (.cons (r1.same s2) r2)
/-- behind some of the statements: found holds the errors made so far -/
structure Made (v : V) (H0 : Hp) (Cs : List Addr) (i : Nat) (σ : L2.St) (H : Hp) : Prop where
  at_ : ∃ p xs, σ[i]? = some (some (.ref p)) ∧ H p = some (.lst xs) ∧ Errs H v Cs xs ∧ Same H0 H
theorem made_first {v : V} {H : Hp} {σ : L2.St} {i : Nat} {ts : List TE} {Cs : List Addr} {D : Ends} (hi : i < σ.length) (h : Paired (fun (t : TE) C => ∀ H Q, newErr C v H Q → t σ H Q) ts Cs) (hl : Cs.length ≤ 100)
    (k : ∀ (σ' : L2.St) H', σ'.length = σ.length → (∀ j, i ≠ j → σ'[j]? = σ[j]?) → Made v H Cs i σ' H' → D.nx σ' H') : tAsg (tLst (tAllE ts)) (gName i) D σ H := by
  refine errs_read h fun xs H1 s1 r1 => ⟨?_, fun p hp => k _ _ (List.length_set ..) (fun j hj => List.getElem?_set_ne hj) ⟨p, xs, ?_, upd_same, r1.same (Same.upd hp), s1.trans (Same.upd hp)⟩⟩
  · rw [← Paired.length r1]
    exact Nat.le_trans hl (by decide)
  · rw [List.getElem?_set_self hi]
theorem made_more {v : V} {H0 H : Hp} {σ : L2.St} {i : Nat} {ts : List TE} {Cs Ds : List Addr} {D : Ends} (M : Made v H0 Cs i σ H) (hi : i < σ.length) (h : Paired (fun (t : TE) C => ∀ H Q, newErr C v H Q → t σ H Q) ts Ds) (hl : (Cs ++ Ds).length ≤ 100)
    (k : ∀ (σ' : L2.St) H', σ'.length = σ.length → (∀ j, i ≠ j → σ'[j]? = σ[j]?) → Made v H0 (Cs ++ Ds) i σ' H' → D.nx σ' H') : tAsg (tOp rCat (tVar i) (tLst (tAllE ts))) (gName i) D σ H := by
  obtain ⟨p, xs, e1, e2, e3, e4⟩ := M
  refine ⟨_, e1, errs_read h fun ys H1 s1 r1 => ⟨?_, fun q hq => ?_⟩⟩
  · rw [← Paired.length r1]
    rw [List.length_append] at hl
    exact Nat.le_trans (by omega) (show 100 ≤ sizeLine by decide)
  · refine ⟨p, q, xs, ys, rfl, rfl, ?_, upd_same, ?_, fun r hr => ?_⟩
    · rw [upd_ne (ne_of_none (s1 _ _ e2) hq)]
      exact s1 _ _ e2
    · rw [← Paired.length r1, ← Paired.length e3]
      rw [List.length_append] at hl
      exact Nat.le_trans hl (by decide)
    · refine k _ _ (List.length_set ..) (fun j hj => List.getElem?_set_ne hj) ⟨r, xs ++ ys, by rw [List.getElem?_set_self hi], upd_same, ?_, ?_⟩
      · exact ((e3.same s1).app r1).same ((Same.upd hq).trans (Same.upd hr))
      · exact e4.trans (s1.trans ((Same.upd hq).trans (Same.upd hr)))
/-- a new list of all errors with such a field -/
def outErrs (K : PySem.W.Frag) (v : V) (H : Hp) (Q : VK) : Prop := ∀ p xs H', Same H H' → H' p = some (.lst xs) → Errs H' v (EN.map (cA K)) xs → Q (.ref p) H'
def spFirst (K : PySem.W.Frag) : Sp := fun vs H Q _ => ∃ v, vs = [v] ∧ outErrs K v H Q
def spBare (K : PySem.W.Frag) : Sp := fun vs H Q _ => vs = [] ∧ outErrs K .non H Q
section
variable {P : Program} {w : World} {K : PySem.W.Frag} {mg : Str → Option Value} {base : Heap} {f : Addr} {fd : FuncData}
theorem scFirst : FnScope ["_law_thing", "_law_found"] ["_law_thing"] (defScope sFirst) := ⟨rfl, rfl, rfl, by decide +kernel, rfl, by decide +kernel, by decide +kernel⟩
theorem ok_first (F : FnP K "_law_first" sFirst f fd) (E0 : AllE P w K mg base) : FnOk P w K mg base CX0 3 f fd ["_law_thing"] (spFirst K) := by
  refine F.ok scFirst (fun vs H Q E h => ?_) (fun cdv A outer s H vs Q E hr h => ?_)
  · obtain ⟨v, rfl, _⟩ := h
    rfl
  · obtain ⟨v, rfl, k⟩ := h
    have nd := scFirst.nd
    have e : ∀ x ∈ EN, EOk P w K mg base x := E0
    have hInvalidDisc := e "InvalidDisc" (by decide +kernel)
    have hInvalidCell := e "InvalidCell" (by decide +kernel)
    have hInvalidContent := e "InvalidContent" (by decide +kernel)
    have hInvalidChoice := e "InvalidChoice" (by decide +kernel)
    have hInvalidCode := e "InvalidCode" (by decide +kernel)
    have hInvalidPage := e "InvalidPage" (by decide +kernel)
    have hInvalidLine := e "InvalidLine" (by decide +kernel)
    have hInvalidRun := e "InvalidRun" (by decide +kernel)
    have hInvalidMoment := e "InvalidMoment" (by decide +kernel)
    have hInvalidOrder := e "InvalidOrder" (by decide +kernel)
    have hInvalidDeed := e "InvalidDeed" (by decide +kernel)
    have hInvalidDeeds := e "InvalidDeeds" (by decide +kernel)
    have hInvalidStamps := e "InvalidStamps" (by decide +kernel)
    have hInvalidChain := e "InvalidChain" (by decide +kernel)
    have hInvalidBook := e "InvalidBook" (by decide +kernel)
    have hInvalidKey := e "InvalidKey" (by decide +kernel)
    have hInvalidThing := e "InvalidThing" (by decide +kernel)
    have hInvalidWrites := e "InvalidWrites" (by decide +kernel)
    have hInvalidCommit := e "InvalidCommit" (by decide +kernel)
    have hInvalidSnapshot := e "InvalidSnapshot" (by decide +kernel)
    have hInvalidHeld := e "InvalidHeld" (by decide +kernel)
    have hInvalidQuestion := e "InvalidQuestion" (by decide +kernel)
    have hInvalidName := e "InvalidName" (by decide +kernel)
    have hInvalidKind := e "InvalidKind" (by decide +kernel)
    have hInvalidTransaction := e "InvalidTransaction" (by decide +kernel)
    have hInvalidHistory := e "InvalidHistory" (by decide +kernel)
    have hInvalidPrograms := e "InvalidPrograms" (by decide +kernel)
    have hInvalidShelf := e "InvalidShelf" (by decide +kernel)
    have hInvalidState := e "InvalidState" (by decide +kernel)
    have hInvalidTable := e "InvalidTable" (by decide +kernel)
    have hInvalidRow := e "InvalidRow" (by decide +kernel)
    have hInvalidText := e "InvalidText" (by decide +kernel)
    have hInvalidStore := e "InvalidStore" (by decide +kernel)
    have hInvalidSpot := e "InvalidSpot" (by decide +kernel)
    have hInvalidScript := e "InvalidScript" (by decide +kernel)
    have hInvalidRecord := e "InvalidRecord" (by decide +kernel)
    have hInvalidCount := e "InvalidCount" (by decide +kernel)
    have hUnlike := e "Unlike" (by decide +kernel)
    have hFull := e "Full" (by decide +kernel)
    have hRefused := e "Refused" (by decide +kernel)
    have hFallen := e "Fallen" (by decide +kernel)
    refine ⟨_, PSs.nox (pss_cons (ps_set (i := 1) nd rfl (Or.inl rfl) (pe_lst (pa_cons (pe_e1 hInvalidDisc hr (pv 0)) (pa_cons (pe_e1 hInvalidCell hr (pv 0)) (pa_cons (pe_e1 hInvalidContent hr (pv 0)) (pa_cons (pe_e1 hInvalidChoice hr (pv 0)) (pa_nil)))))))
      (pss_cons (ps_set (i := 1) nd rfl (Or.inl rfl) (pe_op op_cat (pv 1) (pe_lst (pa_cons (pe_e1 hInvalidCode hr (pv 0)) (pa_cons (pe_e1 hInvalidPage hr (pv 0)) (pa_cons (pe_e1 hInvalidLine hr (pv 0)) (pa_cons (pe_e1 hInvalidRun hr (pv 0)) (pa_nil))))))))
      (pss_cons (ps_set (i := 1) nd rfl (Or.inl rfl) (pe_op op_cat (pv 1) (pe_lst (pa_cons (pe_e1 hInvalidMoment hr (pv 0)) (pa_cons (pe_e1 hInvalidOrder hr (pv 0)) (pa_cons (pe_e1 hInvalidDeed hr (pv 0)) (pa_cons (pe_e1 hInvalidDeeds hr (pv 0)) (pa_nil))))))))
      (pss_cons (ps_set (i := 1) nd rfl (Or.inl rfl) (pe_op op_cat (pv 1) (pe_lst (pa_cons (pe_e1 hInvalidStamps hr (pv 0)) (pa_cons (pe_e1 hInvalidChain hr (pv 0)) (pa_cons (pe_e1 hInvalidBook hr (pv 0)) (pa_cons (pe_e1 hInvalidKey hr (pv 0)) (pa_nil))))))))
      (pss_cons (ps_set (i := 1) nd rfl (Or.inl rfl) (pe_op op_cat (pv 1) (pe_lst (pa_cons (pe_e1 hInvalidThing hr (pv 0)) (pa_cons (pe_e1 hInvalidWrites hr (pv 0)) (pa_cons (pe_e1 hInvalidCommit hr (pv 0)) (pa_cons (pe_e1 hInvalidSnapshot hr (pv 0)) (pa_nil))))))))
      (pss_cons (ps_set (i := 1) nd rfl (Or.inl rfl) (pe_op op_cat (pv 1) (pe_lst (pa_cons (pe_e1 hInvalidHeld hr (pv 0)) (pa_cons (pe_e1 hInvalidQuestion hr (pv 0)) (pa_cons (pe_e1 hInvalidName hr (pv 0)) (pa_cons (pe_e1 hInvalidKind hr (pv 0)) (pa_nil))))))))
      (pss_cons (ps_set (i := 1) nd rfl (Or.inl rfl) (pe_op op_cat (pv 1) (pe_lst (pa_cons (pe_e1 hInvalidTransaction hr (pv 0)) (pa_cons (pe_e1 hInvalidHistory hr (pv 0)) (pa_cons (pe_e1 hInvalidPrograms hr (pv 0)) (pa_nil)))))))
      (pss_cons (ps_set (i := 1) nd rfl (Or.inl rfl) (pe_op op_cat (pv 1) (pe_lst (pa_cons (pe_e1 hInvalidShelf hr (pv 0)) (pa_cons (pe_e1 hInvalidState hr (pv 0)) (pa_cons (pe_e1 hInvalidTable hr (pv 0)) (pa_cons (pe_e1 hInvalidRow hr (pv 0)) (pa_nil))))))))
      (pss_cons (ps_set (i := 1) nd rfl (Or.inl rfl) (pe_op op_cat (pv 1) (pe_lst (pa_cons (pe_e1 hInvalidText hr (pv 0)) (pa_cons (pe_e1 hInvalidStore hr (pv 0)) (pa_cons (pe_e1 hInvalidSpot hr (pv 0)) (pa_cons (pe_e1 hInvalidScript hr (pv 0)) (pa_nil))))))))
      (pss_cons (ps_set (i := 1) nd rfl (Or.inl rfl) (pe_op op_cat (pv 1) (pe_lst (pa_cons (pe_e1 hInvalidRecord hr (pv 0)) (pa_cons (pe_e1 hInvalidCount hr (pv 0)) (pa_cons (pe_e1 hUnlike hr (pv 0)) (pa_cons (pe_e1 hFull hr (pv 0)) (pa_cons (pe_e1 hRefused hr (pv 0)) (pa_nil)))))))))
      (pss_cons (ps_set (i := 1) nd rfl (Or.inl rfl) (pe_op op_cat (pv 1) (pe_lst (pa_cons (pe_e1 hFallen hr (pv 0)) (pa_nil)))))
      (pss_one (ps_ret (pv 1)))))))))))))), ?_⟩
    refine made_first (v := v) (ts := [tErr (cA K "InvalidDisc") (tVar 0), tErr (cA K "InvalidCell") (tVar 0), tErr (cA K "InvalidContent") (tVar 0), tErr (cA K "InvalidChoice") (tVar 0)]) (Cs := [cA K "InvalidDisc", cA K "InvalidCell", cA K "InvalidContent", cA K "InvalidChoice"]) (by show 1 < 2; decide) (.cons (fun H Q h => ⟨_, rfl, h⟩) (.cons (fun H Q h => ⟨_, rfl, h⟩) (.cons (fun H Q h => ⟨_, rfl, h⟩) (.cons (fun H Q h => ⟨_, rfl, h⟩) (.nil))))) (by show 4 ≤ 100; decide) fun σ0 H0 l0 g0 M0 => ?_
    have l0 : σ0.length = 2 := l0
    have z0 : σ0[0]? = some (some v) := g0 0 (by decide)
    refine made_more M0 (ts := [tErr (cA K "InvalidCode") (tVar 0), tErr (cA K "InvalidPage") (tVar 0), tErr (cA K "InvalidLine") (tVar 0), tErr (cA K "InvalidRun") (tVar 0)]) (Ds := [cA K "InvalidCode", cA K "InvalidPage", cA K "InvalidLine", cA K "InvalidRun"]) (by rw [l0]; decide) (.cons (fun H Q h => ⟨_, z0, h⟩) (.cons (fun H Q h => ⟨_, z0, h⟩) (.cons (fun H Q h => ⟨_, z0, h⟩) (.cons (fun H Q h => ⟨_, z0, h⟩) (.nil))))) (by show 8 ≤ 100; decide) fun σ1 H1 l1 g1 M1 => ?_
    have l1 : σ1.length = 2 := l1.trans l0
    have z1 : σ1[0]? = some (some v) := (g1 0 (by decide)).trans z0
    refine made_more M1 (ts := [tErr (cA K "InvalidMoment") (tVar 0), tErr (cA K "InvalidOrder") (tVar 0), tErr (cA K "InvalidDeed") (tVar 0), tErr (cA K "InvalidDeeds") (tVar 0)]) (Ds := [cA K "InvalidMoment", cA K "InvalidOrder", cA K "InvalidDeed", cA K "InvalidDeeds"]) (by rw [l1]; decide) (.cons (fun H Q h => ⟨_, z1, h⟩) (.cons (fun H Q h => ⟨_, z1, h⟩) (.cons (fun H Q h => ⟨_, z1, h⟩) (.cons (fun H Q h => ⟨_, z1, h⟩) (.nil))))) (by show 12 ≤ 100; decide) fun σ2 H2 l2 g2 M2 => ?_
    have l2 : σ2.length = 2 := l2.trans l1
    have z2 : σ2[0]? = some (some v) := (g2 0 (by decide)).trans z1
    refine made_more M2 (ts := [tErr (cA K "InvalidStamps") (tVar 0), tErr (cA K "InvalidChain") (tVar 0), tErr (cA K "InvalidBook") (tVar 0), tErr (cA K "InvalidKey") (tVar 0)]) (Ds := [cA K "InvalidStamps", cA K "InvalidChain", cA K "InvalidBook", cA K "InvalidKey"]) (by rw [l2]; decide) (.cons (fun H Q h => ⟨_, z2, h⟩) (.cons (fun H Q h => ⟨_, z2, h⟩) (.cons (fun H Q h => ⟨_, z2, h⟩) (.cons (fun H Q h => ⟨_, z2, h⟩) (.nil))))) (by show 16 ≤ 100; decide) fun σ3 H3 l3 g3 M3 => ?_
    have l3 : σ3.length = 2 := l3.trans l2
    have z3 : σ3[0]? = some (some v) := (g3 0 (by decide)).trans z2
    refine made_more M3 (ts := [tErr (cA K "InvalidThing") (tVar 0), tErr (cA K "InvalidWrites") (tVar 0), tErr (cA K "InvalidCommit") (tVar 0), tErr (cA K "InvalidSnapshot") (tVar 0)]) (Ds := [cA K "InvalidThing", cA K "InvalidWrites", cA K "InvalidCommit", cA K "InvalidSnapshot"]) (by rw [l3]; decide) (.cons (fun H Q h => ⟨_, z3, h⟩) (.cons (fun H Q h => ⟨_, z3, h⟩) (.cons (fun H Q h => ⟨_, z3, h⟩) (.cons (fun H Q h => ⟨_, z3, h⟩) (.nil))))) (by show 20 ≤ 100; decide) fun σ4 H4 l4 g4 M4 => ?_
    have l4 : σ4.length = 2 := l4.trans l3
    have z4 : σ4[0]? = some (some v) := (g4 0 (by decide)).trans z3
    refine made_more M4 (ts := [tErr (cA K "InvalidHeld") (tVar 0), tErr (cA K "InvalidQuestion") (tVar 0), tErr (cA K "InvalidName") (tVar 0), tErr (cA K "InvalidKind") (tVar 0)]) (Ds := [cA K "InvalidHeld", cA K "InvalidQuestion", cA K "InvalidName", cA K "InvalidKind"]) (by rw [l4]; decide) (.cons (fun H Q h => ⟨_, z4, h⟩) (.cons (fun H Q h => ⟨_, z4, h⟩) (.cons (fun H Q h => ⟨_, z4, h⟩) (.cons (fun H Q h => ⟨_, z4, h⟩) (.nil))))) (by show 24 ≤ 100; decide) fun σ5 H5 l5 g5 M5 => ?_
    have l5 : σ5.length = 2 := l5.trans l4
    have z5 : σ5[0]? = some (some v) := (g5 0 (by decide)).trans z4
    refine made_more M5 (ts := [tErr (cA K "InvalidTransaction") (tVar 0), tErr (cA K "InvalidHistory") (tVar 0), tErr (cA K "InvalidPrograms") (tVar 0)]) (Ds := [cA K "InvalidTransaction", cA K "InvalidHistory", cA K "InvalidPrograms"]) (by rw [l5]; decide) (.cons (fun H Q h => ⟨_, z5, h⟩) (.cons (fun H Q h => ⟨_, z5, h⟩) (.cons (fun H Q h => ⟨_, z5, h⟩) (.nil)))) (by show 27 ≤ 100; decide) fun σ6 H6 l6 g6 M6 => ?_
    have l6 : σ6.length = 2 := l6.trans l5
    have z6 : σ6[0]? = some (some v) := (g6 0 (by decide)).trans z5
    refine made_more M6 (ts := [tErr (cA K "InvalidShelf") (tVar 0), tErr (cA K "InvalidState") (tVar 0), tErr (cA K "InvalidTable") (tVar 0), tErr (cA K "InvalidRow") (tVar 0)]) (Ds := [cA K "InvalidShelf", cA K "InvalidState", cA K "InvalidTable", cA K "InvalidRow"]) (by rw [l6]; decide) (.cons (fun H Q h => ⟨_, z6, h⟩) (.cons (fun H Q h => ⟨_, z6, h⟩) (.cons (fun H Q h => ⟨_, z6, h⟩) (.cons (fun H Q h => ⟨_, z6, h⟩) (.nil))))) (by show 31 ≤ 100; decide) fun σ7 H7 l7 g7 M7 => ?_
    have l7 : σ7.length = 2 := l7.trans l6
    have z7 : σ7[0]? = some (some v) := (g7 0 (by decide)).trans z6
    refine made_more M7 (ts := [tErr (cA K "InvalidText") (tVar 0), tErr (cA K "InvalidStore") (tVar 0), tErr (cA K "InvalidSpot") (tVar 0), tErr (cA K "InvalidScript") (tVar 0)]) (Ds := [cA K "InvalidText", cA K "InvalidStore", cA K "InvalidSpot", cA K "InvalidScript"]) (by rw [l7]; decide) (.cons (fun H Q h => ⟨_, z7, h⟩) (.cons (fun H Q h => ⟨_, z7, h⟩) (.cons (fun H Q h => ⟨_, z7, h⟩) (.cons (fun H Q h => ⟨_, z7, h⟩) (.nil))))) (by show 35 ≤ 100; decide) fun σ8 H8 l8 g8 M8 => ?_
    have l8 : σ8.length = 2 := l8.trans l7
    have z8 : σ8[0]? = some (some v) := (g8 0 (by decide)).trans z7
    refine made_more M8 (ts := [tErr (cA K "InvalidRecord") (tVar 0), tErr (cA K "InvalidCount") (tVar 0), tErr (cA K "Unlike") (tVar 0), tErr (cA K "Full") (tVar 0), tErr (cA K "Refused") (tVar 0)]) (Ds := [cA K "InvalidRecord", cA K "InvalidCount", cA K "Unlike", cA K "Full", cA K "Refused"]) (by rw [l8]; decide) (.cons (fun H Q h => ⟨_, z8, h⟩) (.cons (fun H Q h => ⟨_, z8, h⟩) (.cons (fun H Q h => ⟨_, z8, h⟩) (.cons (fun H Q h => ⟨_, z8, h⟩) (.cons (fun H Q h => ⟨_, z8, h⟩) (.nil)))))) (by show 40 ≤ 100; decide) fun σ9 H9 l9 g9 M9 => ?_
    have l9 : σ9.length = 2 := l9.trans l8
    have z9 : σ9[0]? = some (some v) := (g9 0 (by decide)).trans z8
    refine made_more M9 (ts := [tErr (cA K "Fallen") (tVar 0)]) (Ds := [cA K "Fallen"]) (by rw [l9]; decide) (.cons (fun H Q h => ⟨_, z9, h⟩) (.nil)) (by show 41 ≤ 100; decide) fun σ10 H10 l10 g10 M10 => ?_
    have l10 : σ10.length = 2 := l10.trans l9
    have z10 : σ10[0]? = some (some v) := (g10 0 (by decide)).trans z9
    obtain ⟨p, xs, e1, e2, e3, e4⟩ := M10
    exact ⟨_, e1, k _ xs _ e4 e2 e3⟩
theorem scCalled : FnScope ["_law_thing", "_law_found"] ["_law_thing"] (defScope sCalled) := ⟨rfl, rfl, rfl, by decide +kernel, rfl, by decide +kernel, by decide +kernel⟩
theorem ok_called (F : FnP K "_law_called" sCalled f fd) (E0 : AllE P w K mg base) : FnOk P w K mg base CX0 3 f fd ["_law_thing"] (spFirst K) := by
  refine F.ok scCalled (fun vs H Q E h => ?_) (fun cdv A outer s H vs Q E hr h => ?_)
  · obtain ⟨v, rfl, _⟩ := h
    rfl
  · obtain ⟨v, rfl, k⟩ := h
    have nd := scCalled.nd
    have e : ∀ x ∈ EN, EOk P w K mg base x := E0
    have hInvalidDisc := e "InvalidDisc" (by decide +kernel)
    have hInvalidCell := e "InvalidCell" (by decide +kernel)
    have hInvalidContent := e "InvalidContent" (by decide +kernel)
    have hInvalidChoice := e "InvalidChoice" (by decide +kernel)
    have hInvalidCode := e "InvalidCode" (by decide +kernel)
    have hInvalidPage := e "InvalidPage" (by decide +kernel)
    have hInvalidLine := e "InvalidLine" (by decide +kernel)
    have hInvalidRun := e "InvalidRun" (by decide +kernel)
    have hInvalidMoment := e "InvalidMoment" (by decide +kernel)
    have hInvalidOrder := e "InvalidOrder" (by decide +kernel)
    have hInvalidDeed := e "InvalidDeed" (by decide +kernel)
    have hInvalidDeeds := e "InvalidDeeds" (by decide +kernel)
    have hInvalidStamps := e "InvalidStamps" (by decide +kernel)
    have hInvalidChain := e "InvalidChain" (by decide +kernel)
    have hInvalidBook := e "InvalidBook" (by decide +kernel)
    have hInvalidKey := e "InvalidKey" (by decide +kernel)
    have hInvalidThing := e "InvalidThing" (by decide +kernel)
    have hInvalidWrites := e "InvalidWrites" (by decide +kernel)
    have hInvalidCommit := e "InvalidCommit" (by decide +kernel)
    have hInvalidSnapshot := e "InvalidSnapshot" (by decide +kernel)
    have hInvalidHeld := e "InvalidHeld" (by decide +kernel)
    have hInvalidQuestion := e "InvalidQuestion" (by decide +kernel)
    have hInvalidName := e "InvalidName" (by decide +kernel)
    have hInvalidKind := e "InvalidKind" (by decide +kernel)
    have hInvalidTransaction := e "InvalidTransaction" (by decide +kernel)
    have hInvalidHistory := e "InvalidHistory" (by decide +kernel)
    have hInvalidPrograms := e "InvalidPrograms" (by decide +kernel)
    have hInvalidShelf := e "InvalidShelf" (by decide +kernel)
    have hInvalidState := e "InvalidState" (by decide +kernel)
    have hInvalidTable := e "InvalidTable" (by decide +kernel)
    have hInvalidRow := e "InvalidRow" (by decide +kernel)
    have hInvalidText := e "InvalidText" (by decide +kernel)
    have hInvalidStore := e "InvalidStore" (by decide +kernel)
    have hInvalidSpot := e "InvalidSpot" (by decide +kernel)
    have hInvalidScript := e "InvalidScript" (by decide +kernel)
    have hInvalidRecord := e "InvalidRecord" (by decide +kernel)
    have hInvalidCount := e "InvalidCount" (by decide +kernel)
    have hUnlike := e "Unlike" (by decide +kernel)
    have hFull := e "Full" (by decide +kernel)
    have hRefused := e "Refused" (by decide +kernel)
    have hFallen := e "Fallen" (by decide +kernel)
    refine ⟨_, PSs.nox (pss_cons (ps_set (i := 1) nd rfl (Or.inl rfl) (pe_lst (pa_cons (pe_ek hInvalidDisc hr (pv 0)) (pa_cons (pe_ek hInvalidCell hr (pv 0)) (pa_cons (pe_ek hInvalidContent hr (pv 0)) (pa_nil))))))
      (pss_cons (ps_set (i := 1) nd rfl (Or.inl rfl) (pe_op op_cat (pv 1) (pe_lst (pa_cons (pe_ek hInvalidChoice hr (pv 0)) (pa_cons (pe_ek hInvalidCode hr (pv 0)) (pa_cons (pe_ek hInvalidPage hr (pv 0)) (pa_nil)))))))
      (pss_cons (ps_set (i := 1) nd rfl (Or.inl rfl) (pe_op op_cat (pv 1) (pe_lst (pa_cons (pe_ek hInvalidLine hr (pv 0)) (pa_cons (pe_ek hInvalidRun hr (pv 0)) (pa_cons (pe_ek hInvalidMoment hr (pv 0)) (pa_nil)))))))
      (pss_cons (ps_set (i := 1) nd rfl (Or.inl rfl) (pe_op op_cat (pv 1) (pe_lst (pa_cons (pe_ek hInvalidOrder hr (pv 0)) (pa_cons (pe_ek hInvalidDeed hr (pv 0)) (pa_cons (pe_ek hInvalidDeeds hr (pv 0)) (pa_nil)))))))
      (pss_cons (ps_set (i := 1) nd rfl (Or.inl rfl) (pe_op op_cat (pv 1) (pe_lst (pa_cons (pe_ek hInvalidStamps hr (pv 0)) (pa_cons (pe_ek hInvalidChain hr (pv 0)) (pa_cons (pe_ek hInvalidBook hr (pv 0)) (pa_nil)))))))
      (pss_cons (ps_set (i := 1) nd rfl (Or.inl rfl) (pe_op op_cat (pv 1) (pe_lst (pa_cons (pe_ek hInvalidKey hr (pv 0)) (pa_cons (pe_ek hInvalidThing hr (pv 0)) (pa_cons (pe_ek hInvalidWrites hr (pv 0)) (pa_nil)))))))
      (pss_cons (ps_set (i := 1) nd rfl (Or.inl rfl) (pe_op op_cat (pv 1) (pe_lst (pa_cons (pe_ek hInvalidCommit hr (pv 0)) (pa_cons (pe_ek hInvalidSnapshot hr (pv 0)) (pa_cons (pe_ek hInvalidHeld hr (pv 0)) (pa_nil)))))))
      (pss_cons (ps_set (i := 1) nd rfl (Or.inl rfl) (pe_op op_cat (pv 1) (pe_lst (pa_cons (pe_ek hInvalidQuestion hr (pv 0)) (pa_cons (pe_ek hInvalidName hr (pv 0)) (pa_cons (pe_ek hInvalidKind hr (pv 0)) (pa_nil)))))))
      (pss_cons (ps_set (i := 1) nd rfl (Or.inl rfl) (pe_op op_cat (pv 1) (pe_lst (pa_cons (pe_ek hInvalidTransaction hr (pv 0)) (pa_cons (pe_ek hInvalidHistory hr (pv 0)) (pa_cons (pe_ek hInvalidPrograms hr (pv 0)) (pa_nil)))))))
      (pss_cons (ps_set (i := 1) nd rfl (Or.inl rfl) (pe_op op_cat (pv 1) (pe_lst (pa_cons (pe_ek hInvalidShelf hr (pv 0)) (pa_cons (pe_ek hInvalidState hr (pv 0)) (pa_cons (pe_ek hInvalidTable hr (pv 0)) (pa_nil)))))))
      (pss_cons (ps_set (i := 1) nd rfl (Or.inl rfl) (pe_op op_cat (pv 1) (pe_lst (pa_cons (pe_ek hInvalidRow hr (pv 0)) (pa_cons (pe_ek hInvalidText hr (pv 0)) (pa_cons (pe_ek hInvalidStore hr (pv 0)) (pa_nil)))))))
      (pss_cons (ps_set (i := 1) nd rfl (Or.inl rfl) (pe_op op_cat (pv 1) (pe_lst (pa_cons (pe_ek hInvalidSpot hr (pv 0)) (pa_cons (pe_ek hInvalidScript hr (pv 0)) (pa_cons (pe_ek hInvalidRecord hr (pv 0)) (pa_nil)))))))
      (pss_cons (ps_set (i := 1) nd rfl (Or.inl rfl) (pe_op op_cat (pv 1) (pe_lst (pa_cons (pe_ek hInvalidCount hr (pv 0)) (pa_cons (pe_ek hUnlike hr (pv 0)) (pa_cons (pe_ek hFull hr (pv 0)) (pa_cons (pe_ek hRefused hr (pv 0)) (pa_nil))))))))
      (pss_cons (ps_set (i := 1) nd rfl (Or.inl rfl) (pe_op op_cat (pv 1) (pe_lst (pa_cons (pe_ek hFallen hr (pv 0)) (pa_nil)))))
      (pss_one (ps_ret (pv 1))))))))))))))))), ?_⟩
    refine made_first (v := v) (ts := [tEk (cA K "InvalidDisc") (tVar 0), tEk (cA K "InvalidCell") (tVar 0), tEk (cA K "InvalidContent") (tVar 0)]) (Cs := [cA K "InvalidDisc", cA K "InvalidCell", cA K "InvalidContent"]) (by show 1 < 2; decide) (.cons (fun H Q h => ⟨_, rfl, _, rfl, h⟩) (.cons (fun H Q h => ⟨_, rfl, _, rfl, h⟩) (.cons (fun H Q h => ⟨_, rfl, _, rfl, h⟩) (.nil)))) (by show 3 ≤ 100; decide) fun σ0 H0 l0 g0 M0 => ?_
    have l0 : σ0.length = 2 := l0
    have z0 : σ0[0]? = some (some v) := g0 0 (by decide)
    refine made_more M0 (ts := [tEk (cA K "InvalidChoice") (tVar 0), tEk (cA K "InvalidCode") (tVar 0), tEk (cA K "InvalidPage") (tVar 0)]) (Ds := [cA K "InvalidChoice", cA K "InvalidCode", cA K "InvalidPage"]) (by rw [l0]; decide) (.cons (fun H Q h => ⟨_, z0, _, rfl, h⟩) (.cons (fun H Q h => ⟨_, z0, _, rfl, h⟩) (.cons (fun H Q h => ⟨_, z0, _, rfl, h⟩) (.nil)))) (by show 6 ≤ 100; decide) fun σ1 H1 l1 g1 M1 => ?_
    have l1 : σ1.length = 2 := l1.trans l0
    have z1 : σ1[0]? = some (some v) := (g1 0 (by decide)).trans z0
    refine made_more M1 (ts := [tEk (cA K "InvalidLine") (tVar 0), tEk (cA K "InvalidRun") (tVar 0), tEk (cA K "InvalidMoment") (tVar 0)]) (Ds := [cA K "InvalidLine", cA K "InvalidRun", cA K "InvalidMoment"]) (by rw [l1]; decide) (.cons (fun H Q h => ⟨_, z1, _, rfl, h⟩) (.cons (fun H Q h => ⟨_, z1, _, rfl, h⟩) (.cons (fun H Q h => ⟨_, z1, _, rfl, h⟩) (.nil)))) (by show 9 ≤ 100; decide) fun σ2 H2 l2 g2 M2 => ?_
    have l2 : σ2.length = 2 := l2.trans l1
    have z2 : σ2[0]? = some (some v) := (g2 0 (by decide)).trans z1
    refine made_more M2 (ts := [tEk (cA K "InvalidOrder") (tVar 0), tEk (cA K "InvalidDeed") (tVar 0), tEk (cA K "InvalidDeeds") (tVar 0)]) (Ds := [cA K "InvalidOrder", cA K "InvalidDeed", cA K "InvalidDeeds"]) (by rw [l2]; decide) (.cons (fun H Q h => ⟨_, z2, _, rfl, h⟩) (.cons (fun H Q h => ⟨_, z2, _, rfl, h⟩) (.cons (fun H Q h => ⟨_, z2, _, rfl, h⟩) (.nil)))) (by show 12 ≤ 100; decide) fun σ3 H3 l3 g3 M3 => ?_
    have l3 : σ3.length = 2 := l3.trans l2
    have z3 : σ3[0]? = some (some v) := (g3 0 (by decide)).trans z2
    refine made_more M3 (ts := [tEk (cA K "InvalidStamps") (tVar 0), tEk (cA K "InvalidChain") (tVar 0), tEk (cA K "InvalidBook") (tVar 0)]) (Ds := [cA K "InvalidStamps", cA K "InvalidChain", cA K "InvalidBook"]) (by rw [l3]; decide) (.cons (fun H Q h => ⟨_, z3, _, rfl, h⟩) (.cons (fun H Q h => ⟨_, z3, _, rfl, h⟩) (.cons (fun H Q h => ⟨_, z3, _, rfl, h⟩) (.nil)))) (by show 15 ≤ 100; decide) fun σ4 H4 l4 g4 M4 => ?_
    have l4 : σ4.length = 2 := l4.trans l3
    have z4 : σ4[0]? = some (some v) := (g4 0 (by decide)).trans z3
    refine made_more M4 (ts := [tEk (cA K "InvalidKey") (tVar 0), tEk (cA K "InvalidThing") (tVar 0), tEk (cA K "InvalidWrites") (tVar 0)]) (Ds := [cA K "InvalidKey", cA K "InvalidThing", cA K "InvalidWrites"]) (by rw [l4]; decide) (.cons (fun H Q h => ⟨_, z4, _, rfl, h⟩) (.cons (fun H Q h => ⟨_, z4, _, rfl, h⟩) (.cons (fun H Q h => ⟨_, z4, _, rfl, h⟩) (.nil)))) (by show 18 ≤ 100; decide) fun σ5 H5 l5 g5 M5 => ?_
    have l5 : σ5.length = 2 := l5.trans l4
    have z5 : σ5[0]? = some (some v) := (g5 0 (by decide)).trans z4
    refine made_more M5 (ts := [tEk (cA K "InvalidCommit") (tVar 0), tEk (cA K "InvalidSnapshot") (tVar 0), tEk (cA K "InvalidHeld") (tVar 0)]) (Ds := [cA K "InvalidCommit", cA K "InvalidSnapshot", cA K "InvalidHeld"]) (by rw [l5]; decide) (.cons (fun H Q h => ⟨_, z5, _, rfl, h⟩) (.cons (fun H Q h => ⟨_, z5, _, rfl, h⟩) (.cons (fun H Q h => ⟨_, z5, _, rfl, h⟩) (.nil)))) (by show 21 ≤ 100; decide) fun σ6 H6 l6 g6 M6 => ?_
    have l6 : σ6.length = 2 := l6.trans l5
    have z6 : σ6[0]? = some (some v) := (g6 0 (by decide)).trans z5
    refine made_more M6 (ts := [tEk (cA K "InvalidQuestion") (tVar 0), tEk (cA K "InvalidName") (tVar 0), tEk (cA K "InvalidKind") (tVar 0)]) (Ds := [cA K "InvalidQuestion", cA K "InvalidName", cA K "InvalidKind"]) (by rw [l6]; decide) (.cons (fun H Q h => ⟨_, z6, _, rfl, h⟩) (.cons (fun H Q h => ⟨_, z6, _, rfl, h⟩) (.cons (fun H Q h => ⟨_, z6, _, rfl, h⟩) (.nil)))) (by show 24 ≤ 100; decide) fun σ7 H7 l7 g7 M7 => ?_
    have l7 : σ7.length = 2 := l7.trans l6
    have z7 : σ7[0]? = some (some v) := (g7 0 (by decide)).trans z6
    refine made_more M7 (ts := [tEk (cA K "InvalidTransaction") (tVar 0), tEk (cA K "InvalidHistory") (tVar 0), tEk (cA K "InvalidPrograms") (tVar 0)]) (Ds := [cA K "InvalidTransaction", cA K "InvalidHistory", cA K "InvalidPrograms"]) (by rw [l7]; decide) (.cons (fun H Q h => ⟨_, z7, _, rfl, h⟩) (.cons (fun H Q h => ⟨_, z7, _, rfl, h⟩) (.cons (fun H Q h => ⟨_, z7, _, rfl, h⟩) (.nil)))) (by show 27 ≤ 100; decide) fun σ8 H8 l8 g8 M8 => ?_
    have l8 : σ8.length = 2 := l8.trans l7
    have z8 : σ8[0]? = some (some v) := (g8 0 (by decide)).trans z7
    refine made_more M8 (ts := [tEk (cA K "InvalidShelf") (tVar 0), tEk (cA K "InvalidState") (tVar 0), tEk (cA K "InvalidTable") (tVar 0)]) (Ds := [cA K "InvalidShelf", cA K "InvalidState", cA K "InvalidTable"]) (by rw [l8]; decide) (.cons (fun H Q h => ⟨_, z8, _, rfl, h⟩) (.cons (fun H Q h => ⟨_, z8, _, rfl, h⟩) (.cons (fun H Q h => ⟨_, z8, _, rfl, h⟩) (.nil)))) (by show 30 ≤ 100; decide) fun σ9 H9 l9 g9 M9 => ?_
    have l9 : σ9.length = 2 := l9.trans l8
    have z9 : σ9[0]? = some (some v) := (g9 0 (by decide)).trans z8
    refine made_more M9 (ts := [tEk (cA K "InvalidRow") (tVar 0), tEk (cA K "InvalidText") (tVar 0), tEk (cA K "InvalidStore") (tVar 0)]) (Ds := [cA K "InvalidRow", cA K "InvalidText", cA K "InvalidStore"]) (by rw [l9]; decide) (.cons (fun H Q h => ⟨_, z9, _, rfl, h⟩) (.cons (fun H Q h => ⟨_, z9, _, rfl, h⟩) (.cons (fun H Q h => ⟨_, z9, _, rfl, h⟩) (.nil)))) (by show 33 ≤ 100; decide) fun σ10 H10 l10 g10 M10 => ?_
    have l10 : σ10.length = 2 := l10.trans l9
    have z10 : σ10[0]? = some (some v) := (g10 0 (by decide)).trans z9
    refine made_more M10 (ts := [tEk (cA K "InvalidSpot") (tVar 0), tEk (cA K "InvalidScript") (tVar 0), tEk (cA K "InvalidRecord") (tVar 0)]) (Ds := [cA K "InvalidSpot", cA K "InvalidScript", cA K "InvalidRecord"]) (by rw [l10]; decide) (.cons (fun H Q h => ⟨_, z10, _, rfl, h⟩) (.cons (fun H Q h => ⟨_, z10, _, rfl, h⟩) (.cons (fun H Q h => ⟨_, z10, _, rfl, h⟩) (.nil)))) (by show 36 ≤ 100; decide) fun σ11 H11 l11 g11 M11 => ?_
    have l11 : σ11.length = 2 := l11.trans l10
    have z11 : σ11[0]? = some (some v) := (g11 0 (by decide)).trans z10
    refine made_more M11 (ts := [tEk (cA K "InvalidCount") (tVar 0), tEk (cA K "Unlike") (tVar 0), tEk (cA K "Full") (tVar 0), tEk (cA K "Refused") (tVar 0)]) (Ds := [cA K "InvalidCount", cA K "Unlike", cA K "Full", cA K "Refused"]) (by rw [l11]; decide) (.cons (fun H Q h => ⟨_, z11, _, rfl, h⟩) (.cons (fun H Q h => ⟨_, z11, _, rfl, h⟩) (.cons (fun H Q h => ⟨_, z11, _, rfl, h⟩) (.cons (fun H Q h => ⟨_, z11, _, rfl, h⟩) (.nil))))) (by show 40 ≤ 100; decide) fun σ12 H12 l12 g12 M12 => ?_
    have l12 : σ12.length = 2 := l12.trans l11
    have z12 : σ12[0]? = some (some v) := (g12 0 (by decide)).trans z11
    refine made_more M12 (ts := [tEk (cA K "Fallen") (tVar 0)]) (Ds := [cA K "Fallen"]) (by rw [l12]; decide) (.cons (fun H Q h => ⟨_, z12, _, rfl, h⟩) (.nil)) (by show 41 ≤ 100; decide) fun σ13 H13 l13 g13 M13 => ?_
    have l13 : σ13.length = 2 := l13.trans l12
    have z13 : σ13[0]? = some (some v) := (g13 0 (by decide)).trans z12
    obtain ⟨p, xs, e1, e2, e3, e4⟩ := M13
    exact ⟨_, e1, k _ xs _ e4 e2 e3⟩
theorem scBare : FnScope ["_law_found"] [] (defScope sBare) := ⟨rfl, rfl, rfl, by decide +kernel, rfl, by decide +kernel, by decide +kernel⟩
theorem ok_bare (F : FnP K "_law_bare" sBare f fd) (E0 : AllE P w K mg base) : FnOk P w K mg base CX0 3 f fd [] (spBare K) := by
  refine F.ok scBare (fun vs H Q E h => ?_) (fun cdv A outer s H vs Q E hr h => ?_)
  · obtain ⟨rfl, _⟩ := h
    rfl
  · obtain ⟨rfl, k⟩ := h
    have nd := scBare.nd
    have e : ∀ x ∈ EN, EOk P w K mg base x := E0
    have hInvalidDisc := e "InvalidDisc" (by decide +kernel)
    have hInvalidCell := e "InvalidCell" (by decide +kernel)
    have hInvalidContent := e "InvalidContent" (by decide +kernel)
    have hInvalidChoice := e "InvalidChoice" (by decide +kernel)
    have hInvalidCode := e "InvalidCode" (by decide +kernel)
    have hInvalidPage := e "InvalidPage" (by decide +kernel)
    have hInvalidLine := e "InvalidLine" (by decide +kernel)
    have hInvalidRun := e "InvalidRun" (by decide +kernel)
    have hInvalidMoment := e "InvalidMoment" (by decide +kernel)
    have hInvalidOrder := e "InvalidOrder" (by decide +kernel)
    have hInvalidDeed := e "InvalidDeed" (by decide +kernel)
    have hInvalidDeeds := e "InvalidDeeds" (by decide +kernel)
    have hInvalidStamps := e "InvalidStamps" (by decide +kernel)
    have hInvalidChain := e "InvalidChain" (by decide +kernel)
    have hInvalidBook := e "InvalidBook" (by decide +kernel)
    have hInvalidKey := e "InvalidKey" (by decide +kernel)
    have hInvalidThing := e "InvalidThing" (by decide +kernel)
    have hInvalidWrites := e "InvalidWrites" (by decide +kernel)
    have hInvalidCommit := e "InvalidCommit" (by decide +kernel)
    have hInvalidSnapshot := e "InvalidSnapshot" (by decide +kernel)
    have hInvalidHeld := e "InvalidHeld" (by decide +kernel)
    have hInvalidQuestion := e "InvalidQuestion" (by decide +kernel)
    have hInvalidName := e "InvalidName" (by decide +kernel)
    have hInvalidKind := e "InvalidKind" (by decide +kernel)
    have hInvalidTransaction := e "InvalidTransaction" (by decide +kernel)
    have hInvalidHistory := e "InvalidHistory" (by decide +kernel)
    have hInvalidPrograms := e "InvalidPrograms" (by decide +kernel)
    have hInvalidShelf := e "InvalidShelf" (by decide +kernel)
    have hInvalidState := e "InvalidState" (by decide +kernel)
    have hInvalidTable := e "InvalidTable" (by decide +kernel)
    have hInvalidRow := e "InvalidRow" (by decide +kernel)
    have hInvalidText := e "InvalidText" (by decide +kernel)
    have hInvalidStore := e "InvalidStore" (by decide +kernel)
    have hInvalidSpot := e "InvalidSpot" (by decide +kernel)
    have hInvalidScript := e "InvalidScript" (by decide +kernel)
    have hInvalidRecord := e "InvalidRecord" (by decide +kernel)
    have hInvalidCount := e "InvalidCount" (by decide +kernel)
    have hUnlike := e "Unlike" (by decide +kernel)
    have hFull := e "Full" (by decide +kernel)
    have hRefused := e "Refused" (by decide +kernel)
    have hFallen := e "Fallen" (by decide +kernel)
    refine ⟨_, PSs.nox (pss_cons (ps_set (i := 0) nd rfl (Or.inl rfl) (pe_lst (pa_cons (pe_e0 hInvalidDisc hr) (pa_cons (pe_e0 hInvalidCell hr) (pa_cons (pe_e0 hInvalidContent hr) (pa_cons (pe_e0 hInvalidChoice hr) (pa_cons (pe_e0 hInvalidCode hr) (pa_cons (pe_e0 hInvalidPage hr) (pa_nil)))))))))
      (pss_cons (ps_set (i := 0) nd rfl (Or.inl rfl) (pe_op op_cat (pv 0) (pe_lst (pa_cons (pe_e0 hInvalidLine hr) (pa_cons (pe_e0 hInvalidRun hr) (pa_cons (pe_e0 hInvalidMoment hr) (pa_cons (pe_e0 hInvalidOrder hr) (pa_cons (pe_e0 hInvalidDeed hr) (pa_cons (pe_e0 hInvalidDeeds hr) (pa_nil))))))))))
      (pss_cons (ps_set (i := 0) nd rfl (Or.inl rfl) (pe_op op_cat (pv 0) (pe_lst (pa_cons (pe_e0 hInvalidStamps hr) (pa_cons (pe_e0 hInvalidChain hr) (pa_cons (pe_e0 hInvalidBook hr) (pa_cons (pe_e0 hInvalidKey hr) (pa_cons (pe_e0 hInvalidThing hr) (pa_nil)))))))))
      (pss_cons (ps_set (i := 0) nd rfl (Or.inl rfl) (pe_op op_cat (pv 0) (pe_lst (pa_cons (pe_e0 hInvalidWrites hr) (pa_cons (pe_e0 hInvalidCommit hr) (pa_cons (pe_e0 hInvalidSnapshot hr) (pa_cons (pe_e0 hInvalidHeld hr) (pa_cons (pe_e0 hInvalidQuestion hr) (pa_nil)))))))))
      (pss_cons (ps_set (i := 0) nd rfl (Or.inl rfl) (pe_op op_cat (pv 0) (pe_lst (pa_cons (pe_e0 hInvalidName hr) (pa_cons (pe_e0 hInvalidKind hr) (pa_cons (pe_e0 hInvalidTransaction hr) (pa_cons (pe_e0 hInvalidHistory hr) (pa_cons (pe_e0 hInvalidPrograms hr) (pa_nil)))))))))
      (pss_cons (ps_set (i := 0) nd rfl (Or.inl rfl) (pe_op op_cat (pv 0) (pe_lst (pa_cons (pe_e0 hInvalidShelf hr) (pa_cons (pe_e0 hInvalidState hr) (pa_cons (pe_e0 hInvalidTable hr) (pa_cons (pe_e0 hInvalidRow hr) (pa_cons (pe_e0 hInvalidText hr) (pa_cons (pe_e0 hInvalidStore hr) (pa_nil))))))))))
      (pss_cons (ps_set (i := 0) nd rfl (Or.inl rfl) (pe_op op_cat (pv 0) (pe_lst (pa_cons (pe_e0 hInvalidSpot hr) (pa_cons (pe_e0 hInvalidScript hr) (pa_cons (pe_e0 hInvalidRecord hr) (pa_cons (pe_e0 hInvalidCount hr) (pa_cons (pe_e0 hUnlike hr) (pa_cons (pe_e0 hFull hr) (pa_cons (pe_e0 hRefused hr) (pa_nil)))))))))))
      (pss_cons (ps_set (i := 0) nd rfl (Or.inl rfl) (pe_op op_cat (pv 0) (pe_lst (pa_cons (pe_e0 hFallen hr) (pa_nil)))))
      (pss_one (ps_ret (pv 0))))))))))), ?_⟩
    refine made_first (v := .non) (ts := [tE0 (cA K "InvalidDisc"), tE0 (cA K "InvalidCell"), tE0 (cA K "InvalidContent"), tE0 (cA K "InvalidChoice"), tE0 (cA K "InvalidCode"), tE0 (cA K "InvalidPage")]) (Cs := [cA K "InvalidDisc", cA K "InvalidCell", cA K "InvalidContent", cA K "InvalidChoice", cA K "InvalidCode", cA K "InvalidPage"]) (by show 0 < 1; decide) (.cons (fun H Q h => h) (.cons (fun H Q h => h) (.cons (fun H Q h => h) (.cons (fun H Q h => h) (.cons (fun H Q h => h) (.cons (fun H Q h => h) (.nil))))))) (by show 6 ≤ 100; decide) fun σ0 H0 l0 g0 M0 => ?_
    have l0 : σ0.length = 1 := l0
    refine made_more M0 (ts := [tE0 (cA K "InvalidLine"), tE0 (cA K "InvalidRun"), tE0 (cA K "InvalidMoment"), tE0 (cA K "InvalidOrder"), tE0 (cA K "InvalidDeed"), tE0 (cA K "InvalidDeeds")]) (Ds := [cA K "InvalidLine", cA K "InvalidRun", cA K "InvalidMoment", cA K "InvalidOrder", cA K "InvalidDeed", cA K "InvalidDeeds"]) (by rw [l0]; decide) (.cons (fun H Q h => h) (.cons (fun H Q h => h) (.cons (fun H Q h => h) (.cons (fun H Q h => h) (.cons (fun H Q h => h) (.cons (fun H Q h => h) (.nil))))))) (by show 12 ≤ 100; decide) fun σ1 H1 l1 g1 M1 => ?_
    have l1 : σ1.length = 1 := l1.trans l0
    refine made_more M1 (ts := [tE0 (cA K "InvalidStamps"), tE0 (cA K "InvalidChain"), tE0 (cA K "InvalidBook"), tE0 (cA K "InvalidKey"), tE0 (cA K "InvalidThing")]) (Ds := [cA K "InvalidStamps", cA K "InvalidChain", cA K "InvalidBook", cA K "InvalidKey", cA K "InvalidThing"]) (by rw [l1]; decide) (.cons (fun H Q h => h) (.cons (fun H Q h => h) (.cons (fun H Q h => h) (.cons (fun H Q h => h) (.cons (fun H Q h => h) (.nil)))))) (by show 17 ≤ 100; decide) fun σ2 H2 l2 g2 M2 => ?_
    have l2 : σ2.length = 1 := l2.trans l1
    refine made_more M2 (ts := [tE0 (cA K "InvalidWrites"), tE0 (cA K "InvalidCommit"), tE0 (cA K "InvalidSnapshot"), tE0 (cA K "InvalidHeld"), tE0 (cA K "InvalidQuestion")]) (Ds := [cA K "InvalidWrites", cA K "InvalidCommit", cA K "InvalidSnapshot", cA K "InvalidHeld", cA K "InvalidQuestion"]) (by rw [l2]; decide) (.cons (fun H Q h => h) (.cons (fun H Q h => h) (.cons (fun H Q h => h) (.cons (fun H Q h => h) (.cons (fun H Q h => h) (.nil)))))) (by show 22 ≤ 100; decide) fun σ3 H3 l3 g3 M3 => ?_
    have l3 : σ3.length = 1 := l3.trans l2
    refine made_more M3 (ts := [tE0 (cA K "InvalidName"), tE0 (cA K "InvalidKind"), tE0 (cA K "InvalidTransaction"), tE0 (cA K "InvalidHistory"), tE0 (cA K "InvalidPrograms")]) (Ds := [cA K "InvalidName", cA K "InvalidKind", cA K "InvalidTransaction", cA K "InvalidHistory", cA K "InvalidPrograms"]) (by rw [l3]; decide) (.cons (fun H Q h => h) (.cons (fun H Q h => h) (.cons (fun H Q h => h) (.cons (fun H Q h => h) (.cons (fun H Q h => h) (.nil)))))) (by show 27 ≤ 100; decide) fun σ4 H4 l4 g4 M4 => ?_
    have l4 : σ4.length = 1 := l4.trans l3
    refine made_more M4 (ts := [tE0 (cA K "InvalidShelf"), tE0 (cA K "InvalidState"), tE0 (cA K "InvalidTable"), tE0 (cA K "InvalidRow"), tE0 (cA K "InvalidText"), tE0 (cA K "InvalidStore")]) (Ds := [cA K "InvalidShelf", cA K "InvalidState", cA K "InvalidTable", cA K "InvalidRow", cA K "InvalidText", cA K "InvalidStore"]) (by rw [l4]; decide) (.cons (fun H Q h => h) (.cons (fun H Q h => h) (.cons (fun H Q h => h) (.cons (fun H Q h => h) (.cons (fun H Q h => h) (.cons (fun H Q h => h) (.nil))))))) (by show 33 ≤ 100; decide) fun σ5 H5 l5 g5 M5 => ?_
    have l5 : σ5.length = 1 := l5.trans l4
    refine made_more M5 (ts := [tE0 (cA K "InvalidSpot"), tE0 (cA K "InvalidScript"), tE0 (cA K "InvalidRecord"), tE0 (cA K "InvalidCount"), tE0 (cA K "Unlike"), tE0 (cA K "Full"), tE0 (cA K "Refused")]) (Ds := [cA K "InvalidSpot", cA K "InvalidScript", cA K "InvalidRecord", cA K "InvalidCount", cA K "Unlike", cA K "Full", cA K "Refused"]) (by rw [l5]; decide) (.cons (fun H Q h => h) (.cons (fun H Q h => h) (.cons (fun H Q h => h) (.cons (fun H Q h => h) (.cons (fun H Q h => h) (.cons (fun H Q h => h) (.cons (fun H Q h => h) (.nil)))))))) (by show 40 ≤ 100; decide) fun σ6 H6 l6 g6 M6 => ?_
    have l6 : σ6.length = 1 := l6.trans l5
    refine made_more M6 (ts := [tE0 (cA K "Fallen")]) (Ds := [cA K "Fallen"]) (by rw [l6]; decide) (.cons (fun H Q h => h) (.nil)) (by show 41 ≤ 100; decide) fun σ7 H7 l7 g7 M7 => ?_
    have l7 : σ7.length = 1 := l7.trans l6
    obtain ⟨p, xs, e1, e2, e3, e4⟩ := M7
    exact ⟨_, e1, k _ xs _ e4 e2 e3⟩
end
end K01
set_option Elab.async false
set_option linter.all false
set_option maxRecDepth 100000
set_option maxHeartbeats 8000000
/-! code, is_error. -/
namespace K01
open PySem PySem.Spec PyProof.Rows L2
abbrev sCode : Stmt := top 53
abbrev sIsE : Stmt := top 54
theorem list3 {α : Type} {l : List α} (h : l.length = 3) : ∃ a b c, l = [a, b, c] := match l, h with
  | [a, b, c], _ => ⟨a, b, c, rfl⟩
/-- where a list of Booleans is True -/
def trueAt : Nat → List Bool → List Int
  | _, [] => []
  | k, b :: bs => if b = true then (k : Int) :: trueAt (k + 1) bs else trueAt (k + 1) bs
theorem trueAt_snoc (b : Bool) : ∀ (bs : List Bool) (k : Nat), trueAt k (bs ++ [b]) = trueAt k bs ++ (if b = true then [((k + bs.length : Nat) : Int)] else [])
  | [], k => by
    cases b <;> rfl
  | c :: bs, k => by
    have ih := trueAt_snoc b bs (k + 1)
    have e : k + 1 + bs.length = k + (c :: bs).length := by
      rw [List.length_cons]
      omega
    rw [e] at ih
    show (if c = true then (k : Int) :: trueAt (k + 1) (bs ++ [b]) else trueAt (k + 1) (bs ++ [b])) = (if c = true then (k : Int) :: trueAt (k + 1) bs else trueAt (k + 1) bs) ++ _
    rw [ih]
    cases c <;> simp
theorem trueAt_len : ∀ (bs : List Bool) (k : Nat), (trueAt k bs).length ≤ bs.length
  | [], _ => Nat.le_refl _
  | b :: bs, k => by
    have ih := trueAt_len bs (k + 1)
    unfold trueAt
    split
    · simp only [List.length_cons]
      omega
    · simp only [List.length_cons]
      omega
theorem trueAt_take {bs : List Bool} {i : Nat} {b : Bool} (h : bs[i]? = some b) : trueAt 0 (bs.take (i + 1)) = trueAt 0 (bs.take i) ++ (if b = true then [(i : Int)] else []) := by
  have hi : i < bs.length := (List.getElem?_eq_some_iff.mp h).1
  have e : bs.take (i + 1) = bs.take i ++ [b] := by
    rw [List.take_succ, h]
    rfl
  rw [e, trueAt_snoc, List.length_take, Nat.min_eq_left (Nat.le_of_lt hi), Nat.zero_add]
/-- isinstance(x, y) of an error x -/
def tIs (K : PySem.W.Frag) (y : Str) : TE := tCB (rIsX K) (tCons (tVar 0) (tCons (tC (.ref (cA K y))) tNil))
theorem pe_is {X : Cx} {y z : Str} {p q pz pos : Pos} (hy : X.mg y = some (.ref (cA X.K y))) (he : PE X (.Name z pz) (tVar 0)) (hm : X.mg "isinstance" = none) (hg : Gl X y := by rfl) (hi : Gl X "isinstance" := by rfl) (hdb : (y == ("__debug__" : Str)) = false := by decide) :
    PE X (.Call (.Name "isinstance" p) [.Name z pz, .Name y q] [] pos) (tIs X.K y) :=
  pe_callB call_isX hi hm (by decide +kernel) (pa_cons he (pa_cons (pe_glob (v := .ref (cA X.K y)) hg hy rfl hdb) pa_nil))
/-- what the class of x says of each name of a list -/
abbrev Kits (K : PySem.W.Frag) (C : Addr) (ys : List Str) (bs : List Bool) : Prop := Paired (fun y b => PySem.W.kitOne K (.ref C) (.ref (cA K y)) = some b) ys bs
theorem Kits.app {K : PySem.W.Frag} {C : Addr} : ∀ {ys zs : List Str} {bs cs : List Bool}, Kits K C ys bs → Kits K C zs cs → Kits K C (ys ++ zs) (bs ++ cs)
  | _, _, _, _, .nil, s => s
  | _, _, _, _, .cons r t, s => .cons r (Kits.app t s)
theorem Kits.split {K : PySem.W.Frag} {C : Addr} : ∀ {ys zs : List Str} {bs : List Bool}, Kits K C (ys ++ zs) bs → ∃ b1 b2, bs = b1 ++ b2 ∧ Kits K C ys b1 ∧ Kits K C zs b2
  | [], _, bs, h => ⟨[], bs, rfl, .nil, h⟩
  | y :: ys, zs, _, .cons r t => by
    obtain ⟨b1, b2, e, h1, h2⟩ := Kits.split (ys := ys) t
    exact ⟨_ :: b1, b2, by rw [e]; rfl, .cons r h1, h2⟩
theorem is_read {K : PySem.W.Frag} {σ : L2.St} {x : V} {C : Addr} {H : Hp} (hx : σ[0]? = some (some x)) (ha : AnErr H C x) (T : ExcC K C) : ∀ {ys : List Str} {bs : List Bool} {Q : List V → Hp → Prop}, Kits K C ys bs → Q (bs.map V.bl) H → tAllE (ys.map (tIs K)) σ H Q
  | _, _, Q, .nil, k => k
  | _, _, Q, .cons h t, k => ⟨x, hx, x, C, _, _, _, rfl, ha, T, ClsV.own _, h, is_read hx ha T (Q := fun xs H2 => Q (V.bl _ :: xs) H2) t k⟩
/-- behind some statements: found holds what was asked so far -/
structure Asked (H0 : Hp) (bs : List Bool) (i : Nat) (σ : L2.St) (H : Hp) : Prop where
  at_ : ∃ p, σ[i]? = some (some (.ref p)) ∧ H p = some (.lst (bs.map V.bl)) ∧ Same H0 H
theorem asked_first {K : PySem.W.Frag} {σ : L2.St} {x : V} {C : Addr} {H : Hp} {i : Nat} {ys : List Str} {bs : List Bool} {D : Ends} (hx : σ[0]? = some (some x)) (ha : AnErr H C x) (T : ExcC K C) (hi : i < σ.length) (h : Kits K C ys bs) (hl : ys.length ≤ 100)
    (k : ∀ (σ' : L2.St) H', σ'.length = σ.length → (∀ j, i ≠ j → σ'[j]? = σ[j]?) → Asked H bs i σ' H' → D.nx σ' H') : tAsg (tLst (tAllE (ys.map (tIs K)))) (gName i) D σ H := by
  refine is_read hx ha T h ⟨?_, fun p hp => k _ _ (List.length_set ..) (fun j hj => List.getElem?_set_ne hj) ⟨p, ?_, upd_same, Same.upd hp⟩⟩
  · rw [List.length_map, ← Paired.length h]
    exact Nat.le_trans hl (by decide)
  · rw [List.getElem?_set_self hi]
theorem asked_more {K : PySem.W.Frag} {σ : L2.St} {x : V} {C : Addr} {H0 H : Hp} {i : Nat} {ys : List Str} {as bs : List Bool} {D : Ends} (M : Asked H0 as i σ H) (hx : σ[0]? = some (some x)) (ha : AnErr H0 C x) (T : ExcC K C) (hi : i < σ.length) (h : Kits K C ys bs) (hl : as.length + ys.length ≤ 100)
    (k : ∀ (σ' : L2.St) H', σ'.length = σ.length → (∀ j, i ≠ j → σ'[j]? = σ[j]?) → Asked H0 (as ++ bs) i σ' H' → D.nx σ' H') : tAsg (tOp rCat (tVar i) (tLst (tAllE (ys.map (tIs K))))) (gName i) D σ H := by
  obtain ⟨p, e1, e2, e4⟩ := M
  refine ⟨_, e1, is_read hx (ha.same e4) T h ⟨?_, fun q hq => ?_⟩⟩
  · rw [List.length_map, ← Paired.length h]
    exact Nat.le_trans (by omega) (show 100 ≤ sizeLine by decide)
  · refine ⟨p, q, as.map V.bl, bs.map V.bl, rfl, rfl, ?_, upd_same, ?_, fun r hr => ?_⟩
    · rw [upd_ne (ne_of_none e2 hq)]
      exact e2
    · rw [List.length_map, List.length_map, ← Paired.length h]
      exact Nat.le_trans hl (by decide)
    · refine k _ _ (List.length_set ..) (fun j hj => List.getElem?_set_ne hj) ⟨r, by rw [List.getElem?_set_self hi], ?_, e4.trans ((Same.upd hq).trans (Same.upd hr))⟩
      rw [upd_same, List.map_append]
def spCode (K : PySem.W.Frag) : Sp := fun vs H Q _ => ∃ (x : V) (C : Addr) (bs : List Bool), vs = [x] ∧ AnErr H C x ∧ ExcC K C ∧ Kits K C EN bs ∧
  ∀ p H', Same H H' → H' p = some (.lst ((trueAt 0 bs).map V.int)) → H p = none → Q (.ref p) H'
def spIsE (K : PySem.W.Frag) : Sp := fun vs H Q _ => ∃ (x : V) (C : Addr), vs = [x] ∧ AnErr H C x ∧ ExcC K C ∧ PySem.W.kitOne K (.ref C) (.ref (cA K "StoreError")) = some true ∧ PySem.W.kitOne K (.ref C) (.type "ValueError") = some true ∧ Q (.bl true) H
section
variable {P : Program} {w : World} {K : PySem.W.Frag} {mg : Str → Option Value} {base : Heap} {f : Addr} {fd : FuncData}
theorem scCode : FnScope ["_law_error", "_law_found", "_law_at"] ["_law_error"] (defScope sCode) := ⟨rfl, rfl, rfl, by decide +kernel, rfl, by decide +kernel, by decide +kernel⟩
theorem ok_code (F : FnP K "_law_code" sCode f fd) (Z : Free mg) (E0 : ∀ x ∈ EN, mg x = some (.ref (cA K x))) : FnOk P w K mg base CX0 3 f fd ["_law_error"] (spCode K) := by
  refine F.ok scCode (fun vs H Q E h => ?_) (fun cdv A outer s H vs Q E hr h => ?_)
  · obtain ⟨x, C, bs, rfl, _⟩ := h
    rfl
  · obtain ⟨x, C, bs, rfl, ha, T, hk, k⟩ := h
    have nd := scCode.nd
    have hInvalidDisc := E0 "InvalidDisc" (by decide +kernel)
    have hInvalidCell := E0 "InvalidCell" (by decide +kernel)
    have hInvalidContent := E0 "InvalidContent" (by decide +kernel)
    have hInvalidChoice := E0 "InvalidChoice" (by decide +kernel)
    have hInvalidCode := E0 "InvalidCode" (by decide +kernel)
    have hInvalidPage := E0 "InvalidPage" (by decide +kernel)
    have hInvalidLine := E0 "InvalidLine" (by decide +kernel)
    have hInvalidRun := E0 "InvalidRun" (by decide +kernel)
    have hInvalidMoment := E0 "InvalidMoment" (by decide +kernel)
    have hInvalidOrder := E0 "InvalidOrder" (by decide +kernel)
    have hInvalidDeed := E0 "InvalidDeed" (by decide +kernel)
    have hInvalidDeeds := E0 "InvalidDeeds" (by decide +kernel)
    have hInvalidStamps := E0 "InvalidStamps" (by decide +kernel)
    have hInvalidChain := E0 "InvalidChain" (by decide +kernel)
    have hInvalidBook := E0 "InvalidBook" (by decide +kernel)
    have hInvalidKey := E0 "InvalidKey" (by decide +kernel)
    have hInvalidThing := E0 "InvalidThing" (by decide +kernel)
    have hInvalidWrites := E0 "InvalidWrites" (by decide +kernel)
    have hInvalidCommit := E0 "InvalidCommit" (by decide +kernel)
    have hInvalidSnapshot := E0 "InvalidSnapshot" (by decide +kernel)
    have hInvalidHeld := E0 "InvalidHeld" (by decide +kernel)
    have hInvalidQuestion := E0 "InvalidQuestion" (by decide +kernel)
    have hInvalidName := E0 "InvalidName" (by decide +kernel)
    have hInvalidKind := E0 "InvalidKind" (by decide +kernel)
    have hInvalidTransaction := E0 "InvalidTransaction" (by decide +kernel)
    have hInvalidHistory := E0 "InvalidHistory" (by decide +kernel)
    have hInvalidPrograms := E0 "InvalidPrograms" (by decide +kernel)
    have hInvalidShelf := E0 "InvalidShelf" (by decide +kernel)
    have hInvalidState := E0 "InvalidState" (by decide +kernel)
    have hInvalidTable := E0 "InvalidTable" (by decide +kernel)
    have hInvalidRow := E0 "InvalidRow" (by decide +kernel)
    have hInvalidText := E0 "InvalidText" (by decide +kernel)
    have hInvalidStore := E0 "InvalidStore" (by decide +kernel)
    have hInvalidSpot := E0 "InvalidSpot" (by decide +kernel)
    have hInvalidScript := E0 "InvalidScript" (by decide +kernel)
    have hInvalidRecord := E0 "InvalidRecord" (by decide +kernel)
    have hInvalidCount := E0 "InvalidCount" (by decide +kernel)
    have hUnlike := E0 "Unlike" (by decide +kernel)
    have hFull := E0 "Full" (by decide +kernel)
    have hRefused := E0 "Refused" (by decide +kernel)
    have hFallen := E0 "Fallen" (by decide +kernel)
    refine ⟨_, PSs.nox (pss_cons (ps_set (i := 1) nd rfl (Or.inr rfl) (pe_lst (pa_cons (pe_is hInvalidDisc (pv 0) Z.isi) (pa_cons (pe_is hInvalidCell (pv 0) Z.isi) (pa_cons (pe_is hInvalidContent (pv 0) Z.isi) (pa_nil))))))
      (pss_cons (ps_set (i := 1) nd rfl (Or.inr rfl) (pe_op op_cat (pv 1) (pe_lst (pa_cons (pe_is hInvalidChoice (pv 0) Z.isi) (pa_cons (pe_is hInvalidCode (pv 0) Z.isi) (pa_nil))))))
      (pss_cons (ps_set (i := 1) nd rfl (Or.inr rfl) (pe_op op_cat (pv 1) (pe_lst (pa_cons (pe_is hInvalidPage (pv 0) Z.isi) (pa_cons (pe_is hInvalidLine (pv 0) Z.isi) (pa_nil))))))
      (pss_cons (ps_set (i := 1) nd rfl (Or.inr rfl) (pe_op op_cat (pv 1) (pe_lst (pa_cons (pe_is hInvalidRun (pv 0) Z.isi) (pa_cons (pe_is hInvalidMoment (pv 0) Z.isi) (pa_nil))))))
      (pss_cons (ps_set (i := 1) nd rfl (Or.inr rfl) (pe_op op_cat (pv 1) (pe_lst (pa_cons (pe_is hInvalidOrder (pv 0) Z.isi) (pa_cons (pe_is hInvalidDeed (pv 0) Z.isi) (pa_nil))))))
      (pss_cons (ps_set (i := 1) nd rfl (Or.inr rfl) (pe_op op_cat (pv 1) (pe_lst (pa_cons (pe_is hInvalidDeeds (pv 0) Z.isi) (pa_cons (pe_is hInvalidStamps (pv 0) Z.isi) (pa_nil))))))
      (pss_cons (ps_set (i := 1) nd rfl (Or.inr rfl) (pe_op op_cat (pv 1) (pe_lst (pa_cons (pe_is hInvalidChain (pv 0) Z.isi) (pa_cons (pe_is hInvalidBook (pv 0) Z.isi) (pa_nil))))))
      (pss_cons (ps_set (i := 1) nd rfl (Or.inr rfl) (pe_op op_cat (pv 1) (pe_lst (pa_cons (pe_is hInvalidKey (pv 0) Z.isi) (pa_cons (pe_is hInvalidThing (pv 0) Z.isi) (pa_nil))))))
      (pss_cons (ps_set (i := 1) nd rfl (Or.inr rfl) (pe_op op_cat (pv 1) (pe_lst (pa_cons (pe_is hInvalidWrites (pv 0) Z.isi) (pa_cons (pe_is hInvalidCommit (pv 0) Z.isi) (pa_nil))))))
      (pss_cons (ps_set (i := 1) nd rfl (Or.inr rfl) (pe_op op_cat (pv 1) (pe_lst (pa_cons (pe_is hInvalidSnapshot (pv 0) Z.isi) (pa_cons (pe_is hInvalidHeld (pv 0) Z.isi) (pa_nil))))))
      (pss_cons (ps_set (i := 1) nd rfl (Or.inr rfl) (pe_op op_cat (pv 1) (pe_lst (pa_cons (pe_is hInvalidQuestion (pv 0) Z.isi) (pa_cons (pe_is hInvalidName (pv 0) Z.isi) (pa_nil))))))
      (pss_cons (ps_set (i := 1) nd rfl (Or.inr rfl) (pe_op op_cat (pv 1) (pe_lst (pa_cons (pe_is hInvalidKind (pv 0) Z.isi) (pa_cons (pe_is hInvalidTransaction (pv 0) Z.isi) (pa_nil))))))
      (pss_cons (ps_set (i := 1) nd rfl (Or.inr rfl) (pe_op op_cat (pv 1) (pe_lst (pa_cons (pe_is hInvalidHistory (pv 0) Z.isi) (pa_cons (pe_is hInvalidPrograms (pv 0) Z.isi) (pa_nil))))))
      (pss_cons (ps_set (i := 1) nd rfl (Or.inr rfl) (pe_op op_cat (pv 1) (pe_lst (pa_cons (pe_is hInvalidShelf (pv 0) Z.isi) (pa_cons (pe_is hInvalidState (pv 0) Z.isi) (pa_nil))))))
      (pss_cons (ps_set (i := 1) nd rfl (Or.inr rfl) (pe_op op_cat (pv 1) (pe_lst (pa_cons (pe_is hInvalidTable (pv 0) Z.isi) (pa_cons (pe_is hInvalidRow (pv 0) Z.isi) (pa_nil))))))
      (pss_cons (ps_set (i := 1) nd rfl (Or.inr rfl) (pe_op op_cat (pv 1) (pe_lst (pa_cons (pe_is hInvalidText (pv 0) Z.isi) (pa_cons (pe_is hInvalidStore (pv 0) Z.isi) (pa_nil))))))
      (pss_cons (ps_set (i := 1) nd rfl (Or.inr rfl) (pe_op op_cat (pv 1) (pe_lst (pa_cons (pe_is hInvalidSpot (pv 0) Z.isi) (pa_cons (pe_is hInvalidScript (pv 0) Z.isi) (pa_nil))))))
      (pss_cons (ps_set (i := 1) nd rfl (Or.inr rfl) (pe_op op_cat (pv 1) (pe_lst (pa_cons (pe_is hInvalidRecord (pv 0) Z.isi) (pa_cons (pe_is hInvalidCount (pv 0) Z.isi) (pa_cons (pe_is hUnlike (pv 0) Z.isi) (pa_nil)))))))
      (pss_cons (ps_set (i := 1) nd rfl (Or.inr rfl) (pe_op op_cat (pv 1) (pe_lst (pa_cons (pe_is hFull (pv 0) Z.isi) (pa_cons (pe_is hRefused (pv 0) Z.isi) (pa_cons (pe_is hFallen (pv 0) Z.isi) (pa_nil)))))))
      (pss_one (ps_ret (pe_lc (own := [("_law_at", 2)]) (g := gName 2) (tt := tB (tOp (rIxL K) (tVar 1) (tVar 2))) (te := tVar 2) (by rfl) nd (pi_range1 rfl Z.range (pa_cons (pe_callB call_len_seq (by rfl) Z.len (by decide +kernel) (pa_cons (pv 1) pa_nil)) pa_nil))
        (blkOk_by (own := [("_law_at", 2)]) (N := ["_law_error", "_law_found", "_law_at"]) (sc := defScope sCode) (by decide +kernel)) (fun _ _ _ _ _ => pg_name (i := 2) nd rfl (Or.inl rfl))
        (fun _ _ _ _ _ => pts_one (pt_val (pe_ix ix_list (pv 1) (pv 2) (fun _ _ => rfl)))) (fun _ _ _ _ _ => pv 2))))))))))))))))))))))), ?_⟩
    have hEN : EN = (["InvalidDisc", "InvalidCell", "InvalidContent"] : List Str) ++ ((["InvalidChoice", "InvalidCode"] : List Str) ++ ((["InvalidPage", "InvalidLine"] : List Str) ++ ((["InvalidRun", "InvalidMoment"] : List Str) ++ ((["InvalidOrder", "InvalidDeed"] : List Str) ++ ((["InvalidDeeds", "InvalidStamps"] : List Str) ++ ((["InvalidChain", "InvalidBook"] : List Str) ++ ((["InvalidKey", "InvalidThing"] : List Str) ++ ((["InvalidWrites", "InvalidCommit"] : List Str) ++ ((["InvalidSnapshot", "InvalidHeld"] : List Str) ++ ((["InvalidQuestion", "InvalidName"] : List Str) ++ ((["InvalidKind", "InvalidTransaction"] : List Str) ++ ((["InvalidHistory", "InvalidPrograms"] : List Str) ++ ((["InvalidShelf", "InvalidState"] : List Str) ++ ((["InvalidTable", "InvalidRow"] : List Str) ++ ((["InvalidText", "InvalidStore"] : List Str) ++ ((["InvalidSpot", "InvalidScript"] : List Str) ++ ((["InvalidRecord", "InvalidCount", "Unlike"] : List Str) ++ ((["Full", "Refused", "Fallen"] : List Str))))))))))))))))))) := rfl
    rw [hEN] at hk
    obtain ⟨b0, r0, e0, k0, hk⟩ := Kits.split hk
    obtain ⟨b1, r1, e1, k1, hk⟩ := Kits.split hk
    obtain ⟨b2, r2, e2, k2, hk⟩ := Kits.split hk
    obtain ⟨b3, r3, e3, k3, hk⟩ := Kits.split hk
    obtain ⟨b4, r4, e4, k4, hk⟩ := Kits.split hk
    obtain ⟨b5, r5, e5, k5, hk⟩ := Kits.split hk
    obtain ⟨b6, r6, e6, k6, hk⟩ := Kits.split hk
    obtain ⟨b7, r7, e7, k7, hk⟩ := Kits.split hk
    obtain ⟨b8, r8, e8, k8, hk⟩ := Kits.split hk
    obtain ⟨b9, r9, e9, k9, hk⟩ := Kits.split hk
    obtain ⟨b10, r10, e10, k10, hk⟩ := Kits.split hk
    obtain ⟨b11, r11, e11, k11, hk⟩ := Kits.split hk
    obtain ⟨b12, r12, e12, k12, hk⟩ := Kits.split hk
    obtain ⟨b13, r13, e13, k13, hk⟩ := Kits.split hk
    obtain ⟨b14, r14, e14, k14, hk⟩ := Kits.split hk
    obtain ⟨b15, r15, e15, k15, hk⟩ := Kits.split hk
    obtain ⟨b16, r16, e16, k16, hk⟩ := Kits.split hk
    obtain ⟨b17, r17, e17, k17, hk⟩ := Kits.split hk
    have k18 := hk
    refine asked_first (ys := (["InvalidDisc", "InvalidCell", "InvalidContent"] : List Str)) rfl ha T (by show 1 < 3; decide) k0 (by show 3 ≤ 100; decide) fun σ0 H0 l0 g0 M0 => ?_
    have l0 : σ0.length = 3 := l0
    have z0 : σ0[0]? = some (some x) := g0 0 (by decide)
    have n1 : (b0).length = 3 := by simp only [List.length_append, ← Paired.length k0, List.length_cons, List.length_nil]
    refine asked_more M0 (ys := (["InvalidChoice", "InvalidCode"] : List Str)) z0 ha T (by rw [l0]; decide) k1 (by rw [n1]; show 3 + 2 ≤ 100; decide) fun σ1 H1 l1 g1 M1 => ?_
    have l1 : σ1.length = 3 := l1.trans l0
    have z1 : σ1[0]? = some (some x) := (g1 0 (by decide)).trans z0
    have n2 : (b0 ++ b1).length = 5 := by simp only [List.length_append, ← Paired.length k0, List.length_cons, List.length_nil, ← Paired.length k1, List.length_cons, List.length_nil]
    refine asked_more M1 (ys := (["InvalidPage", "InvalidLine"] : List Str)) z1 ha T (by rw [l1]; decide) k2 (by rw [n2]; show 5 + 2 ≤ 100; decide) fun σ2 H2 l2 g2 M2 => ?_
    have l2 : σ2.length = 3 := l2.trans l1
    have z2 : σ2[0]? = some (some x) := (g2 0 (by decide)).trans z1
    have n3 : (b0 ++ b1 ++ b2).length = 7 := by simp only [List.length_append, ← Paired.length k0, List.length_cons, List.length_nil, ← Paired.length k1, List.length_cons, List.length_nil, ← Paired.length k2, List.length_cons, List.length_nil]
    refine asked_more M2 (ys := (["InvalidRun", "InvalidMoment"] : List Str)) z2 ha T (by rw [l2]; decide) k3 (by rw [n3]; show 7 + 2 ≤ 100; decide) fun σ3 H3 l3 g3 M3 => ?_
    have l3 : σ3.length = 3 := l3.trans l2
    have z3 : σ3[0]? = some (some x) := (g3 0 (by decide)).trans z2
    have n4 : (b0 ++ b1 ++ b2 ++ b3).length = 9 := by simp only [List.length_append, ← Paired.length k0, List.length_cons, List.length_nil, ← Paired.length k1, List.length_cons, List.length_nil, ← Paired.length k2, List.length_cons, List.length_nil, ← Paired.length k3, List.length_cons, List.length_nil]
    refine asked_more M3 (ys := (["InvalidOrder", "InvalidDeed"] : List Str)) z3 ha T (by rw [l3]; decide) k4 (by rw [n4]; show 9 + 2 ≤ 100; decide) fun σ4 H4 l4 g4 M4 => ?_
    have l4 : σ4.length = 3 := l4.trans l3
    have z4 : σ4[0]? = some (some x) := (g4 0 (by decide)).trans z3
    have n5 : (b0 ++ b1 ++ b2 ++ b3 ++ b4).length = 11 := by simp only [List.length_append, ← Paired.length k0, List.length_cons, List.length_nil, ← Paired.length k1, List.length_cons, List.length_nil, ← Paired.length k2, List.length_cons, List.length_nil, ← Paired.length k3, List.length_cons, List.length_nil, ← Paired.length k4, List.length_cons, List.length_nil]
    refine asked_more M4 (ys := (["InvalidDeeds", "InvalidStamps"] : List Str)) z4 ha T (by rw [l4]; decide) k5 (by rw [n5]; show 11 + 2 ≤ 100; decide) fun σ5 H5 l5 g5 M5 => ?_
    have l5 : σ5.length = 3 := l5.trans l4
    have z5 : σ5[0]? = some (some x) := (g5 0 (by decide)).trans z4
    have n6 : (b0 ++ b1 ++ b2 ++ b3 ++ b4 ++ b5).length = 13 := by simp only [List.length_append, ← Paired.length k0, List.length_cons, List.length_nil, ← Paired.length k1, List.length_cons, List.length_nil, ← Paired.length k2, List.length_cons, List.length_nil, ← Paired.length k3, List.length_cons, List.length_nil, ← Paired.length k4, List.length_cons, List.length_nil, ← Paired.length k5, List.length_cons, List.length_nil]
    refine asked_more M5 (ys := (["InvalidChain", "InvalidBook"] : List Str)) z5 ha T (by rw [l5]; decide) k6 (by rw [n6]; show 13 + 2 ≤ 100; decide) fun σ6 H6 l6 g6 M6 => ?_
    have l6 : σ6.length = 3 := l6.trans l5
    have z6 : σ6[0]? = some (some x) := (g6 0 (by decide)).trans z5
    have n7 : (b0 ++ b1 ++ b2 ++ b3 ++ b4 ++ b5 ++ b6).length = 15 := by simp only [List.length_append, ← Paired.length k0, List.length_cons, List.length_nil, ← Paired.length k1, List.length_cons, List.length_nil, ← Paired.length k2, List.length_cons, List.length_nil, ← Paired.length k3, List.length_cons, List.length_nil, ← Paired.length k4, List.length_cons, List.length_nil, ← Paired.length k5, List.length_cons, List.length_nil, ← Paired.length k6, List.length_cons, List.length_nil]
    refine asked_more M6 (ys := (["InvalidKey", "InvalidThing"] : List Str)) z6 ha T (by rw [l6]; decide) k7 (by rw [n7]; show 15 + 2 ≤ 100; decide) fun σ7 H7 l7 g7 M7 => ?_
    have l7 : σ7.length = 3 := l7.trans l6
    have z7 : σ7[0]? = some (some x) := (g7 0 (by decide)).trans z6
    have n8 : (b0 ++ b1 ++ b2 ++ b3 ++ b4 ++ b5 ++ b6 ++ b7).length = 17 := by simp only [List.length_append, ← Paired.length k0, List.length_cons, List.length_nil, ← Paired.length k1, List.length_cons, List.length_nil, ← Paired.length k2, List.length_cons, List.length_nil, ← Paired.length k3, List.length_cons, List.length_nil, ← Paired.length k4, List.length_cons, List.length_nil, ← Paired.length k5, List.length_cons, List.length_nil, ← Paired.length k6, List.length_cons, List.length_nil, ← Paired.length k7, List.length_cons, List.length_nil]
    refine asked_more M7 (ys := (["InvalidWrites", "InvalidCommit"] : List Str)) z7 ha T (by rw [l7]; decide) k8 (by rw [n8]; show 17 + 2 ≤ 100; decide) fun σ8 H8 l8 g8 M8 => ?_
    have l8 : σ8.length = 3 := l8.trans l7
    have z8 : σ8[0]? = some (some x) := (g8 0 (by decide)).trans z7
    have n9 : (b0 ++ b1 ++ b2 ++ b3 ++ b4 ++ b5 ++ b6 ++ b7 ++ b8).length = 19 := by simp only [List.length_append, ← Paired.length k0, List.length_cons, List.length_nil, ← Paired.length k1, List.length_cons, List.length_nil, ← Paired.length k2, List.length_cons, List.length_nil, ← Paired.length k3, List.length_cons, List.length_nil, ← Paired.length k4, List.length_cons, List.length_nil, ← Paired.length k5, List.length_cons, List.length_nil, ← Paired.length k6, List.length_cons, List.length_nil, ← Paired.length k7, List.length_cons, List.length_nil, ← Paired.length k8, List.length_cons, List.length_nil]
    refine asked_more M8 (ys := (["InvalidSnapshot", "InvalidHeld"] : List Str)) z8 ha T (by rw [l8]; decide) k9 (by rw [n9]; show 19 + 2 ≤ 100; decide) fun σ9 H9 l9 g9 M9 => ?_
    have l9 : σ9.length = 3 := l9.trans l8
    have z9 : σ9[0]? = some (some x) := (g9 0 (by decide)).trans z8
    have n10 : (b0 ++ b1 ++ b2 ++ b3 ++ b4 ++ b5 ++ b6 ++ b7 ++ b8 ++ b9).length = 21 := by simp only [List.length_append, ← Paired.length k0, List.length_cons, List.length_nil, ← Paired.length k1, List.length_cons, List.length_nil, ← Paired.length k2, List.length_cons, List.length_nil, ← Paired.length k3, List.length_cons, List.length_nil, ← Paired.length k4, List.length_cons, List.length_nil, ← Paired.length k5, List.length_cons, List.length_nil, ← Paired.length k6, List.length_cons, List.length_nil, ← Paired.length k7, List.length_cons, List.length_nil, ← Paired.length k8, List.length_cons, List.length_nil, ← Paired.length k9, List.length_cons, List.length_nil]
    refine asked_more M9 (ys := (["InvalidQuestion", "InvalidName"] : List Str)) z9 ha T (by rw [l9]; decide) k10 (by rw [n10]; show 21 + 2 ≤ 100; decide) fun σ10 H10 l10 g10 M10 => ?_
    have l10 : σ10.length = 3 := l10.trans l9
    have z10 : σ10[0]? = some (some x) := (g10 0 (by decide)).trans z9
    have n11 : (b0 ++ b1 ++ b2 ++ b3 ++ b4 ++ b5 ++ b6 ++ b7 ++ b8 ++ b9 ++ b10).length = 23 := by simp only [List.length_append, ← Paired.length k0, List.length_cons, List.length_nil, ← Paired.length k1, List.length_cons, List.length_nil, ← Paired.length k2, List.length_cons, List.length_nil, ← Paired.length k3, List.length_cons, List.length_nil, ← Paired.length k4, List.length_cons, List.length_nil, ← Paired.length k5, List.length_cons, List.length_nil, ← Paired.length k6, List.length_cons, List.length_nil, ← Paired.length k7, List.length_cons, List.length_nil, ← Paired.length k8, List.length_cons, List.length_nil, ← Paired.length k9, List.length_cons, List.length_nil, ← Paired.length k10, List.length_cons, List.length_nil]
    refine asked_more M10 (ys := (["InvalidKind", "InvalidTransaction"] : List Str)) z10 ha T (by rw [l10]; decide) k11 (by rw [n11]; show 23 + 2 ≤ 100; decide) fun σ11 H11 l11 g11 M11 => ?_
    have l11 : σ11.length = 3 := l11.trans l10
    have z11 : σ11[0]? = some (some x) := (g11 0 (by decide)).trans z10
    have n12 : (b0 ++ b1 ++ b2 ++ b3 ++ b4 ++ b5 ++ b6 ++ b7 ++ b8 ++ b9 ++ b10 ++ b11).length = 25 := by simp only [List.length_append, ← Paired.length k0, List.length_cons, List.length_nil, ← Paired.length k1, List.length_cons, List.length_nil, ← Paired.length k2, List.length_cons, List.length_nil, ← Paired.length k3, List.length_cons, List.length_nil, ← Paired.length k4, List.length_cons, List.length_nil, ← Paired.length k5, List.length_cons, List.length_nil, ← Paired.length k6, List.length_cons, List.length_nil, ← Paired.length k7, List.length_cons, List.length_nil, ← Paired.length k8, List.length_cons, List.length_nil, ← Paired.length k9, List.length_cons, List.length_nil, ← Paired.length k10, List.length_cons, List.length_nil, ← Paired.length k11, List.length_cons, List.length_nil]
    refine asked_more M11 (ys := (["InvalidHistory", "InvalidPrograms"] : List Str)) z11 ha T (by rw [l11]; decide) k12 (by rw [n12]; show 25 + 2 ≤ 100; decide) fun σ12 H12 l12 g12 M12 => ?_
    have l12 : σ12.length = 3 := l12.trans l11
    have z12 : σ12[0]? = some (some x) := (g12 0 (by decide)).trans z11
    have n13 : (b0 ++ b1 ++ b2 ++ b3 ++ b4 ++ b5 ++ b6 ++ b7 ++ b8 ++ b9 ++ b10 ++ b11 ++ b12).length = 27 := by simp only [List.length_append, ← Paired.length k0, List.length_cons, List.length_nil, ← Paired.length k1, List.length_cons, List.length_nil, ← Paired.length k2, List.length_cons, List.length_nil, ← Paired.length k3, List.length_cons, List.length_nil, ← Paired.length k4, List.length_cons, List.length_nil, ← Paired.length k5, List.length_cons, List.length_nil, ← Paired.length k6, List.length_cons, List.length_nil, ← Paired.length k7, List.length_cons, List.length_nil, ← Paired.length k8, List.length_cons, List.length_nil, ← Paired.length k9, List.length_cons, List.length_nil, ← Paired.length k10, List.length_cons, List.length_nil, ← Paired.length k11, List.length_cons, List.length_nil, ← Paired.length k12, List.length_cons, List.length_nil]
    refine asked_more M12 (ys := (["InvalidShelf", "InvalidState"] : List Str)) z12 ha T (by rw [l12]; decide) k13 (by rw [n13]; show 27 + 2 ≤ 100; decide) fun σ13 H13 l13 g13 M13 => ?_
    have l13 : σ13.length = 3 := l13.trans l12
    have z13 : σ13[0]? = some (some x) := (g13 0 (by decide)).trans z12
    have n14 : (b0 ++ b1 ++ b2 ++ b3 ++ b4 ++ b5 ++ b6 ++ b7 ++ b8 ++ b9 ++ b10 ++ b11 ++ b12 ++ b13).length = 29 := by simp only [List.length_append, ← Paired.length k0, List.length_cons, List.length_nil, ← Paired.length k1, List.length_cons, List.length_nil, ← Paired.length k2, List.length_cons, List.length_nil, ← Paired.length k3, List.length_cons, List.length_nil, ← Paired.length k4, List.length_cons, List.length_nil, ← Paired.length k5, List.length_cons, List.length_nil, ← Paired.length k6, List.length_cons, List.length_nil, ← Paired.length k7, List.length_cons, List.length_nil, ← Paired.length k8, List.length_cons, List.length_nil, ← Paired.length k9, List.length_cons, List.length_nil, ← Paired.length k10, List.length_cons, List.length_nil, ← Paired.length k11, List.length_cons, List.length_nil, ← Paired.length k12, List.length_cons, List.length_nil, ← Paired.length k13, List.length_cons, List.length_nil]
    refine asked_more M13 (ys := (["InvalidTable", "InvalidRow"] : List Str)) z13 ha T (by rw [l13]; decide) k14 (by rw [n14]; show 29 + 2 ≤ 100; decide) fun σ14 H14 l14 g14 M14 => ?_
    have l14 : σ14.length = 3 := l14.trans l13
    have z14 : σ14[0]? = some (some x) := (g14 0 (by decide)).trans z13
    have n15 : (b0 ++ b1 ++ b2 ++ b3 ++ b4 ++ b5 ++ b6 ++ b7 ++ b8 ++ b9 ++ b10 ++ b11 ++ b12 ++ b13 ++ b14).length = 31 := by simp only [List.length_append, ← Paired.length k0, List.length_cons, List.length_nil, ← Paired.length k1, List.length_cons, List.length_nil, ← Paired.length k2, List.length_cons, List.length_nil, ← Paired.length k3, List.length_cons, List.length_nil, ← Paired.length k4, List.length_cons, List.length_nil, ← Paired.length k5, List.length_cons, List.length_nil, ← Paired.length k6, List.length_cons, List.length_nil, ← Paired.length k7, List.length_cons, List.length_nil, ← Paired.length k8, List.length_cons, List.length_nil, ← Paired.length k9, List.length_cons, List.length_nil, ← Paired.length k10, List.length_cons, List.length_nil, ← Paired.length k11, List.length_cons, List.length_nil, ← Paired.length k12, List.length_cons, List.length_nil, ← Paired.length k13, List.length_cons, List.length_nil, ← Paired.length k14, List.length_cons, List.length_nil]
    refine asked_more M14 (ys := (["InvalidText", "InvalidStore"] : List Str)) z14 ha T (by rw [l14]; decide) k15 (by rw [n15]; show 31 + 2 ≤ 100; decide) fun σ15 H15 l15 g15 M15 => ?_
    have l15 : σ15.length = 3 := l15.trans l14
    have z15 : σ15[0]? = some (some x) := (g15 0 (by decide)).trans z14
    have n16 : (b0 ++ b1 ++ b2 ++ b3 ++ b4 ++ b5 ++ b6 ++ b7 ++ b8 ++ b9 ++ b10 ++ b11 ++ b12 ++ b13 ++ b14 ++ b15).length = 33 := by simp only [List.length_append, ← Paired.length k0, List.length_cons, List.length_nil, ← Paired.length k1, List.length_cons, List.length_nil, ← Paired.length k2, List.length_cons, List.length_nil, ← Paired.length k3, List.length_cons, List.length_nil, ← Paired.length k4, List.length_cons, List.length_nil, ← Paired.length k5, List.length_cons, List.length_nil, ← Paired.length k6, List.length_cons, List.length_nil, ← Paired.length k7, List.length_cons, List.length_nil, ← Paired.length k8, List.length_cons, List.length_nil, ← Paired.length k9, List.length_cons, List.length_nil, ← Paired.length k10, List.length_cons, List.length_nil, ← Paired.length k11, List.length_cons, List.length_nil, ← Paired.length k12, List.length_cons, List.length_nil, ← Paired.length k13, List.length_cons, List.length_nil, ← Paired.length k14, List.length_cons, List.length_nil, ← Paired.length k15, List.length_cons, List.length_nil]
    refine asked_more M15 (ys := (["InvalidSpot", "InvalidScript"] : List Str)) z15 ha T (by rw [l15]; decide) k16 (by rw [n16]; show 33 + 2 ≤ 100; decide) fun σ16 H16 l16 g16 M16 => ?_
    have l16 : σ16.length = 3 := l16.trans l15
    have z16 : σ16[0]? = some (some x) := (g16 0 (by decide)).trans z15
    have n17 : (b0 ++ b1 ++ b2 ++ b3 ++ b4 ++ b5 ++ b6 ++ b7 ++ b8 ++ b9 ++ b10 ++ b11 ++ b12 ++ b13 ++ b14 ++ b15 ++ b16).length = 35 := by simp only [List.length_append, ← Paired.length k0, List.length_cons, List.length_nil, ← Paired.length k1, List.length_cons, List.length_nil, ← Paired.length k2, List.length_cons, List.length_nil, ← Paired.length k3, List.length_cons, List.length_nil, ← Paired.length k4, List.length_cons, List.length_nil, ← Paired.length k5, List.length_cons, List.length_nil, ← Paired.length k6, List.length_cons, List.length_nil, ← Paired.length k7, List.length_cons, List.length_nil, ← Paired.length k8, List.length_cons, List.length_nil, ← Paired.length k9, List.length_cons, List.length_nil, ← Paired.length k10, List.length_cons, List.length_nil, ← Paired.length k11, List.length_cons, List.length_nil, ← Paired.length k12, List.length_cons, List.length_nil, ← Paired.length k13, List.length_cons, List.length_nil, ← Paired.length k14, List.length_cons, List.length_nil, ← Paired.length k15, List.length_cons, List.length_nil, ← Paired.length k16, List.length_cons, List.length_nil]
    refine asked_more M16 (ys := (["InvalidRecord", "InvalidCount", "Unlike"] : List Str)) z16 ha T (by rw [l16]; decide) k17 (by rw [n17]; show 35 + 3 ≤ 100; decide) fun σ17 H17 l17 g17 M17 => ?_
    have l17 : σ17.length = 3 := l17.trans l16
    have z17 : σ17[0]? = some (some x) := (g17 0 (by decide)).trans z16
    have n18 : (b0 ++ b1 ++ b2 ++ b3 ++ b4 ++ b5 ++ b6 ++ b7 ++ b8 ++ b9 ++ b10 ++ b11 ++ b12 ++ b13 ++ b14 ++ b15 ++ b16 ++ b17).length = 38 := by simp only [List.length_append, ← Paired.length k0, List.length_cons, List.length_nil, ← Paired.length k1, List.length_cons, List.length_nil, ← Paired.length k2, List.length_cons, List.length_nil, ← Paired.length k3, List.length_cons, List.length_nil, ← Paired.length k4, List.length_cons, List.length_nil, ← Paired.length k5, List.length_cons, List.length_nil, ← Paired.length k6, List.length_cons, List.length_nil, ← Paired.length k7, List.length_cons, List.length_nil, ← Paired.length k8, List.length_cons, List.length_nil, ← Paired.length k9, List.length_cons, List.length_nil, ← Paired.length k10, List.length_cons, List.length_nil, ← Paired.length k11, List.length_cons, List.length_nil, ← Paired.length k12, List.length_cons, List.length_nil, ← Paired.length k13, List.length_cons, List.length_nil, ← Paired.length k14, List.length_cons, List.length_nil, ← Paired.length k15, List.length_cons, List.length_nil, ← Paired.length k16, List.length_cons, List.length_nil, ← Paired.length k17, List.length_cons, List.length_nil]
    refine asked_more M17 (ys := (["Full", "Refused", "Fallen"] : List Str)) z17 ha T (by rw [l17]; decide) k18 (by rw [n18]; show 38 + 3 ≤ 100; decide) fun σ18 H18 l18 g18 M18 => ?_
    have l18 : σ18.length = 3 := l18.trans l17
    have z18 : σ18[0]? = some (some x) := (g18 0 (by decide)).trans z17
    obtain ⟨q, q1, q2, q3⟩ := M18
    obtain ⟨a1, a2, a3, es⟩ := list3 l18
    rw [es] at q1 z18
    obtain rfl : a1 = some x := Option.some.inj z18
    obtain rfl : a2 = some (.ref q) := Option.some.inj q1
    rw [es]
    have eb : bs = b0 ++ b1 ++ b2 ++ b3 ++ b4 ++ b5 ++ b6 ++ b7 ++ b8 ++ b9 ++ b10 ++ b11 ++ b12 ++ b13 ++ b14 ++ b15 ++ b16 ++ b17 ++ r17 := by
      simp only [e0, e1, e2, e3, e4, e5, e6, e7, e8, e9, e10, e11, e12, e13, e14, e15, e16, e17, List.append_assoc]
    rw [← eb] at q2
    refine ⟨_, q1, q, _, rfl, Or.inl (SqL.of q2), ?_⟩
    have lb : bs.length = 41 := by
      rw [eb]
      simp only [List.length_append, ← Paired.length k0, ← Paired.length k1, ← Paired.length k2, ← Paired.length k3, ← Paired.length k4, ← Paired.length k5, ← Paired.length k6, ← Paired.length k7, ← Paired.length k8, ← Paired.length k9, ← Paired.length k10, ← Paired.length k11, ← Paired.length k12, ← Paired.length k13, ← Paired.length k14, ← Paired.length k15, ← Paired.length k16, ← Paired.length k17, ← Paired.length k18, List.length_cons, List.length_nil]
    have lm : ((bs.map V.bl).length : Int) = 41 := by
      rw [List.length_map, lb]
      rfl
    rw [lm]
    refine ⟨41, rfl, by decide, by decide, fun D hD => ?_⟩
    refine lc_range (lo := 0) (n := 41) (fun i H2 => H2 D = some (.lst ((trueAt 0 (bs.take i)).map V.int)) ∧ Same H18 H2) ⟨upd_same, Same.upd hD⟩ ?_ ?_
    · rintro i H2 hi ⟨hd, hs⟩
      obtain ⟨b, hb⟩ : ∃ b, bs[i]? = some b := ⟨bs[i]'(by omega), List.getElem?_eq_getElem (by omega)⟩
      have ht := trueAt_take hb
      refine ⟨rfl, _, rfl, _, rfl, q, _, (i : Int), .bl b, rfl, congrArg V.int (Int.zero_add _), SqL.of (hs _ _ q2), atI_nat (by rw [List.getElem?_map, hb]; rfl), b, rfl, ?_⟩
      cases b with
      | true =>
        refine iteT ⟨_, rfl, _, hd, ?_, ?_, ?_⟩
        · rw [List.length_map]
          have := trueAt_len (bs.take i) 0
          rw [List.length_take] at this
          exact Nat.lt_of_lt_of_le (show _ < 100 by omega) (by decide)
        · rw [upd_same, ht, List.map_append, Int.zero_add]
          rfl
        · intro c o ho
          rw [upd_ne (ne_of_none ho hD)]
          exact hs c o ho
      | false =>
        refine iteF ⟨?_, hs⟩
        rw [ht]
        simpa using hd
    · rintro H2 ⟨hd, hs⟩
      refine k D H2 (q3.trans hs) ?_ (q3.free hD)
      rw [hd]
      have : bs.take 41 = bs := List.take_of_length_le (by omega)
      rw [this]
theorem scIsE : FnScope ["_law_error"] ["_law_error"] (defScope sIsE) := ⟨rfl, rfl, rfl, by decide +kernel, rfl, by decide +kernel, by decide +kernel⟩
theorem ok_isE (F : FnP K "_law_is_error" sIsE f fd) (Z : Free mg) (gS : mg "StoreError" = some (.ref (cA K "StoreError"))) : FnOk P w K mg base CX0 1 f fd ["_law_error"] (spIsE K) := by
  refine F.ok scIsE (fun vs H Q E h => ?_) (fun cdv A outer s H vs Q E hr h => ?_)
  · obtain ⟨x, C, rfl, _⟩ := h
    rfl
  · obtain ⟨x, C, rfl, ha, T, h1, h2, k⟩ := h
    refine ⟨_, PSs.nox (pss_one (ps_ret (pe_and (pe_is gS (pv 0) Z.isi) (pe_one (pe_callB call_isX (by rfl) Z.isi (by decide +kernel) (pa_cons (pv 0) (pa_cons (pe_bltn (v := .ty "ValueError") (by rfl) Z.ve (by decide +kernel) rfl) pa_nil))))))), ?_⟩
    refine ⟨x, rfl, x, C, _, _, _, rfl, ha, T, ClsV.own _, h1, true, rfl, ?_⟩
    exact iteT ⟨x, rfl, x, C, _, _, _, rfl, ha, T, ClsV.ty _, h2, k⟩
end
end K01
set_option Elab.async false
set_option linter.all false
set_option maxRecDepth 100000
set_option maxHeartbeats 8000000
/-! right. -/
namespace K01
open PySem PySem.Spec PyProof.Rows L2
abbrev sRight : Stmt := top 55
/-- what the classes say of one another: each error is of its own class alone -/
structure Table (K : PySem.W.Frag) : Prop where
  kits : ∀ i x, EN[i]? = some x → Kits K (cA K x) EN ((List.range 41).map fun j => decide (j = i))
  xc : ∀ x ∈ EN, ExcC K (cA K x)
  se : ∀ x ∈ EN, PySem.W.kitOne K (.ref (cA K x)) (.ref (cA K "StoreError")) = some true
  ve : ∀ x ∈ EN, PySem.W.kitOne K (.ref (cA K x)) (.type "ValueError") = some true
theorem EN_len : EN.length = 41 := by decide +kernel
theorem trueAt_one : ∀ i, i < 41 → trueAt 0 ((List.range 41).map fun j => decide (j = i)) = [(i : Int)] := by decide +kernel
theorem Paired.at {α β : Type} {F : α → β → Prop} : ∀ {l₁ : List α} {l₂ : List β} {i : Nat} {b : β}, Paired F l₁ l₂ → l₂[i]? = some b → ∃ a, l₁[i]? = some a ∧ F a b
  | _, _, _, _, .nil, e => by simp at e
  | _, _, 0, _, .cons r _, e => ⟨_, rfl, by
    have z := Option.some.inj e
    rw [← z]
    exact r⟩
  | _, _, i + 1, _, .cons _ t, e => Paired.at (i := i) t e
/-- the list [[0], [1], ..] -/
def rows (n : Nat) : PyData := .list ((List.range n).map fun (j : Nat) => PyData.list [.int (j : Int)])
/-- at D: new lists [0], [1], .. -/
def RowsAt (H : Hp) (D : Addr) (n : Nat) : Prop := ∃ ps : List Addr, ps.length = n ∧ H D = some (.lst (ps.map V.ref)) ∧ ∀ (j : Nat) (p : Addr), ps[j]? = some p → H p = some (.lst [.int (j : Int)])
theorem RowsAt.same {H H' : Hp} {D : Addr} {n : Nat} (k : Same H H') (h : RowsAt H D n) : RowsAt H' D n := by
  obtain ⟨ps, h1, h2, h3⟩ := h
  exact ⟨ps, h1, k _ _ h2, fun j p e => k _ _ (h3 j p e)⟩
theorem rows_all {K : PySem.W.Frag} {H : Hp} : ∀ (ps : List Addr) (k : Nat), (∀ j p, ps[j]? = some p → H p = some (.lst [.int ((k + j : Nat) : Int)])) → DpAll K H (ps.map V.ref) ((List.range' k ps.length).map fun (j : Nat) => PyData.list [.int (j : Int)])
  | [], _, _ => .nil
  | p :: ps, k, h => by
    have h0 := h 0 p rfl
    refine .cons (.lst (SqL.of h0) (.cons (.int _) .nil)) (rows_all ps (k + 1) fun j q e => ?_)
    have := h (j + 1) q e
    rw [this]
    congr 4
    omega
theorem RowsAt.dp {K : PySem.W.Frag} {H : Hp} {D : Addr} {n : Nat} (h : RowsAt H D n) : Dp K H (.ref D) (rows n) := by
  obtain ⟨ps, h1, h2, h3⟩ := h
  have z := rows_all (K := K) ps 0 (fun j p e => by rw [Nat.zero_add]; exact h3 j p e)
  rw [h1, ← List.range_eq_range'] at z
  exact .lst (SqL.of h2) z
/-- one more row -/
theorem RowsAt.more {H H2 : Hp} {D q : Addr} {i : Nat} (k : Same H H2) (h : RowsAt H D i) (hq : H2 q = some (.lst [.int i])) (hn : H q = none) : ∃ ps : List Addr, H2 D = some (.lst (ps.map V.ref)) ∧ ps.length = i ∧ RowsAt (upd H2 D (.lst (ps.map V.ref ++ [.ref q]))) D (i + 1) := by
  obtain ⟨ps, h1, h2, h3⟩ := h
  have nD : q ≠ D := fun e => by
    rw [e, h2] at hn
    cases hn
  refine ⟨ps, k _ _ h2, h1, ps ++ [q], by rw [List.length_append, h1]; rfl, by rw [upd_same, List.map_append]; rfl, fun j p e => ?_⟩
  by_cases hj : j < ps.length
  · rw [List.getElem?_append_left hj] at e
    have hp := h3 j p e
    have np : p ≠ D := fun z => by
      rw [z, h2] at hp
      have y := HO.lst.inj (Option.some.inj hp)
      cases ps with
      | nil => exact absurd hj (Nat.not_lt_zero _)
      | cons a r => cases y
    rw [upd_ne np]
    exact k _ _ hp
  · rw [List.getElem?_append_right (by omega)] at e
    have e0 : j - ps.length = 0 := by
      cases z : j - ps.length with
      | zero => rfl
      | succ m =>
        rw [z] at e
        cases e
    rw [e0] at e
    obtain rfl : q = p := Option.some.inj e
    have ej : j = i := by omega
    rw [upd_ne nD, ej]
    exact hq
def spRight (K : PySem.W.Frag) : Sp := fun vs H Q _ => ∃ (p : Addr) (xs : List V) (v : V) (d : PyData), vs = [.ref p, .str d.shown] ∧ H p = some (.lst xs) ∧ Errs H v (EN.map (cA K)) xs ∧ Sh H v d ∧ d.showable = true ∧ d.depth ≤ 64 ∧ d.shown.length ≤ sizeLine ∧
  ∀ H', Same H H' → Q (.bl true) H'
section
variable {P : Program} {w : World} {K : PySem.W.Frag} {mg : Str → Option Value} {base : Heap} {f fC fI : Addr} {fd fdC fdI : FuncData}
theorem scRight : FnScope ["_law_some", "_law_noted", "_law_error", "_law_at"] ["_law_some", "_law_noted"] (defScope sRight) := ⟨rfl, rfl, rfl, by decide +kernel, rfl, by decide +kernel, by decide +kernel⟩
theorem ok_right (F : FnP K "_law_right" sRight f fd) (Z : Free mg) (hT : Table K) (hK : SysK K) (gR : mg "_law_code" = some (.ref fC)) (FC : FnP K "_law_code" sCode fC fdC) (GC : FnOk P w K mg base CX0 3 fC fdC ["_law_error"] (spCode K))
    (gI : mg "_law_is_error" = some (.ref fI)) (FI : FnP K "_law_is_error" sIsE fI fdI) (GI : FnOk P w K mg base CX0 1 fI fdI ["_law_error"] (spIsE K)) (hE : ∀ x ∈ EN, ErrC K (cA K x) (iA K x)) :
    FnOkG P w K mg base 4 f fd ["_law_some", "_law_noted"] (spRight K) := by
  have bC : Binds K fdC ["_law_error"] [] := FC.bindsN fun _ _ _ _ _ _ us hl => match us, hl with | [_], _ => rfl
  have bI : Binds K fdI ["_law_error"] [] := FI.bindsN fun _ _ _ _ _ _ us hl => match us, hl with | [_], _ => rfl
  refine F.okG scRight (fun vs H Q E h => ?_) (fun cdv A outer s H vs Q E hr hG h => ?_)
  · obtain ⟨p, xs, v, d, rfl, _⟩ := h
    rfl
  · obtain ⟨p, xs, v, d, rfl, hp, hE0, hv, d1, d2, d3, k⟩ := h
    have nd := scRight.nd
    have hr1 : Room 1 _ := hr.mono (by decide)
    refine ⟨_, PSs.nox (pss_cons (ps_if (pt_cmpR (op_neD hr.units)
        (pe_lc (own := [("_law_error", 2)]) (g := gName 2) (tt := tYes) (te := tCall (spCode K) [] E0 (tCons (tVar 2) tNil)) (by rfl) nd (pi_list (pv 0)) (blkOk_by (own := [("_law_error", 2)]) (N := ["_law_some", "_law_noted", "_law_error", "_law_at"]) (sc := defScope sRight) (by decide +kernel))
          (fun _ _ _ _ _ => pg_name (i := 2) nd rfl (Or.inl rfl)) (fun _ _ _ _ _ => pts_nil) (fun _ _ _ _ _ => pe_call GC hr rfl gR FC.kp bC .nil pass0 (pa_cons (pv 2) pa_nil)))
        (pe_lc (own := [("_law_at", 3)]) (g := gName 3) (tt := tYes) (te := tLst (tCons (tVar 3) tNil)) (by rfl) nd (pi_range1 rfl Z.range (pa_cons pe_int pa_nil)) (blkOk_by (own := [("_law_at", 3)]) (N := ["_law_some", "_law_noted", "_law_error", "_law_at"]) (sc := defScope sRight) (by decide +kernel))
          (fun _ _ _ _ _ => pg_name (i := 3) nd rfl (Or.inl rfl)) (fun _ _ _ _ _ => pts_nil) (fun _ _ _ _ _ => pe_lst (pa_cons (pv 3) pa_nil))) (nomark _)) (pss_one (ps_ret pe_bl)) pss_nil)
      (pss_one (ps_ret (pe_cmpR (op_eqD hr.units)
        (pe_lc (own := [("_law_error", 2)]) (g := gName 2) (tt := tOr (tNot (tB (tCall (spIsE K) [] E0 (tCons (tVar 2) tNil)))) (tTest (tOp rNe (tCB rRepr (tCons (tErrVal K (tVar 2)) tNil)) (tVar 1)))) (te := tVar 2) (by rfl) nd (pi_list (pv 0))
          (blkOk_by (own := [("_law_error", 2)]) (N := ["_law_some", "_law_noted", "_law_error", "_law_at"]) (sc := defScope sRight) (by decide +kernel)) (fun _ _ _ _ _ => pg_name (i := 2) nd rfl (Or.inl rfl))
          (fun _ _ _ _ _ => pts_one (PW.pt (pw_or (pt_not (pt_val (pe_call GI hr1 rfl gI FI.kp bI .nil pass0 (pa_cons (pv 2) pa_nil)))) (pw_or1 (pt_cmpR op_ne (pe_callB (call_repr hK hG hr) (by rfl) Z.repr (by decide +kernel) (pa_cons (pe_errVal (pv 2)) pa_nil)) (pv 1) (nomark _))))))
          (fun _ _ _ _ _ => pv 2))
        (pe_lst pa_nil) (nomark _))))), ?_⟩
    have lx : xs.length = 41 := by
      have := Paired.length hE0
      rw [List.length_map, EN_len] at this
      exact this.symm
    have at_ : ∀ i x, xs[i]? = some x → ∃ y, EN[i]? = some y ∧ ErrAt H (cA K y) v x := fun i x e => by
      obtain ⟨C, e1, e2⟩ := Paired.at hE0 e
      rw [List.getElem?_map] at e1
      cases q : EN[i]? with
      | none =>
        rw [q] at e1
        cases e1
      | some y =>
        rw [q] at e1
        cases e1
        exact ⟨y, q, e2⟩
    -- the codes
    refine ⟨_, rfl, p, rfl, ⟨_, SqL.of hp⟩, fun D1 hD1 => ?_⟩
    refine lc_list (K := K) (a := p) (xs := xs) (fun i H2 => RowsAt H2 D1 i ∧ Same H H2) ⟨⟨[], rfl, upd_same, fun j q e => by simp at e⟩, Same.upd hD1⟩ (fun i H2 _ hh => SqL.of (hh.2 _ _ hp)) ?_ ?_
    · rintro i x H2 hx ⟨hrow, hs⟩
      obtain ⟨y, hy, he⟩ := at_ i x hx
      have hi : i < 41 := by
        have := (List.getElem?_eq_some_iff.mp hx).1
        omega
      refine ⟨rfl, _, rfl, x, cA K y, _, rfl, (he.same hs).an, hT.xc y (List.mem_of_getElem? hy), hT.kits i y hy, fun q H3 hs3 hq hqn => ?_⟩
      rw [trueAt_one i hi] at hq
      obtain ⟨ps, g1, g2, g3⟩ := hrow.more hs3 hq hqn
      refine ⟨_, g1, ?_, g3, fun b o e => ?_⟩
      · rw [List.length_map, g2]
        exact Nat.lt_of_lt_of_le (show i < 100 by omega) (by decide)
      · rw [upd_ne (ne_of_none e hD1)]
        exact hs3 _ _ (hs _ _ e)
    · rintro H2 ⟨hrow, hs⟩
      rw [lx] at hrow
      -- the rows
      refine ⟨41, rfl, by decide, by decide, fun D2 hD2 => ?_⟩
      refine lc_range (lo := 0) (n := 41) (fun i H3 => RowsAt H3 D2 i ∧ Same H2 H3) ⟨⟨[], rfl, upd_same, fun j q e => by simp at e⟩, Same.upd hD2⟩ ?_ ?_
      · rintro i H3 hi ⟨hr3, hs3⟩
        refine ⟨rfl, _, rfl, (by show 1 ≤ sizeLine; decide), fun q hq => ?_⟩
        obtain ⟨ps, g1, g2, g3⟩ := hr3.more (Same.upd (o := .lst [.int (0 + (i : Int))]) hq) (by rw [upd_same, Int.zero_add]) hq
        refine ⟨_, g1, ?_, g3, fun b o e => ?_⟩
        · rw [List.length_map, g2]
          exact Nat.lt_of_lt_of_le (show i < 100 by omega) (by decide)
        · rw [upd_ne (ne_of_none e hD2)]
          exact Same.upd hq _ _ (hs3 _ _ e)
      · rintro H3 ⟨hr3, hs3⟩
        refine ⟨rows 41, rows 41, (hrow.same hs3).dp, hr3.dp, by decide +kernel, by decide +kernel, ?_⟩
        have eqv : PyData.eqv (rows 41) (rows 41) = true := by decide +kernel
        rw [eqv]
        refine ⟨false, rfl, iteF ?_⟩
        -- what is wrong: nothing
        have hs0 : Same H H3 := hs.trans hs3
        refine ⟨_, rfl, p, rfl, ⟨_, SqL.of (hs0 _ _ hp)⟩, fun D3 hD3 => ?_⟩
        refine lc_list (K := K) (a := p) (xs := xs) (fun i H4 => H4 D3 = some (.lst []) ∧ Same H3 H4) ⟨upd_same, Same.upd hD3⟩ (fun i H4 _ hh => SqL.of (hh.2 _ _ (hs0 _ _ hp))) ?_ ?_
        · rintro i x H4 hx ⟨h4, hs4⟩
          obtain ⟨y, hy, he⟩ := at_ i x hx
          have he4 := he.same (hs0.trans hs4)
          have my := List.mem_of_getElem? hy
          refine ⟨rfl, _, rfl, x, cA K y, rfl, he4.an, hT.xc y my, hT.se y my, hT.ve y my, true, rfl, iteF ?_⟩
          refine ⟨_, rfl, cA K y, iA K y, v, he4, hE y my, v, d, rfl, hv.same (hs0.trans hs4), d1, d2, d3, ?_⟩
          refine ⟨_, rfl, rfl, _, rfl, ?_⟩
          exact iteNS rfl ⟨h4, hs4⟩
        · rintro H4 ⟨h4, hs4⟩
          refine ⟨(by show 0 ≤ sizeLine; decide), fun q hq => ?_⟩
          have h5 : (upd H4 q (.lst [])) D3 = some (.lst []) := by
            rw [upd_ne (ne_of_none h4 hq)]
            exact h4
          refine ⟨.list [], .list [], .lst (SqL.of h5) .nil, .lst (SqL.of upd_same) .nil, by decide +kernel, by decide +kernel, ?_⟩
          have e0 : PyData.eqv (.list []) (.list []) = true := by decide +kernel
          rw [e0]
          exact k _ ((hs0.trans hs4).trans (Same.upd hq))
end
end K01
set_option Elab.async false
set_option linter.all false
set_option maxRecDepth 100000
set_option maxHeartbeats 8000000
/-! The base class as a value; the things that the law draws. -/
namespace K01
open PySem PySem.Spec PyProof.Rows L2
/-- what the written part says of the base class -/
structure StC (K : PySem.W.Frag) (C fI : Addr) : Prop where
  ox : OexC K C
  xc : ExcC K C
  iC : PySem.W.findIn K (.ref C) "__init__" = some (some (.ref fI))
  tI : PySem.W.typeIn K (.ref fI) = some (.type "function")
/-- its __init__ -/
def spSt (C : Addr) : Sp := fun vs H Q _ => ∃ e : Addr, vs = [.ref e] ∧ H e = some (exo e C none) ∧ Q .non H
theorem stSc : FnScope ["self"] ["self"] (defScope sSt) := ⟨rfl, rfl, rfl, by decide +kernel, rfl, by decide +kernel, by decide +kernel⟩
section
variable {P : Program} {w : World} {K : PySem.W.Frag} {mg : Str → Option Value} {base : Heap}
theorem ok_st {qual : Str} {params : Arguments} {C fI : Addr} {fd : FuncData} (F : FunD K "__init__" qual params (defBody sSt) (defScope sSt) [] [] fI fd) (T : StC K C fI) (hm : mg "ValueError" = none)
    (vV : PySem.W.findCls K (.type "ValueError") (.type "type") "__init__" = some (.val (.builtin "ValueError.__init__"))) : FnOk P w K mg base CX0 1 fI fd ["self"] (spSt C) := by
  refine F.ok stSc (fun vs H Q E h => ?_) (fun cdv A outer s H vs Q E hr h => ?_)
  · obtain ⟨e, rfl, _⟩ := h
    rfl
  · obtain ⟨e, rfl, he, k⟩ := h
    refine ⟨_, PSs.nox (pss_one (ps_expr (pe_veinit (by rfl) hm vV (pa_cons (pv 0) pa_nil)))), ?_⟩
    exact ⟨_, rfl, e, C, [], rfl, Nat.zero_le _, T.ox, he, k⟩
end
section
variable {X : Cx} {pins : List (Addr × Obj)} {σ : L2.St} {H : Hp} {s : Shared} {C fI : Addr} {fd : FuncData} {k : Nat}
def newSt (C : Addr) (H : Hp) (Q : VK) : Prop := ∀ e H', Same H H' → AnErr H' C (.ref e) → Q (.ref e) H'
theorem run_st {Q : VK} (T : StC X.K C fI) (F1 : FnOk X.prog X.w X.K X.mg X.base CX0 k fI fd ["self"] (spSt C)) (hr : Room (k + 1) X.A)
    (hb : ∀ (s' : Shared) (e : Addr), X.K.In s'.heap → BindsTo s' fd ⟨[.ref e], []⟩ ((["self"] : List Str).zip [.ref e]))
    (I : Inv X pins σ H s) (h : newSt C H Q) : wpAny (model X.prog X.w) X.A (call (.ref C) [] []) (EP X pins σ Q) X.xe s := by
  obtain ⟨nm, q, N, bs, bm, sn, sub, ab, col, dd, k0, k1, k2, k3, k5, hC, hbm⟩ := T.ox.cls
  obtain ⟨hp, g, dr, tk, os⟩ := s
  have hsz : hp.objs.size ≤ hp.objs.size + 1 := Nat.le_succ _
  have hn : H (hp.objs.size + 1) = none := I.hok.fresh hsz
  have kk : ∀ b o, hp.get? b = some o → ((hp.push (PySem.W.kdv_tup [])).push (PySem.HandSPX.excO C hp.objs.size)).get? b = some o :=
    fun b o e => Heap.get?_push_of_some _ (Heap.get?_push_of_some _ e)
  have hget : ((hp.push (PySem.W.kdv_tup [])).push (PySem.HandSPX.excO C hp.objs.size)).get? (hp.objs.size + 1) = some (PySem.HandSPX.excO C hp.objs.size) := by heap_get
  have I2 : Inv X pins σ (upd H (hp.objs.size + 1) (exo (hp.objs.size + 1) C none)) ⟨(hp.push (PySem.W.kdv_tup [])).push (PySem.HandSPX.excO C hp.objs.size), g, dr, tk, os⟩ :=
    I.laid (t' := tk) (a := hp.objs.size + 1) (o := exo (hp.objs.size + 1) C none) (h' := (hp.push (PySem.W.kdv_tup [])).push (PySem.HandSPX.excO C hp.objs.size)) kk hsz (exo_ok hget)
  have hq : spSt C [.ref (hp.objs.size + 1)] (upd H (hp.objs.size + 1) (exo (hp.objs.size + 1) C none))
      (fun v' H3 => v' = .non ∧ Q (.ref (hp.objs.size + 1)) H3) (fun _ _ _ => False) :=
    ⟨_, rfl, upd_same, rfl, h _ _ (fun b o e => by rw [upd_ne (ne_of_none e hn)]; exact e) ⟨_, rfl, .inl upd_same⟩⟩
  refine wpAny_call (PySem.KwX.callk F.excBase_ValueError (fun Y => PySem.HandSPX.refsVE_contains Y bm hbm) (I.kIn _ _ hC) (PySem.W.looks_findIn I.kIn T.iC) (fun self => PySem.W.bind_fn I.kIn self T.tI) (rest := []) (Nat.zero_le _)
    (codeAny_mono (F1.run _ X.stack _ _ ⟨[Value.ref (hp.objs.size + 1)], []⟩ [Value.ref (hp.objs.size + 1)] [V.ref (hp.objs.size + 1)] _ (fun _ _ _ => False) (hr.make C [] []) (I2.env0.make C [] []) (hb _ _ I2.kIn)
      (.cons rfl .nil) hq) fun r s' hq' => ?_))
  cases r with
  | error er => exact absurd hq' id
  | ok fl =>
    cases fl with
    | ret u' =>
      obtain ⟨v', H', I3, rv', ev, q3⟩ := I2.after hq'
      subst ev
      have e1 : ∀ b o, hp.get? b = some o → H b = none → upd H (hp.objs.size + 1) (exo (hp.objs.size + 1) C none) b = none := fun b o e n => by
        rw [upd_ne (Nat.ne_of_lt (Nat.lt_of_lt_of_le (Heap.lt_size e) hsz))]
        exact n
      exact ⟨rv', V.ref (hp.objs.size + 1), H', I3, rfl, q3⟩
    | next => exact False.elim hq'
    | brk => exact False.elim hq'
    | cont => exact False.elim hq'
end
def tSt (C : Addr) : TE := fun _ H Q => newSt C H Q
theorem pe_st {X : Cx} {C fI : Addr} {fd : FuncData} {k : Nat} {x : Str} {p pos : Pos} (T : StC X.K C fI) (F1 : FnOk X.prog X.w X.K X.mg X.base CX0 k fI fd ["self"] (spSt C)) (hb : ∀ (s' : Shared) (e : Addr), X.K.In s'.heap → BindsTo s' fd ⟨[.ref e], []⟩ ((["self"] : List Str).zip [.ref e]))
    (hr : Room (k + 1) X.A) (hm : X.mg x = some (.ref C)) (hg : Gl X x := by rfl) (hdb : (x == ("__debug__" : Str)) = false := by decide) : PE X (.Call (.Name x p) [] [] pos) (tSt C) := by
  refine ⟨fun pins s σ H Q I h => ?_⟩
  refine wpAny_Call_Name_kw (ld_glob I hg hm ?_ hdb)
  refine PySem.W.callWith_K0 I.kIn T.ox.kC ?_
  exact run_st T F1 hr hb I h
/-! ### the things -/
inductive Th (z : Str) (H : Hp) : V → PyData → Prop
  | non : Th z H .non .none
  | bl (b : Bool) : Th z H (.bl b) (.bool b)
  | int (i : Int) (h : i.natAbs < 10 ^ 12) : Th z H (.int i) (.int i)
  | word : Th z H (.str z) (.str z)
  | says {a : Addr} : H a = some (.tup [.str "says", .str z, .int 1, .int 2]) → Th z H (.ref a) (.tuple [.str "says", .str z, .int 1, .int 2])
  | pair {a l : Addr} : H a = some (.tup [.str z, .ref l]) → H l = some (.lst [.str z]) → Th z H (.ref a) (.tuple [.str z, .list [.str z]])
  | dic {a l : Addr} : H a = some (.dK [(.inr z, .ref l)]) → H l = some (.lst [.str z]) → Th z H (.ref a) (.dict [(.str z, .list [.str z])])
  | one {a : Addr} : H a = some (.lst [.str z]) → Th z H (.ref a) (.list [.str z])
  | two {a l d : Addr} : H a = some (.lst [.ref l, .ref d]) → H l = some (.lst [.str z]) → H d = some (.dK [(.inr "odd", .str z)]) → Th z H (.ref a) (.list [.list [.str z], .dict [(.str "odd", .str z)]])
/-- all that stands there with z in it is kept -/
def Kept (z : Str) (H H' : Hp) : Prop := ∀ b o, H b = some o → ((∃ xs, o = .tup xs) ∨ (∃ kvs, o = .dK kvs) ∨ (∃ xs, o = .lst xs ∧ xs.length ≤ 2)) → H' b = some o
theorem Th.kept {z : Str} {H H' : Hp} {x : V} {d : PyData} (k : Kept z H H') (h : Th z H x d) : Th z H' x d := by
  cases h with
  | non => exact .non
  | bl b => exact .bl b
  | int i h => exact .int i h
  | word => exact .word
  | says h => exact .says (k _ _ h (.inl ⟨_, rfl⟩))
  | pair h1 h2 => exact .pair (k _ _ h1 (.inl ⟨_, rfl⟩)) (k _ _ h2 (.inr (.inr ⟨_, rfl, Nat.le_of_ble_eq_true rfl⟩)))
  | dic h1 h2 => exact .dic (k _ _ h1 (.inr (.inl ⟨_, rfl⟩))) (k _ _ h2 (.inr (.inr ⟨_, rfl, Nat.le_of_ble_eq_true rfl⟩)))
  | one h => exact .one (k _ _ h (.inr (.inr ⟨_, rfl, Nat.le_of_ble_eq_true rfl⟩)))
  | two h1 h2 h3 => exact .two (k _ _ h1 (.inr (.inr ⟨_, rfl, Nat.le_of_ble_eq_true rfl⟩))) (k _ _ h2 (.inr (.inr ⟨_, rfl, Nat.le_of_ble_eq_true rfl⟩))) (k _ _ h3 (.inr (.inl ⟨_, rfl⟩)))
theorem Th.same {z : Str} {H H' : Hp} {x : V} {d : PyData} (k : Same H H') (h : Th z H x d) : Th z H' x d := h.kept fun b o e _ => k b o e
theorem Th.but {z : Str} {H H' : Hp} {x : V} {d : PyData} {p : Addr} {N : Nat} (hp : Purse H p N) (k : But p H H') (h : Th z H x d) : Th z H' x d := h.kept fun b o e g => k b o (fun eb => by
  obtain ⟨A, B, c, i, e2, _⟩ := hp
  rw [eb, e2] at e
  cases e
  rcases g with ⟨xs, g⟩ | ⟨kvs, g⟩ | ⟨xs, g, hl⟩
  · cases g
  · cases g
  · cases g
    exact absurd hl (show ¬ 4 ≤ 2 by decide)) e
theorem Th.sh {z : Str} {H : Hp} {x : V} {d : PyData} (h : Th z H x d) : Sh H x d := by
  cases h with
  | non => exact .non
  | bl b => exact .bl b
  | int i h => exact .int i
  | word => exact .str z
  | says h => exact .tup h (.cons (.str _) (.cons (.str _) (.cons (.int _) (.cons (.int _) .nil))))
  | pair h1 h2 => exact .tup h1 (.cons (.str _) (.cons (.lst h2 (.cons (.str _) .nil)) .nil))
  | dic h1 h2 => exact .dic h1 (.cons (.str _) .nil) (.cons (.lst h2 (.cons (.str _) .nil)) .nil)
  | one h => exact .lst h (.cons (.str _) .nil)
  | two h1 h2 h3 => exact .lst h1 (.cons (.lst h2 (.cons (.str _) .nil)) (.cons (.dic h3 (.cons (.str _) .nil) (.cons (.str _) .nil)) .nil))
/-- what repr asks of a datum -/
structure Good (d : PyData) : Prop where
  sh : d.showable = true
  dep : d.depth ≤ 64
  len : d.shown.length ≤ sizeLine
theorem codes_ok {z : Str} (hz : IsWord z) : z.cps.toList.all (fun c => decide (c < 16 ^ 8)) = true := by
  rw [List.all_eq_true]
  intro c hc
  have := (hz.signs c hc).2
  have e : (16 : Nat) ^ 8 = 4294967296 := by decide
  exact decide_eq_true (by omega)
theorem good_of {d : PyData} (h1 : d.showable = true) (h2 : d.depth ≤ 64) (h3 : d.leavesShort 13 = true) (h4 : d.weight ≤ 2 ^ 20) : Good d := ⟨h1, h2, PyData.shown_fits (B := 13) (by decide) (by decide) h3 h4⟩
end K01
set_option Elab.async false
set_option linter.all false
set_option maxRecDepth 100000
set_option maxHeartbeats 8000000
/-! The three ifs of the law that change the thing. -/
namespace K01
open PySem PySem.Spec PyProof.Rows L2
def tIsi (K : PySem.W.Frag) (te : TE) (T : String) : TT := tB (tCB (rIsi K) (tCons te (tCons (tC (.ty T)) tNil)))
def tApp (K : PySem.W.Frag) (te : TE) : TS := tDrop (tBM K "list" rAppend te (tCons (tC (.str "later")) tNil))
section
variable {z : Str}
theorem lit_ok (y : Str) (h : y.cps.toList.all (fun c => decide (c < 4294967296)) = true) : y.cps.toList.all (fun c => decide (c < 16 ^ 8)) = true := h
theorem z_size (hz : IsWord z) : z.cps.size ≤ 8 := hz.high
theorem good_non : Good .none := good_of rfl (by decide) rfl (by decide)
theorem good_bl (b : Bool) : Good (.bool b) := good_of rfl (by show 0 ≤ 64; decide) rfl (by show 0 ≤ 2 ^ 20; decide)
theorem good_int {i : Int} (h : i.natAbs < 10 ^ 12) : Good (.int i) := by
  have hl : i.natAbs.log2 < 40 := by
    by_cases h0 : i.natAbs = 0
    · rw [h0]
      decide
    · exact (Nat.log2_lt h0).mpr (by omega)
  refine good_of (decide_eq_true (by omega)) (by show 0 ≤ 64; decide) (decide_eq_true (PyData.shown_int_le h)) ?_
  show (if i == 0 then 0 else i.natAbs.log2 + 1) ≤ 2 ^ 20
  have p20 : (2 : Nat) ^ 20 = 1048576 := by decide
  split <;> omega
theorem good_word (hz : IsWord z) : Good (.str z) := by
  have c0 := codes_ok hz
  have w0 := z_size hz
  have c1 : ("says" : Str).cps.toList.all (fun c => decide (c < 16 ^ 8)) = true := by decide +kernel
  have c2 : ("later" : Str).cps.toList.all (fun c => decide (c < 16 ^ 8)) = true := by decide +kernel
  have c3 : ("odd" : Str).cps.toList.all (fun c => decide (c < 16 ^ 8)) = true := by decide +kernel
  have c4 : ("LATER" : Str).cps.toList.all (fun c => decide (c < 16 ^ 8)) = true := by decide +kernel
  have w1 : ("says" : Str).cps.size = 4 := by decide +kernel
  have w2 : ("later" : Str).cps.size = 5 := by decide +kernel
  have w3 : ("odd" : Str).cps.size = 3 := by decide +kernel
  have w4 : ("LATER" : Str).cps.size = 5 := by decide +kernel
  have i1 : ((PyData.shown (.int 1)).length ≤ 13) := by decide +kernel
  have i2 : ((PyData.shown (.int 2)).length ≤ 13) := by decide +kernel
  have j1 : (1 : Int).natAbs.log2 = 0 := by decide +kernel
  have j2 : (2 : Int).natAbs.log2 = 1 := by decide +kernel
  have p20 : (2 : Nat) ^ 20 = 1048576 := by decide
  refine good_of ?_ ?_ ?_ ?_
  · simp only [PyData.showable, PyData.showableAll, PyData.showableKv, j1, j2, Bool.and_true, Bool.true_and, decide_eq_true_eq]
    try decide
  · simp only [PyData.depth, PyData.depthAll, PyData.depthKv]
    try decide
  · simp only [PyData.leavesShort, PyData.leavesShortAll, PyData.leavesShortKv, c0, c1, c2, c3, c4, i1, i2, decide_true, Bool.and_self]
  · simp only [PyData.weight, PyData.weightAll, PyData.weightKv, w1, w2, w3, w4, j1, j2]
    try simp only [beq_iff_eq, if_neg, p20]
    try simp
    try omega
theorem good_says (hz : IsWord z) : Good (.tuple [.str "says", .str z, .int 1, .int 2]) := by
  have c0 := codes_ok hz
  have w0 := z_size hz
  have c1 : ("says" : Str).cps.toList.all (fun c => decide (c < 16 ^ 8)) = true := by decide +kernel
  have c2 : ("later" : Str).cps.toList.all (fun c => decide (c < 16 ^ 8)) = true := by decide +kernel
  have c3 : ("odd" : Str).cps.toList.all (fun c => decide (c < 16 ^ 8)) = true := by decide +kernel
  have c4 : ("LATER" : Str).cps.toList.all (fun c => decide (c < 16 ^ 8)) = true := by decide +kernel
  have w1 : ("says" : Str).cps.size = 4 := by decide +kernel
  have w2 : ("later" : Str).cps.size = 5 := by decide +kernel
  have w3 : ("odd" : Str).cps.size = 3 := by decide +kernel
  have w4 : ("LATER" : Str).cps.size = 5 := by decide +kernel
  have i1 : ((PyData.shown (.int 1)).length ≤ 13) := by decide +kernel
  have i2 : ((PyData.shown (.int 2)).length ≤ 13) := by decide +kernel
  have j1 : (1 : Int).natAbs.log2 = 0 := by decide +kernel
  have j2 : (2 : Int).natAbs.log2 = 1 := by decide +kernel
  have p20 : (2 : Nat) ^ 20 = 1048576 := by decide
  refine good_of ?_ ?_ ?_ ?_
  · simp only [PyData.showable, PyData.showableAll, PyData.showableKv, j1, j2, Bool.and_true, Bool.true_and, decide_eq_true_eq]
    try decide
  · simp only [PyData.depth, PyData.depthAll, PyData.depthKv]
    try decide
  · simp only [PyData.leavesShort, PyData.leavesShortAll, PyData.leavesShortKv, c0, c1, c2, c3, c4, i1, i2, decide_true, Bool.and_self]
  · simp only [PyData.weight, PyData.weightAll, PyData.weightKv, w1, w2, w3, w4, j1, j2]
    try simp only [beq_iff_eq, if_neg, p20]
    try simp
    try omega
theorem good_pair (hz : IsWord z) : Good (.tuple [.str z, .list [.str z]]) := by
  have c0 := codes_ok hz
  have w0 := z_size hz
  have c1 : ("says" : Str).cps.toList.all (fun c => decide (c < 16 ^ 8)) = true := by decide +kernel
  have c2 : ("later" : Str).cps.toList.all (fun c => decide (c < 16 ^ 8)) = true := by decide +kernel
  have c3 : ("odd" : Str).cps.toList.all (fun c => decide (c < 16 ^ 8)) = true := by decide +kernel
  have c4 : ("LATER" : Str).cps.toList.all (fun c => decide (c < 16 ^ 8)) = true := by decide +kernel
  have w1 : ("says" : Str).cps.size = 4 := by decide +kernel
  have w2 : ("later" : Str).cps.size = 5 := by decide +kernel
  have w3 : ("odd" : Str).cps.size = 3 := by decide +kernel
  have w4 : ("LATER" : Str).cps.size = 5 := by decide +kernel
  have i1 : ((PyData.shown (.int 1)).length ≤ 13) := by decide +kernel
  have i2 : ((PyData.shown (.int 2)).length ≤ 13) := by decide +kernel
  have j1 : (1 : Int).natAbs.log2 = 0 := by decide +kernel
  have j2 : (2 : Int).natAbs.log2 = 1 := by decide +kernel
  have p20 : (2 : Nat) ^ 20 = 1048576 := by decide
  refine good_of ?_ ?_ ?_ ?_
  · simp only [PyData.showable, PyData.showableAll, PyData.showableKv, j1, j2, Bool.and_true, Bool.true_and, decide_eq_true_eq]
    try decide
  · simp only [PyData.depth, PyData.depthAll, PyData.depthKv]
    try decide
  · simp only [PyData.leavesShort, PyData.leavesShortAll, PyData.leavesShortKv, c0, c1, c2, c3, c4, i1, i2, decide_true, Bool.and_self]
  · simp only [PyData.weight, PyData.weightAll, PyData.weightKv, w1, w2, w3, w4, j1, j2]
    try simp only [beq_iff_eq, if_neg, p20]
    try simp
    try omega
theorem good_dic (hz : IsWord z) : Good (.dict [(.str z, .list [.str z])]) := by
  have c0 := codes_ok hz
  have w0 := z_size hz
  have c1 : ("says" : Str).cps.toList.all (fun c => decide (c < 16 ^ 8)) = true := by decide +kernel
  have c2 : ("later" : Str).cps.toList.all (fun c => decide (c < 16 ^ 8)) = true := by decide +kernel
  have c3 : ("odd" : Str).cps.toList.all (fun c => decide (c < 16 ^ 8)) = true := by decide +kernel
  have c4 : ("LATER" : Str).cps.toList.all (fun c => decide (c < 16 ^ 8)) = true := by decide +kernel
  have w1 : ("says" : Str).cps.size = 4 := by decide +kernel
  have w2 : ("later" : Str).cps.size = 5 := by decide +kernel
  have w3 : ("odd" : Str).cps.size = 3 := by decide +kernel
  have w4 : ("LATER" : Str).cps.size = 5 := by decide +kernel
  have i1 : ((PyData.shown (.int 1)).length ≤ 13) := by decide +kernel
  have i2 : ((PyData.shown (.int 2)).length ≤ 13) := by decide +kernel
  have j1 : (1 : Int).natAbs.log2 = 0 := by decide +kernel
  have j2 : (2 : Int).natAbs.log2 = 1 := by decide +kernel
  have p20 : (2 : Nat) ^ 20 = 1048576 := by decide
  refine good_of ?_ ?_ ?_ ?_
  · simp only [PyData.showable, PyData.showableAll, PyData.showableKv, j1, j2, Bool.and_true, Bool.true_and, decide_eq_true_eq]
    try decide
  · simp only [PyData.depth, PyData.depthAll, PyData.depthKv]
    try decide
  · simp only [PyData.leavesShort, PyData.leavesShortAll, PyData.leavesShortKv, c0, c1, c2, c3, c4, i1, i2, decide_true, Bool.and_self]
  · simp only [PyData.weight, PyData.weightAll, PyData.weightKv, w1, w2, w3, w4, j1, j2]
    try simp only [beq_iff_eq, if_neg, p20]
    try simp
    try omega
theorem good_one (hz : IsWord z) : Good (.list [.str z]) := by
  have c0 := codes_ok hz
  have w0 := z_size hz
  have c1 : ("says" : Str).cps.toList.all (fun c => decide (c < 16 ^ 8)) = true := by decide +kernel
  have c2 : ("later" : Str).cps.toList.all (fun c => decide (c < 16 ^ 8)) = true := by decide +kernel
  have c3 : ("odd" : Str).cps.toList.all (fun c => decide (c < 16 ^ 8)) = true := by decide +kernel
  have c4 : ("LATER" : Str).cps.toList.all (fun c => decide (c < 16 ^ 8)) = true := by decide +kernel
  have w1 : ("says" : Str).cps.size = 4 := by decide +kernel
  have w2 : ("later" : Str).cps.size = 5 := by decide +kernel
  have w3 : ("odd" : Str).cps.size = 3 := by decide +kernel
  have w4 : ("LATER" : Str).cps.size = 5 := by decide +kernel
  have i1 : ((PyData.shown (.int 1)).length ≤ 13) := by decide +kernel
  have i2 : ((PyData.shown (.int 2)).length ≤ 13) := by decide +kernel
  have j1 : (1 : Int).natAbs.log2 = 0 := by decide +kernel
  have j2 : (2 : Int).natAbs.log2 = 1 := by decide +kernel
  have p20 : (2 : Nat) ^ 20 = 1048576 := by decide
  refine good_of ?_ ?_ ?_ ?_
  · simp only [PyData.showable, PyData.showableAll, PyData.showableKv, j1, j2, Bool.and_true, Bool.true_and, decide_eq_true_eq]
    try decide
  · simp only [PyData.depth, PyData.depthAll, PyData.depthKv]
    try decide
  · simp only [PyData.leavesShort, PyData.leavesShortAll, PyData.leavesShortKv, c0, c1, c2, c3, c4, i1, i2, decide_true, Bool.and_self]
  · simp only [PyData.weight, PyData.weightAll, PyData.weightKv, w1, w2, w3, w4, j1, j2]
    try simp only [beq_iff_eq, if_neg, p20]
    try simp
    try omega
theorem good_two (hz : IsWord z) : Good (.list [.list [.str z], .dict [(.str "odd", .str z)]]) := by
  have c0 := codes_ok hz
  have w0 := z_size hz
  have c1 : ("says" : Str).cps.toList.all (fun c => decide (c < 16 ^ 8)) = true := by decide +kernel
  have c2 : ("later" : Str).cps.toList.all (fun c => decide (c < 16 ^ 8)) = true := by decide +kernel
  have c3 : ("odd" : Str).cps.toList.all (fun c => decide (c < 16 ^ 8)) = true := by decide +kernel
  have c4 : ("LATER" : Str).cps.toList.all (fun c => decide (c < 16 ^ 8)) = true := by decide +kernel
  have w1 : ("says" : Str).cps.size = 4 := by decide +kernel
  have w2 : ("later" : Str).cps.size = 5 := by decide +kernel
  have w3 : ("odd" : Str).cps.size = 3 := by decide +kernel
  have w4 : ("LATER" : Str).cps.size = 5 := by decide +kernel
  have i1 : ((PyData.shown (.int 1)).length ≤ 13) := by decide +kernel
  have i2 : ((PyData.shown (.int 2)).length ≤ 13) := by decide +kernel
  have j1 : (1 : Int).natAbs.log2 = 0 := by decide +kernel
  have j2 : (2 : Int).natAbs.log2 = 1 := by decide +kernel
  have p20 : (2 : Nat) ^ 20 = 1048576 := by decide
  refine good_of ?_ ?_ ?_ ?_
  · simp only [PyData.showable, PyData.showableAll, PyData.showableKv, j1, j2, Bool.and_true, Bool.true_and, decide_eq_true_eq]
    try decide
  · simp only [PyData.depth, PyData.depthAll, PyData.depthKv]
    try decide
  · simp only [PyData.leavesShort, PyData.leavesShortAll, PyData.leavesShortKv, c0, c1, c2, c3, c4, i1, i2, decide_true, Bool.and_self]
  · simp only [PyData.weight, PyData.weightAll, PyData.weightKv, w1, w2, w3, w4, j1, j2]
    try simp only [beq_iff_eq, if_neg, p20]
    try simp
    try omega
theorem good_later (hz : IsWord z) : Good (.tuple [.str "later", .str z]) := by
  have c0 := codes_ok hz
  have w0 := z_size hz
  have c1 : ("says" : Str).cps.toList.all (fun c => decide (c < 16 ^ 8)) = true := by decide +kernel
  have c2 : ("later" : Str).cps.toList.all (fun c => decide (c < 16 ^ 8)) = true := by decide +kernel
  have c3 : ("odd" : Str).cps.toList.all (fun c => decide (c < 16 ^ 8)) = true := by decide +kernel
  have c4 : ("LATER" : Str).cps.toList.all (fun c => decide (c < 16 ^ 8)) = true := by decide +kernel
  have w1 : ("says" : Str).cps.size = 4 := by decide +kernel
  have w2 : ("later" : Str).cps.size = 5 := by decide +kernel
  have w3 : ("odd" : Str).cps.size = 3 := by decide +kernel
  have w4 : ("LATER" : Str).cps.size = 5 := by decide +kernel
  have i1 : ((PyData.shown (.int 1)).length ≤ 13) := by decide +kernel
  have i2 : ((PyData.shown (.int 2)).length ≤ 13) := by decide +kernel
  have j1 : (1 : Int).natAbs.log2 = 0 := by decide +kernel
  have j2 : (2 : Int).natAbs.log2 = 1 := by decide +kernel
  have p20 : (2 : Nat) ^ 20 = 1048576 := by decide
  refine good_of ?_ ?_ ?_ ?_
  · simp only [PyData.showable, PyData.showableAll, PyData.showableKv, j1, j2, Bool.and_true, Bool.true_and, decide_eq_true_eq]
    try decide
  · simp only [PyData.depth, PyData.depthAll, PyData.depthKv]
    try decide
  · simp only [PyData.leavesShort, PyData.leavesShortAll, PyData.leavesShortKv, c0, c1, c2, c3, c4, i1, i2, decide_true, Bool.and_self]
  · simp only [PyData.weight, PyData.weightAll, PyData.weightKv, w1, w2, w3, w4, j1, j2]
    try simp only [beq_iff_eq, if_neg, p20]
    try simp
    try omega
theorem good_pair2 (hz : IsWord z) : Good (.tuple [.str z, .list [.str z, .str "later"]]) := by
  have c0 := codes_ok hz
  have w0 := z_size hz
  have c1 : ("says" : Str).cps.toList.all (fun c => decide (c < 16 ^ 8)) = true := by decide +kernel
  have c2 : ("later" : Str).cps.toList.all (fun c => decide (c < 16 ^ 8)) = true := by decide +kernel
  have c3 : ("odd" : Str).cps.toList.all (fun c => decide (c < 16 ^ 8)) = true := by decide +kernel
  have c4 : ("LATER" : Str).cps.toList.all (fun c => decide (c < 16 ^ 8)) = true := by decide +kernel
  have w1 : ("says" : Str).cps.size = 4 := by decide +kernel
  have w2 : ("later" : Str).cps.size = 5 := by decide +kernel
  have w3 : ("odd" : Str).cps.size = 3 := by decide +kernel
  have w4 : ("LATER" : Str).cps.size = 5 := by decide +kernel
  have i1 : ((PyData.shown (.int 1)).length ≤ 13) := by decide +kernel
  have i2 : ((PyData.shown (.int 2)).length ≤ 13) := by decide +kernel
  have j1 : (1 : Int).natAbs.log2 = 0 := by decide +kernel
  have j2 : (2 : Int).natAbs.log2 = 1 := by decide +kernel
  have p20 : (2 : Nat) ^ 20 = 1048576 := by decide
  refine good_of ?_ ?_ ?_ ?_
  · simp only [PyData.showable, PyData.showableAll, PyData.showableKv, j1, j2, Bool.and_true, Bool.true_and, decide_eq_true_eq]
    try decide
  · simp only [PyData.depth, PyData.depthAll, PyData.depthKv]
    try decide
  · simp only [PyData.leavesShort, PyData.leavesShortAll, PyData.leavesShortKv, c0, c1, c2, c3, c4, i1, i2, decide_true, Bool.and_self]
  · simp only [PyData.weight, PyData.weightAll, PyData.weightKv, w1, w2, w3, w4, j1, j2]
    try simp only [beq_iff_eq, if_neg, p20]
    try simp
    try omega
theorem good_dic2 (hz : IsWord z) : Good (.dict [(.str z, .list [.str z, .str "later"]), (.str "LATER", .int 1)]) := by
  have c0 := codes_ok hz
  have w0 := z_size hz
  have c1 : ("says" : Str).cps.toList.all (fun c => decide (c < 16 ^ 8)) = true := by decide +kernel
  have c2 : ("later" : Str).cps.toList.all (fun c => decide (c < 16 ^ 8)) = true := by decide +kernel
  have c3 : ("odd" : Str).cps.toList.all (fun c => decide (c < 16 ^ 8)) = true := by decide +kernel
  have c4 : ("LATER" : Str).cps.toList.all (fun c => decide (c < 16 ^ 8)) = true := by decide +kernel
  have w1 : ("says" : Str).cps.size = 4 := by decide +kernel
  have w2 : ("later" : Str).cps.size = 5 := by decide +kernel
  have w3 : ("odd" : Str).cps.size = 3 := by decide +kernel
  have w4 : ("LATER" : Str).cps.size = 5 := by decide +kernel
  have i1 : ((PyData.shown (.int 1)).length ≤ 13) := by decide +kernel
  have i2 : ((PyData.shown (.int 2)).length ≤ 13) := by decide +kernel
  have j1 : (1 : Int).natAbs.log2 = 0 := by decide +kernel
  have j2 : (2 : Int).natAbs.log2 = 1 := by decide +kernel
  have p20 : (2 : Nat) ^ 20 = 1048576 := by decide
  refine good_of ?_ ?_ ?_ ?_
  · simp only [PyData.showable, PyData.showableAll, PyData.showableKv, j1, j2, Bool.and_true, Bool.true_and, decide_eq_true_eq]
    try decide
  · simp only [PyData.depth, PyData.depthAll, PyData.depthKv]
    try decide
  · simp only [PyData.leavesShort, PyData.leavesShortAll, PyData.leavesShortKv, c0, c1, c2, c3, c4, i1, i2, decide_true, Bool.and_self]
  · simp only [PyData.weight, PyData.weightAll, PyData.weightKv, w1, w2, w3, w4, j1, j2]
    try simp only [beq_iff_eq, if_neg, p20]
    try simp
    try omega
theorem good_one2 (hz : IsWord z) : Good (.list [.str z, .str "later"]) := by
  have c0 := codes_ok hz
  have w0 := z_size hz
  have c1 : ("says" : Str).cps.toList.all (fun c => decide (c < 16 ^ 8)) = true := by decide +kernel
  have c2 : ("later" : Str).cps.toList.all (fun c => decide (c < 16 ^ 8)) = true := by decide +kernel
  have c3 : ("odd" : Str).cps.toList.all (fun c => decide (c < 16 ^ 8)) = true := by decide +kernel
  have c4 : ("LATER" : Str).cps.toList.all (fun c => decide (c < 16 ^ 8)) = true := by decide +kernel
  have w1 : ("says" : Str).cps.size = 4 := by decide +kernel
  have w2 : ("later" : Str).cps.size = 5 := by decide +kernel
  have w3 : ("odd" : Str).cps.size = 3 := by decide +kernel
  have w4 : ("LATER" : Str).cps.size = 5 := by decide +kernel
  have i1 : ((PyData.shown (.int 1)).length ≤ 13) := by decide +kernel
  have i2 : ((PyData.shown (.int 2)).length ≤ 13) := by decide +kernel
  have j1 : (1 : Int).natAbs.log2 = 0 := by decide +kernel
  have j2 : (2 : Int).natAbs.log2 = 1 := by decide +kernel
  have p20 : (2 : Nat) ^ 20 = 1048576 := by decide
  refine good_of ?_ ?_ ?_ ?_
  · simp only [PyData.showable, PyData.showableAll, PyData.showableKv, j1, j2, Bool.and_true, Bool.true_and, decide_eq_true_eq]
    try decide
  · simp only [PyData.depth, PyData.depthAll, PyData.depthKv]
    try decide
  · simp only [PyData.leavesShort, PyData.leavesShortAll, PyData.leavesShortKv, c0, c1, c2, c3, c4, i1, i2, decide_true, Bool.and_self]
  · simp only [PyData.weight, PyData.weightAll, PyData.weightKv, w1, w2, w3, w4, j1, j2]
    try simp only [beq_iff_eq, if_neg, p20]
    try simp
    try omega
theorem good_two2 (hz : IsWord z) : Good (.list [.list [.str z], .dict [(.str "odd", .str z)], .str "later"]) := by
  have c0 := codes_ok hz
  have w0 := z_size hz
  have c1 : ("says" : Str).cps.toList.all (fun c => decide (c < 16 ^ 8)) = true := by decide +kernel
  have c2 : ("later" : Str).cps.toList.all (fun c => decide (c < 16 ^ 8)) = true := by decide +kernel
  have c3 : ("odd" : Str).cps.toList.all (fun c => decide (c < 16 ^ 8)) = true := by decide +kernel
  have c4 : ("LATER" : Str).cps.toList.all (fun c => decide (c < 16 ^ 8)) = true := by decide +kernel
  have w1 : ("says" : Str).cps.size = 4 := by decide +kernel
  have w2 : ("later" : Str).cps.size = 5 := by decide +kernel
  have w3 : ("odd" : Str).cps.size = 3 := by decide +kernel
  have w4 : ("LATER" : Str).cps.size = 5 := by decide +kernel
  have i1 : ((PyData.shown (.int 1)).length ≤ 13) := by decide +kernel
  have i2 : ((PyData.shown (.int 2)).length ≤ 13) := by decide +kernel
  have j1 : (1 : Int).natAbs.log2 = 0 := by decide +kernel
  have j2 : (2 : Int).natAbs.log2 = 1 := by decide +kernel
  have p20 : (2 : Nat) ^ 20 = 1048576 := by decide
  refine good_of ?_ ?_ ?_ ?_
  · simp only [PyData.showable, PyData.showableAll, PyData.showableKv, j1, j2, Bool.and_true, Bool.true_and, decide_eq_true_eq]
    try decide
  · simp only [PyData.depth, PyData.depthAll, PyData.depthKv]
    try decide
  · simp only [PyData.leavesShort, PyData.leavesShortAll, PyData.leavesShortKv, c0, c1, c2, c3, c4, i1, i2, decide_true, Bool.and_self]
  · simp only [PyData.weight, PyData.weightAll, PyData.weightKv, w1, w2, w3, w4, j1, j2]
    try simp only [beq_iff_eq, if_neg, p20]
    try simp
    try omega
theorem Th.good {H : Hp} {x : V} {d : PyData} (hz : IsWord z) (h : Th z H x d) : Good d := by
  cases h with
  | non => exact good_non
  | bl b => exact good_bl b
  | int i h => exact good_int h
  | word => exact good_word hz
  | says h => exact good_says hz
  | pair h1 h2 => exact good_pair hz
  | dic h1 h2 => exact good_dic hz
  | one h => exact good_one hz
  | two h1 h2 h3 => exact good_two hz
end
/-- all but dicts and short lists stands -/
def Mild (H H' : Hp) : Prop := ∀ b o, H b = some o → (∀ kvs, o ≠ .dK kvs) → (∀ xs, o = .lst xs → 3 ≤ xs.length ∨ ∃ p, xs = [.ref p]) → H' b = some o
theorem Mild.refl (H : Hp) : Mild H H := fun _ _ e _ _ => e
theorem Mild.trans {H H1 H2 : Hp} (a : Mild H H1) (b : Mild H1 H2) : Mild H H2 := fun x o e h1 h2 => b x o (a x o e h1 h2) h1 h2
theorem Mild.lst {H : Hp} {a : Addr} {xs : List V} {o' : HO} (h : H a = some (.lst xs)) (hl : xs.length ≤ 2) (hn : ∀ p, xs ≠ [.ref p]) : Mild H (upd H a o') := fun b o e _ h2 => by
  by_cases eb : b = a
  · rw [eb, h] at e
    cases e
    rcases h2 _ rfl with g | ⟨p, g⟩
    · omega
    · exact absurd g (hn p)
  · rw [upd_ne eb]
    exact e
theorem Mild.dK {H : Hp} {a : Addr} {kvs : List (Key × V)} {o' : HO} (h : H a = some (.dK kvs)) : Mild H (upd H a o') := fun b o e h1 _ => by
  by_cases eb : b = a
  · rw [eb, h] at e
    cases e
    exact absurd rfl (h1 _)
  · rw [upd_ne eb]
    exact e
section
variable {K : PySem.W.Frag} {D : Ends} {σ : L2.St} {H : Hp} {x : V} {t T : String} {A : TS} {u : TT}
theorem skip4 (h4 : σ[4]? = some (some x)) (ty : TyX K H x (.type t)) (hk : kitB t T = some false) (k : D.nx σ H) : tIfS (tIsi K (tVar 4) T) A tNext D σ H :=
  ⟨_, h4, x, .ty T, .type t, .type T, false, rfl, .ty T, ty, kit_ty hk, false, rfl, iteF k⟩
theorem take4 (h4 : σ[4]? = some (some x)) (ty : TyX K H x (.type t)) (hk : kitB t T = some true) (k : A D σ H) : tIfS (tIsi K (tVar 4) T) A tNext D σ H :=
  ⟨_, h4, x, .ty T, .type t, .type T, true, rfl, .ty T, ty, kit_ty hk, true, rfl, iteT k⟩
theorem skipA (h4 : σ[4]? = some (some x)) (ty : TyX K H x (.type t)) (hk : kitB t T = some false) (k : D.nx σ H) : tIfS (tAnd (tIsi K (tVar 4) T) u) A tNext D σ H :=
  ⟨_, h4, x, .ty T, .type t, .type T, false, rfl, .ty T, ty, kit_ty hk, false, rfl, iteF (iteF k)⟩
abbrev ifTup (K : PySem.W.Frag) : TS := tIfS (tAnd (tIsi K (tVar 4) "tuple") (tIsi K (tOp (rIxT K) (tVar 4) (tC (.int 1))) "list")) (tApp K (tOp (rIxT K) (tVar 4) (tC (.int 1)))) tNext
abbrev ifDic (K : PySem.W.Frag) : TS := tIfS (tIsi K (tVar 4) "dict") (tSeq (tApp K (tDGet (tVar 4) (tVar 2))) (sDPut (tVar 4) (tC (.str "LATER")) (tC (.int 1)))) tNext
abbrev ifLst (K : PySem.W.Frag) : TS := tIfS (tIsi K (tVar 4) "list") (tApp K (tVar 4)) tNext
/-- a flat thing: nothing is changed -/
theorem flat {rest : TS} (h4 : σ[4]? = some (some x)) (ty : TyX K H x (.type t)) (k1 : kitB t "list" = some false) (k2 : kitB t "dict" = some false) (k3 : kitB t "tuple" = some false) (k : rest D σ H) :
    tSeq (ifLst K) (tSeq (ifDic K) (tSeq (ifTup K) rest)) D σ H := skip4 h4 ty k1 (skip4 h4 ty k2 (skipA h4 ty k3 k))
theorem z_later {z : Str} (hz : IsWord z) : ¬ (Sum.inr z : Key) = .inr "LATER" := fun e => by
  have e2 : z = "LATER" := Sum.inr.inj e
  have := (hz.signs 76 (by rw [e2]; decide +kernel)).1
  omega
theorem turned {rest : TS} {z : Str} {d : PyData} (hz : IsWord z) (h2 : σ[2]? = some (some (.str z))) (h4 : σ[4]? = some (some x)) (h : Th z H x d)
    (k : ∀ d' H', Mild H H' → Sh H' x d' → Good d' → rest D σ H') : tSeq (ifLst K) (tSeq (ifDic K) (tSeq (ifTup K) rest)) D σ H := by
  cases h with
  | non => exact flat h4 (.base .non) (by decide +kernel) (by decide +kernel) (by decide +kernel) (k _ H (Mild.refl H) .non good_non)
  | bl b => exact flat h4 (.base (.bl b)) (by decide +kernel) (by decide +kernel) (by decide +kernel) (k _ H (Mild.refl H) (.bl b) (good_bl b))
  | int i h => exact flat h4 (.base (.int i)) (by decide +kernel) (by decide +kernel) (by decide +kernel) (k _ H (Mild.refl H) (.int i) (good_int h))
  | word => exact flat h4 (.base (.str z)) (by decide +kernel) (by decide +kernel) (by decide +kernel) (k _ H (Mild.refl H) (.str z) (good_word hz))
  | @says a h =>
    have ty : TyX K H (.ref a) (.type "tuple") := .base (.tup h)
    refine skip4 h4 ty (by decide +kernel) (skip4 h4 ty (by decide +kernel) ?_)
    refine ⟨_, h4, .ref a, .ty "tuple", .type "tuple", .type "tuple", true, rfl, .ty _, ty, kit_ty (by decide +kernel), true, rfl, iteT ?_⟩
    refine ⟨_, h4, a, _, 1, .str z, rfl, rfl, SqT.of h, rfl, ?_⟩
    refine ⟨.str z, .ty "list", .type "str", .type "list", false, rfl, .ty _, .base (.str z), kit_ty (by decide +kernel), false, rfl, iteF ?_⟩
    exact k _ H (Mild.refl H) (Th.sh (Th.says h)) (good_says hz)
  | @pair a l h1 h3 =>
    have ty : TyX K H (.ref a) (.type "tuple") := .base (.tup h1)
    have ne : a ≠ l := fun e => by
      rw [e, h3] at h1
      cases h1
    refine skip4 h4 ty (by decide +kernel) (skip4 h4 ty (by decide +kernel) ?_)
    refine ⟨_, h4, .ref a, .ty "tuple", .type "tuple", .type "tuple", true, rfl, .ty _, ty, kit_ty (by decide +kernel), true, rfl, iteT ?_⟩
    refine ⟨_, h4, a, _, 1, .ref l, rfl, rfl, SqT.of h1, rfl, ?_⟩
    refine ⟨.ref l, .ty "list", .type "list", .type "list", true, rfl, .ty _, .base (.lst h3), kit_ty (by decide +kernel), true, rfl, iteT ?_⟩
    refine ⟨_, h4, a, _, 1, .ref l, rfl, rfl, SqT.of h1, rfl, Or.inl ⟨rfl, _, SqL.of h3⟩, l, [.str z], .str "later", rfl, rfl, h3, (by show 1 < sizeLine; decide), ?_⟩
    refine k (.tuple [.str z, .list [.str z, .str "later"]]) _ (Mild.lst h3 (Nat.le_of_ble_eq_true rfl) (fun _ e => by cases e)) ?_ (good_pair2 hz)
    exact .tup (by rw [upd_ne ne]; exact h1) (.cons (.str _) (.cons (.lst upd_same (.cons (.str _) (.cons (.str _) .nil))) .nil))
  | @dic a l h1 h3 =>
    have ty : TyX K H (.ref a) (.type "dict") := .base (.dK h1)
    have ne : a ≠ l := fun e => by
      rw [e, h3] at h1
      cases h1
    refine skip4 h4 ty (by decide +kernel) (take4 h4 ty (by decide +kernel) ?_)
    have g : DGet H a (.str z) (some (.ref l)) := by
      have := DGet.k (k := .inr z) h1
      rw [valV_pos rfl] at this
      exact this
    have e1 : (upd H l (.lst ([.str z] ++ [.str "later"]))) a = some (.dK [(.inr z, .ref l)]) := by
      rw [upd_ne ne]
      exact h1
    refine ⟨_, h4, _, h2, a, .ref l, rfl, g, Or.inl ⟨rfl, _, SqL.of h3⟩, l, [.str z], .str "later", rfl, rfl, h3, (by show 1 < sizeLine; decide), ?_⟩
    refine ⟨_, h4, a, _, rfl, DPut.k (k := .inr "LATER") e1 (by show 1 < sizeLine; decide), ?_⟩
    rw [putK_new _ (by rw [valV_neg (z_later hz)]; rfl)]
    have ty2 : TyX K (upd (upd H l (.lst ([.str z] ++ [.str "later"]))) a (.dK ([(.inr z, .ref l)] ++ [(.inr "LATER", .int 1)]))) (.ref a) (.type "dict") := .base (.dK upd_same)
    refine skipA h4 ty2 (by decide +kernel) ?_
    refine k (.dict [(.str z, .list [.str z, .str "later"]), (.str "LATER", .int 1)]) _ ((Mild.lst h3 (Nat.le_of_ble_eq_true rfl) (fun _ e => by cases e)).trans (Mild.dK e1)) ?_ (good_dic2 hz)
    refine .dic upd_same (.cons (.str _) (.cons (.str _) .nil)) (.cons (.lst ?_ (.cons (.str _) (.cons (.str _) .nil))) (.cons (.int _) .nil))
    rw [upd_ne (Ne.symm ne)]
    exact upd_same
  | @one a h1 =>
    refine take4 h4 (.base (.lst h1)) (by decide +kernel) ?_
    refine ⟨_, h4, Or.inl ⟨rfl, _, SqL.of h1⟩, a, [.str z], .str "later", rfl, rfl, h1, (by show 1 < sizeLine; decide), ?_⟩
    have ty2 : TyX K (upd H a (.lst ([.str z] ++ [.str "later"]))) (.ref a) (.type "list") := .base (.lst upd_same)
    refine skip4 h4 ty2 (by decide +kernel) (skipA h4 ty2 (by decide +kernel) ?_)
    exact k (.list [.str z, .str "later"]) _ (Mild.lst h1 (Nat.le_of_ble_eq_true rfl) (fun _ e => by cases e)) (.lst upd_same (.cons (.str _) (.cons (.str _) .nil))) (good_one2 hz)
  | @two a l dd h1 h3 h5 =>
    have n1 : l ≠ a := fun e => by
      rw [e, h1] at h3
      cases h3
    have n2 : dd ≠ a := fun e => by
      rw [e, h1] at h5
      cases h5
    refine take4 h4 (.base (.lst h1)) (by decide +kernel) ?_
    refine ⟨_, h4, Or.inl ⟨rfl, _, SqL.of h1⟩, a, [.ref l, .ref dd], .str "later", rfl, rfl, h1, (by show 2 < sizeLine; decide), ?_⟩
    have ty2 : TyX K (upd H a (.lst ([.ref l, .ref dd] ++ [.str "later"]))) (.ref a) (.type "list") := .base (.lst upd_same)
    refine skip4 h4 ty2 (by decide +kernel) (skipA h4 ty2 (by decide +kernel) ?_)
    refine k (.list [.list [.str z], .dict [(.str "odd", .str z)], .str "later"]) _ (Mild.lst h1 (Nat.le_of_ble_eq_true rfl) (fun _ e => by cases e)) ?_ (good_two2 hz)
    refine .lst upd_same (.cons (.lst ?_ (.cons (.str _) .nil)) (.cons (.dic (kvs := [(.inr "odd", .str z)]) ?_ (.cons (.str _) .nil) (.cons (.str _) .nil)) (.cons (.str _) .nil)))
    · rw [upd_ne n1]
      exact h3
    · rw [upd_ne n2]
      exact h5
end
end K01
set_option Elab.async false
set_option linter.all false
set_option maxRecDepth 100000
set_option maxHeartbeats 8000000
/-! The law. -/
namespace K01
open PySem PySem.Spec PyProof.Rows L2
abbrev sLaw : Stmt := top 56
def spLaw (K : PySem.W.Frag) : Sp := fun vs H Q _ => ∃ (a : Addr) (ns : List Int), vs = [.ref a] ∧ SqL K H a (ns.map V.int) ∧ ∀ H', Q (.bl true) H'
abbrev NL : List Str := ["_law_script", "_law_purse_here", "_law_word_here", "_law_plain", "_law_thing", "_law_noted", "_law_some", "_law_called_here", "_law_later"]
theorem scLaw : FnScope NL ["_law_script"] (defScope sLaw) := ⟨rfl, rfl, rfl, by decide +kernel, rfl, by decide +kernel, by decide +kernel⟩
theorem Same.dict {H H1 : Hp} {d : Addr} {o0 o : HO} (h : H d = none) (k : Same (L2.upd H d o0) H1) : Same H (L2.upd H1 d o) := fun b u e => by
  have ne := ne_of_none e h
  rw [upd_ne ne]
  exact k b u (by rw [upd_ne ne]; exact e)
theorem Mild.errs {H H' : Hp} {v : V} {Cs : List Addr} {xs : List V} (k : Mild H H') (h : Errs H v Cs xs) : Errs H' v Cs xs := Paired.mapP h fun C x ⟨e, d, e1, e2, e3⟩ =>
  ⟨e, d, e1, k _ _ e2 (fun _ z => by cases z) (fun _ z => by cases z), k _ _ e3 (fun _ z => by cases z) (fun _ z => by cases z)⟩
section
variable {P : Program} {w : World} {K : PySem.W.Frag} {mg : Str → Option Value} {base : Heap} {f : Addr} {fd : FuncData}
variable {aPs aW aO aF aC aB aR aI aK iS : Addr} {dPs dW dO dF dC dB dR dI dK dSt : FuncData}
theorem ok_law (F : FnP K "law" sLaw f fd) (Z : Free mg) (hK : SysK K)
    (gPs : mg "_law_purses" = some (.ref aPs)) (FPs : FnP K "_law_purses" sPurses aPs dPs) (GPs : FnOk P w K mg base CX0 2 aPs dPs ["_law_script", "_law_few"] (spPurses K))
    (gW : mg "_law_word" = some (.ref aW)) (FW : FnP K "_law_word" sWord aW dW) (GW : FnOk P w K mg base CX0 3 aW dW ["_law_purse_here"] spWord)
    (gO : mg "_law_one_of" = some (.ref aO)) (FO : FnP K "_law_one_of" sOne aO dO) (GO : FnOk P w K mg base CX0 3 aO dO ["_law_purse_here", "_law_some"] (spOne K))
    (gF : mg "_law_first" = some (.ref aF)) (FF : FnP K "_law_first" sFirst aF dF) (GF : FnOk P w K mg base CX0 3 aF dF ["_law_thing"] (spFirst K))
    (gC : mg "_law_called" = some (.ref aC)) (FC : FnP K "_law_called" sCalled aC dC) (GC : FnOk P w K mg base CX0 3 aC dC ["_law_thing"] (spFirst K))
    (gB : mg "_law_bare" = some (.ref aB)) (FB : FnP K "_law_bare" sBare aB dB) (GB : FnOk P w K mg base CX0 3 aB dB [] (spBare K))
    (gR : mg "_law_right" = some (.ref aR)) (FR : FnP K "_law_right" sRight aR dR) (GR : FnOkG P w K mg base 4 aR dR ["_law_some", "_law_noted"] (spRight K))
    (gI : mg "_law_is_error" = some (.ref aI)) (FI : FnP K "_law_is_error" sIsE aI dI) (GI : FnOk P w K mg base CX0 1 aI dI ["_law_error"] (spIsE K))
    (gK : mg "_law_code" = some (.ref aK)) (FK : FnP K "_law_code" sCode aK dK) (GK : FnOk P w K mg base CX0 3 aK dK ["_law_error"] (spCode K))
    (gS : mg "StoreError" = some (.ref (cA K "StoreError"))) (TS : StC K (cA K "StoreError") iS) (GS : FnOk P w K mg base CX0 1 iS dSt ["self"] (spSt (cA K "StoreError")))
    (bS : ∀ (s' : Shared) (e : Addr), K.In s'.heap → BindsTo s' dSt ⟨[.ref e], []⟩ ((["self"] : List Str).zip [.ref e]))
    (kS : Kits K (cA K "StoreError") EN (List.replicate 41 false)) (seS : PySem.W.kitOne K (.ref (cA K "StoreError")) (.ref (cA K "StoreError")) = some true) (veS : PySem.W.kitOne K (.ref (cA K "StoreError")) (.type "ValueError") = some true) :
    FnOkG P w K mg base 5 f fd ["_law_script"] (spLaw K) := by
  have bPs : Binds K dPs ["_law_script", "_law_few"] [] := FPs.bindsN fun _ _ _ _ _ _ us hl => match us, hl with | [_, _], _ => rfl
  have bW : Binds K dW ["_law_purse_here"] [] := FW.bindsN fun _ _ _ _ _ _ us hl => match us, hl with | [_], _ => rfl
  have bO : Binds K dO ["_law_purse_here", "_law_some"] [] := FO.bindsN fun _ _ _ _ _ _ us hl => match us, hl with | [_, _], _ => rfl
  have bF : Binds K dF ["_law_thing"] [] := FF.bindsN fun _ _ _ _ _ _ us hl => match us, hl with | [_], _ => rfl
  have bC : Binds K dC ["_law_thing"] [] := FC.bindsN fun _ _ _ _ _ _ us hl => match us, hl with | [_], _ => rfl
  have bB : Binds K dB [] [] := FB.bindsN fun _ _ _ _ _ _ us hl => match us, hl with | [], _ => rfl
  have bR : Binds K dR ["_law_some", "_law_noted"] [] := FR.bindsN fun _ _ _ _ _ _ us hl => match us, hl with | [_, _], _ => rfl
  have bI : Binds K dI ["_law_error"] [] := FI.bindsN fun _ _ _ _ _ _ us hl => match us, hl with | [_], _ => rfl
  have bK : Binds K dK ["_law_error"] [] := FK.bindsN fun _ _ _ _ _ _ us hl => match us, hl with | [_], _ => rfl
  refine F.okG scLaw (fun vs H Q E h => ?_) (fun cdv A outer s H vs Q E hr hG h => ?_)
  · obtain ⟨a, ns, rfl, _⟩ := h
    rfl
  · obtain ⟨a, ns, rfl, hS, k⟩ := h
    have nd := scLaw.nd
    have hr3 : Room 3 _ := hr.mono (by decide)
    have hr2 : Room 2 _ := hr.mono (by decide)
    have hr1 : Room 1 _ := hr.mono (by decide)
    have hu : _ + 1 < cLine := Nat.lt_of_le_of_lt (Nat.add_le_add_left (by decide : 1 ≤ 64) _) hr.units
    refine ⟨_, PSs.nox (pss_cons (ps_for PassesOwn.never rfl (pi_list (pe_call GPs hr2 rfl gPs FPs.kp bPs .nil pass0 (pa_cons (pv 0) (pa_cons pe_int pa_nil)))) (pg_name (i := 1) nd rfl (Or.inl rfl))
        (pss_cons (ps_set (i := 2) nd rfl (Or.inl rfl) (pe_call GW hr3 rfl gW FW.kp bW .nil pass0 (pa_cons (pv 1) pa_nil)))
        (pss_cons (ps_set (i := 3) nd rfl (Or.inl rfl) (pe_lst (pa_cons pe_non (pa_cons pe_bl (pa_cons pe_bl (pa_cons pe_int (pa_cons (pv 2) (pa_cons (pe_un un_neg (pe_ix ix_list (pv 1) pe_int (fun _ _ => rfl)))
          (pa_cons (pe_tup (pa_cons pe_str (pa_cons (pv 2) (pa_cons pe_int (pa_cons pe_int pa_nil))))) (pa_cons (pe_tup (pa_cons (pv 2) (pa_cons (pe_lst (pa_cons (pv 2) pa_nil)) pa_nil)))
          (pa_cons (pe_disp (pps_cons (pv 2) (pe_lst (pa_cons (pv 2) pa_nil)) pps_nil) rfl rfl (List.cons_ne_nil _ _) (Nat.le_of_ble_eq_true rfl)) pa_nil)))))))))))
        (pss_cons (ps_set (i := 4) nd rfl (Or.inl rfl) (pe_call GO hr3 rfl gO FO.kp bO .nil pass0 (pa_cons (pv 1) (pa_cons (pe_op op_cat (pv 3) (pe_lst (pa_cons (pe_lst (pa_cons (pv 2) pa_nil))
          (pa_cons (pe_lst (pa_cons (pe_lst (pa_cons (pv 2) pa_nil)) (pa_cons (pe_disp (pps_cons pe_str (pv 2) pps_nil) rfl rfl (List.cons_ne_nil _ _) (Nat.le_of_ble_eq_true rfl)) pa_nil))) pa_nil)))) pa_nil))))
        (pss_cons (ps_set (i := 5) nd rfl (Or.inl rfl) (pe_callB (call_repr hK hG hr) (by rfl) Z.repr (by decide +kernel) (pa_cons (pv 4) pa_nil)))
        (pss_cons (ps_par3 (i := 6) (j := 7) (l := 8) rfl nd rfl rfl rfl (by decide) (by decide) (by decide) rfl rfl rfl
          (pa_cons (pe_call GF hr3 rfl gF FF.kp bF .nil pass0 (pa_cons (pv 4) pa_nil)) (pa_cons (pe_call GC hr3 rfl gC FC.kp bC .nil pass0 (pa_cons (pv 4) pa_nil))
            (pa_cons (pe_call GF hr3 rfl gF FF.kp bF .nil pass0 (pa_cons (pe_tup (pa_cons pe_str (pa_cons (pv 2) pa_nil))) pa_nil)) pa_nil))) rfl)
        (pss_cons (ps_if (PW.pt (pw_or (pt_not (pt_val (pe_callG GR hr hG rfl gR FR.kp bR (pa_cons (pe_call0 GB hr3 rfl gB FB.kp bB .nil pass0) (pa_cons pe_str pa_nil)))))
          (pw_or1 (pt_not (pt_val (pe_callG GR hr hG rfl gR FR.kp bR (pa_cons (pv 8) (pa_cons (pe_callB (call_repr hK hG hr) (by rfl) Z.repr (by decide +kernel) (pa_cons (pe_tup (pa_cons pe_str (pa_cons (pv 2) pa_nil))) pa_nil)) pa_nil)))))))) (pss_one (ps_ret pe_bl)) pss_nil)
        (pss_cons (ps_if (PW.pt (pw_or (pt_not (pt_val (pe_callG GR hr hG rfl gR FR.kp bR (pa_cons (pv 6) (pa_cons (pv 5) pa_nil))))) (pw_or1 (pt_not (pt_val (pe_callG GR hr hG rfl gR FR.kp bR (pa_cons (pv 7) (pa_cons (pv 5) pa_nil)))))))) (pss_one (ps_ret pe_bl)) pss_nil)
        (pss_cons (ps_if (pt_val (pe_callB call_isi (by rfl) Z.isi (by decide +kernel) (pa_cons (pv 4) (pa_cons (pe_bltn (v := .ty "list") (by rfl) Z.tlist (by decide +kernel) rfl) pa_nil))))
          (pss_one (ps_expr (pe_bm PySem.F.plainAttrs_list PySem.F.slot_list_append PySem.F.type_list_append mt_append (pv 4) (pa_cons pe_str pa_nil)))) pss_nil)
        (pss_cons (ps_if (pt_val (pe_callB call_isi (by rfl) Z.isi (by decide +kernel) (pa_cons (pv 4) (pa_cons (pe_bltn (v := .ty "dict") (by rfl) Z.tdict (by decide +kernel) rfl) pa_nil))))
          (pss_cons (ps_expr (pe_bm PySem.F.plainAttrs_list PySem.F.slot_list_append PySem.F.type_list_append mt_append (pe_dget hu (pv 4) (pv 2) (fun _ _ => rfl)) (pa_cons pe_str pa_nil)))
            (pss_one (ps_dput hu (pv 4) pe_str pe_int rfl))) pss_nil)
        (pss_cons (ps_if (PW.pt (pw_and (pt_val (pe_callB call_isi (by rfl) Z.isi (by decide +kernel) (pa_cons (pv 4) (pa_cons (pe_bltn (v := .ty "tuple") (by rfl) Z.ttuple (by decide +kernel) rfl) pa_nil))))
            (pw_and1 (pt_val (pe_callB call_isi (by rfl) Z.isi (by decide +kernel) (pa_cons (pe_ix ix_tup (pv 4) pe_int (fun _ _ => rfl)) (pa_cons (pe_bltn (v := .ty "list") (by rfl) Z.tlist (by decide +kernel) rfl) pa_nil)))))))
          (pss_one (ps_expr (pe_bm PySem.F.plainAttrs_list PySem.F.slot_list_append PySem.F.type_list_append mt_append (pe_ix ix_tup (pv 4) pe_int (fun _ _ => rfl)) (pa_cons pe_str pa_nil)))) pss_nil)
        (pss_one (ps_if (PW.pt (pw_or (pt_not (pt_val (pe_callG GR hr hG rfl gR FR.kp bR (pa_cons (pv 6) (pa_cons (pe_callB (call_repr hK hG hr) (by rfl) Z.repr (by decide +kernel) (pa_cons (pv 4) pa_nil)) pa_nil)))))
          (pw_or1 (pt_not (pt_val (pe_callG GR hr hG rfl gR FR.kp bR (pa_cons (pv 7) (pa_cons (pe_callB (call_repr hK hG hr) (by rfl) Z.repr (by decide +kernel) (pa_cons (pv 4) pa_nil)) pa_nil)))))))) (pss_one (ps_ret pe_bl)) pss_nil)))))))))))))
      (pss_one (ps_ret (pe_and (pe_call GI hr1 rfl gI FI.kp bI .nil pass0 (pa_cons (pe_st TS GS bS hr2 gS) pa_nil))
        (pe_one (pe_cmpR (op_eqD hr.units) (pe_call GK hr3 rfl gK FK.kp bK .nil pass0 (pa_cons (pe_st TS GS bS hr2 gS) pa_nil)) (pe_lst pa_nil) (nomark _))))))), ?_⟩
    refine ⟨_, rfl, a, ns, rfl, hS, fun q p H1 s1 hp0 hq0 npq e1 P1 => ?_⟩
    refine ⟨q, rfl, ⟨_, SqL.of e1⟩, ?_⟩
    refine for_list (xs := [.ref p]) (fun i σ H2 => H2 q = some (.lst [.ref p]) ∧ (i = 0 → σ = start NL [.ref a] ∧ H2 = H1)) ⟨e1, fun _ => ⟨rfl, rfl⟩⟩ (fun i σ H2 _ hh => SqL.of hh.1) ?_ ?_
    · rintro i y σ Hx hy ⟨_, hz0⟩
      obtain ⟨rfl, ry⟩ : i = 0 ∧ y = .ref p := by
        cases i with
        | zero => exact ⟨rfl, (Option.some.inj hy).symm⟩
        | succ j => simp at hy
      obtain ⟨rfl, rfl⟩ := hz0 rfl
      subst ry
      refine ⟨_, rfl, p, 0, rfl, P1, by decide, fun z H2 hz kb2 P2 => ?_⟩
      have q2 : H2 q = some (.lst [.ref p]) := kb2 _ _ (Ne.symm npq) e1
      obtain ⟨A0, B, c, i0, eP, hB, hA, hc, hcN⟩ := id P2
      -- plain
      refine ⟨_, rfl, _, rfl, p, _, 1, .int B, rfl, rfl, SqL.of eP, rfl, B, rfl, ?_⟩
      refine ⟨_, rfl, (by show 4 ≤ sizeLine; decide), fun t1 ht1 => ?_⟩
      refine ⟨_, rfl, _, rfl, (by show 1 ≤ sizeLine; decide), fun l2 hl2 => ⟨(by show 2 ≤ sizeLine; decide), fun t2 ht2 => ?_⟩⟩
      refine fun d1 hd1 => ⟨_, rfl, _, rfl, (by show 1 ≤ sizeLine; decide), fun l3 hl3 => ⟨?_, [(.inr z, .ref l3)], rfl, (by show 1 ≤ 15; decide), (by show 9 ≤ sizeLine; decide), fun PL hPL => ?_⟩⟩
      · rw [upd_ne (fun e => by rw [← e, upd_same] at hl3; cases hl3)]
        exact upd_same
      -- one of
      refine ⟨_, rfl, _, rfl, _, rfl, (by show 1 ≤ sizeLine; decide), fun l4 hl4 => ?_⟩
      refine ⟨_, rfl, (by show 1 ≤ sizeLine; decide), fun l5 hl5 => ?_⟩
      refine fun d2 hd2 => ⟨_, rfl, upd_same, [(.inr "odd", .str z)], rfl, (by show 1 ≤ 15; decide), (by show 2 ≤ sizeLine; decide), fun l6 hl6 => ⟨(by show 2 ≤ sizeLine; decide), fun L2' hL2 => ?_⟩⟩
      -- what stands now
      obtain ⟨Ha, eHa⟩ : ∃ X, X = upd H2 t1 (.tup [.str "says", .str z, .int 1, .int 2]) := ⟨_, rfl⟩
      rw [← eHa] at hl2 ht2 hd1 hl3 hPL hl4 hl5 hd2 hl6 hL2 ⊢
      obtain ⟨Hb, eHb⟩ : ∃ X, X = upd Ha l2 (.lst [.str z]) := ⟨_, rfl⟩
      rw [← eHb] at ht2 hd1 hl3 hPL hl4 hl5 hd2 hl6 hL2 ⊢
      obtain ⟨Hc, eHc⟩ : ∃ X, X = upd Hb t2 (.tup [.str z, .ref l2]) := ⟨_, rfl⟩
      rw [← eHc] at hd1 hl3 hPL hl4 hl5 hd2 hl6 hL2 ⊢
      obtain ⟨Hd, eHd⟩ : ∃ X, X = upd (upd (upd Hc d1 (.dK [])) l3 (.lst [.str z])) d1 (.dK (mergeK [] [(.inr z, .ref l3)])) := ⟨_, rfl⟩
      rw [← eHd] at hPL hl4 hl5 hd2 hl6 hL2 ⊢
      obtain ⟨He', eHe⟩ : ∃ X, X = upd Hd PL (.lst [.non, .bl true, .bl false, .int 0, .str z, .int (-B), .ref t1, .ref t2, .ref d1]) := ⟨_, rfl⟩
      rw [← eHe] at hl4 hl5 hd2 hl6 hL2 ⊢
      obtain ⟨Hf, eHf⟩ : ∃ X, X = upd He' l4 (.lst [.str z]) := ⟨_, rfl⟩
      rw [← eHf] at hl5 hd2 hl6 hL2 ⊢
      obtain ⟨Hg, eHg⟩ : ∃ X, X = upd Hf l5 (.lst [.str z]) := ⟨_, rfl⟩
      rw [← eHg] at hd2 hl6 hL2 ⊢
      obtain ⟨Hh, eHh⟩ : ∃ X, X = upd (upd Hg d2 (.dK [])) d2 (.dK (mergeK [] [(.inr "odd", .str z)])) := ⟨_, rfl⟩
      rw [← eHh] at hl6 hL2 ⊢
      obtain ⟨Hi, eHi⟩ : ∃ X, X = upd Hh l6 (.lst [.ref l5, .ref d2]) := ⟨_, rfl⟩
      rw [← eHi] at hL2 ⊢
      obtain ⟨Hj, eHj⟩ : ∃ X, X = upd Hi L2' (.lst [.ref l4, .ref l6]) := ⟨_, rfl⟩
      rw [← eHj]
      have s2a : Same H2 Ha := by rw [eHa]; exact Same.upd ht1
      have sab : Same Ha Hb := by rw [eHb]; exact Same.upd hl2
      have sbc : Same Hb Hc := by rw [eHc]; exact Same.upd ht2
      have scd : Same Hc Hd := by rw [eHd]; exact Same.dict hd1 (Same.upd hl3)
      have sde : Same Hd He' := by rw [eHe]; exact Same.upd hPL
      have sef : Same He' Hf := by rw [eHf]; exact Same.upd hl4
      have sfg : Same Hf Hg := by rw [eHg]; exact Same.upd hl5
      have sgh : Same Hg Hh := by rw [eHh]; exact Same.dict hd2 (Same.refl _)
      have shi : Same Hh Hi := by rw [eHi]; exact Same.upd hl6
      have sij : Same Hi Hj := by rw [eHj]; exact Same.upd hL2
      have shj := shi.trans sij
      have sgj := sgh.trans shj
      have sfj := sfg.trans sgj
      have sej := sef.trans sfj
      have sdj := sde.trans sej
      have scj := scd.trans sdj
      have sbj := sbc.trans scj
      have saj := sab.trans sbj
      have s2j := s2a.trans saj
      have at1 : Hj t1 = some (.tup [.str "says", .str z, .int 1, .int 2]) := saj _ _ (by rw [eHa]; exact upd_same)
      have al2 : Hj l2 = some (.lst [.str z]) := sbj _ _ (by rw [eHb]; exact upd_same)
      have at2 : Hj t2 = some (.tup [.str z, .ref l2]) := scj _ _ (by rw [eHc]; exact upd_same)
      have n31 : l3 ≠ d1 := fun e => by rw [e, upd_same] at hl3; cases hl3
      have al3 : Hj l3 = some (.lst [.str z]) := sdj _ _ (by rw [eHd, upd_ne n31]; exact upd_same)
      have ad1 : Hj d1 = some (.dK [(.inr z, .ref l3)]) := sdj _ _ (by rw [eHd]; exact upd_same)
      have aPL : Hj PL = some (.lst [.non, .bl true, .bl false, .int 0, .str z, .int (-B), .ref t1, .ref t2, .ref d1]) := sej _ _ (by rw [eHe]; exact upd_same)
      have al4 : Hj l4 = some (.lst [.str z]) := sfj _ _ (by rw [eHf]; exact upd_same)
      have al5 : Hj l5 = some (.lst [.str z]) := sgj _ _ (by rw [eHg]; exact upd_same)
      have ad2 : Hj d2 = some (.dK [(.inr "odd", .str z)]) := shj _ _ (by rw [eHh]; exact upd_same)
      have al6 : Hj l6 = some (.lst [.ref l5, .ref d2]) := sij _ _ (by rw [eHi]; exact upd_same)
      have aL2 : Hj L2' = some (.lst [.ref l4, .ref l6]) := by rw [eHj]; exact upd_same
      refine ⟨PL, L2', _, _, rfl, rfl, aPL, aL2, (by show 11 ≤ sizeLine; decide), fun L3 hL3 => ?_⟩
      have sjk : Same Hj (upd Hj L3 (.lst ([.non, .bl true, .bl false, .int 0, .str z, .int (-B), .ref t1, .ref t2, .ref d1] ++ [.ref l4, .ref l6]))) := Same.upd hL3
      have P3 := P2.same (s2j.trans sjk)
      have nL3 : L3 ≠ p := fun e => by
        have := s2j _ _ eP
        rw [← e, hL3] at this
        cases this
      refine ⟨p, L3, _, 0 + 10, rfl, nL3, SqL.of upd_same, (by show 1 ≤ 11; decide), (by show 11 ≤ 1000000; decide), P3, by decide, fun x H3 hx kb3 P4 => ?_⟩
      have hTh : ∃ d, Th z Hj x d := by
        have hx' : x = .non ∨ x = .bl true ∨ x = .bl false ∨ x = .int 0 ∨ x = .str z ∨ x = .int (-B) ∨ x = .ref t1 ∨ x = .ref t2 ∨ x = .ref d1 ∨ x = .ref l4 ∨ x = .ref l6 := by
          simpa only [List.cons_append, List.nil_append, List.mem_cons, List.not_mem_nil, or_false] using hx
        rcases hx' with e | e | e | e | e | e | e | e | e | e | e
        · rw [e]
          exact ⟨_, .non⟩
        · rw [e]
          exact ⟨_, .bl true⟩
        · rw [e]
          exact ⟨_, .bl false⟩
        · rw [e]
          exact ⟨_, .int 0 (by decide)⟩
        · rw [e]
          exact ⟨_, .word⟩
        · rw [e]
          exact ⟨_, .int (-B) (by omega)⟩
        · rw [e]
          exact ⟨_, .says at1⟩
        · rw [e]
          exact ⟨_, .pair at2 al2⟩
        · rw [e]
          exact ⟨_, .dic ad1 al3⟩
        · rw [e]
          exact ⟨_, .one al4⟩
        · rw [e]
          exact ⟨_, .two al6 al5 ad2⟩
      obtain ⟨d, hT0⟩ := hTh
      have hT3 : Th z H3 x d := (hT0.same sjk).but P3 kb3
      have q3 : H3 q = some (.lst [.ref p]) := kb3 _ _ (Ne.symm npq) (sjk _ _ (s2j _ _ q2))
      have gd := hT0.good hz
      -- noted
      refine ⟨_, rfl, x, d, rfl, hT3.sh, gd.sh, gd.dep, gd.len, ?_⟩
      -- the three lists
      refine ⟨_, rfl, x, rfl, fun p1 xs1 H4 s4 e4 r4 => ?_⟩
      refine ⟨_, rfl, x, rfl, fun p2 xs2 H5 s5 e5 r5 => ?_⟩
      refine ⟨_, rfl, (by show 2 ≤ sizeLine; decide), fun t3 ht3 => ⟨.ref t3, rfl, fun p3 xs3 H6 s6 e6 r6 => ?_⟩⟩
      refine ⟨_, _, _, rfl, ?_⟩
      have s56 : Same H5 H6 := (Same.upd ht3).trans s6
      have s36 : Same H3 H6 := s4.trans (s5.trans s56)
      have e46 := (s5.trans s56) _ _ e4
      have r46 := r4.same (s5.trans s56)
      have e56 := s56 _ _ e5
      have r56 := r5.same s56
      have t36 : H6 t3 = some (.tup [.str "later", .str z]) := s6 _ _ upd_same
      -- bare, later
      refine ⟨rfl, fun p7 xs7 H7 s7 e7 r7 => ?_⟩
      refine ⟨p7, xs7, .non, .none, by rw [PyData.shown_none]; rfl, e7, r7, .non, good_non.sh, good_non.dep, good_non.len, fun H8 s8 => ⟨true, rfl, iteF ?_⟩⟩
      have s68 := s7.trans s8
      have gl := good_later hz
      refine ⟨_, rfl, _, rfl, (by show 2 ≤ sizeLine; decide), fun t4 ht4 => ?_⟩
      have s89 : Same H8 (upd H8 t4 (.tup [.str "later", .str z])) := Same.upd ht4
      have s69 := s68.trans s89
      refine ⟨.ref t4, .tuple [.str "later", .str z], rfl, .tup upd_same (.cons (.str _) (.cons (.str _) .nil)), gl.sh, gl.dep, gl.len, ?_⟩
      refine ⟨p3, xs3, .ref t3, .tuple [.str "later", .str z], rfl, s69 _ _ e6, r6.same s69, .tup (s69 _ _ t36) (.cons (.str _) (.cons (.str _) .nil)), gl.sh, gl.dep, gl.len, fun H9 s9 => ⟨true, rfl, iteF ?_⟩⟩
      have s610 := s69.trans s9
      -- some, called
      refine ⟨_, rfl, _, rfl, p1, xs1, x, d, rfl, s610 _ _ e46, r46.same s610, (hT3.same (s36.trans s610)).sh, gd.sh, gd.dep, gd.len, fun H11 s11 => ⟨true, rfl, iteF ?_⟩⟩
      have s611 := s610.trans s11
      refine ⟨_, rfl, _, rfl, p2, xs2, x, d, rfl, s611 _ _ e56, r56.same s611, (hT3.same (s36.trans s611)).sh, gd.sh, gd.dep, gd.len, fun H12 s12 => ⟨true, rfl, iteF ?_⟩⟩
      have s612 := s611.trans s12
      have s312 := s36.trans s612
      -- changed
      refine turned hz rfl rfl (hT3.same s312) (fun d' H13 m13 sh13 g13 => ?_)
      have l1 : xs1.length = 41 := by
        have := Paired.length r4
        rw [List.length_map, EN_len] at this
        exact this.symm
      have l2' : xs2.length = 41 := by
        have := Paired.length r5
        rw [List.length_map, EN_len] at this
        exact this.symm
      have e1' : H13 p1 = some (.lst xs1) := m13 _ _ (s612 _ _ e46) (fun _ z => by cases z) (fun ys z => by cases z; exact .inl (by omega))
      have e2' : H13 p2 = some (.lst xs2) := m13 _ _ (s612 _ _ e56) (fun _ z => by cases z) (fun ys z => by cases z; exact .inl (by omega))
      have q13 : H13 q = some (.lst [.ref p]) := m13 _ _ (s312 _ _ q3) (fun _ z => by cases z) (fun ys z => by cases z; exact .inr ⟨p, rfl⟩)
      refine ⟨_, rfl, _, rfl, x, d', rfl, sh13, g13.sh, g13.dep, g13.len, ?_⟩
      refine ⟨p1, xs1, x, d', rfl, e1', m13.errs (r46.same s612), sh13, g13.sh, g13.dep, g13.len, fun H14 s14 => ⟨true, rfl, iteF ?_⟩⟩
      refine ⟨_, rfl, _, rfl, x, d', rfl, sh13.same s14, g13.sh, g13.dep, g13.len, ?_⟩
      refine ⟨p2, xs2, x, d', rfl, s14 _ _ e2', (m13.errs (r56.same s612)).same s14, sh13.same s14, g13.sh, g13.dep, g13.len, fun H15 s15 => ⟨true, rfl, iteF ?_⟩⟩
      exact ⟨s15 _ _ (s14 _ _ q13), fun z => nomatch z⟩
    · rintro σ H2 _
      refine fun e Ha sa an => ?_
      refine ⟨.ref e, cA K "StoreError", rfl, an, TS.xc, seS, veS, true, rfl, iteT ?_⟩
      refine fun e2 Hb sb an2 => ?_
      refine ⟨.ref e2, cA K "StoreError", List.replicate 41 false, rfl, an2, TS.xc, kS, fun q1 Hc sc hq1 hn1 => ?_⟩
      have et : trueAt 0 (List.replicate 41 false) = [] := by decide +kernel
      rw [et] at hq1
      refine ⟨(by show 0 ≤ sizeLine; decide), fun q2 hq2 => ?_⟩
      have h5 : (upd Hc q2 (.lst [])) q1 = some (.lst []) := by
        rw [upd_ne (ne_of_none hq1 hq2)]
        exact hq1
      refine ⟨.list [], .list [], .lst (SqL.of h5) .nil, .lst (SqL.of upd_same) .nil, by decide +kernel, by decide +kernel, ?_⟩
      have e0 : PyData.eqv (.list []) (.list []) = true := by decide +kernel
      rw [e0]
      exact k _
end
end K01
set_option Elab.async false
set_option linter.all false
set_option maxRecDepth 100000
set_option maxHeartbeats 0
/-! What is read of the heap that the module's top leaves. -/
namespace K01
open PySem PySem.Spec PyProof.Rows L2
theorem oexB_ok {K : PySem.W.Frag} {C : Addr} (q : oexB K C = true) : ∃ nm q N bs bm sn sub ab col dd k0 k1 k2 k3 k5, K.lookup C = some (excClassObj nm q C N bs bm true sn sub ab col dd k0 k1 k2 k3 k5 "ValueError.__new__") ∧ PySem.HandSPX.refsVE bm = true := by
  unfold oexB at q
  split at q
  · rename_i dd cd sl ho
    split at q
    · rename_i C' bm k0 k1 k2 k3 n k5 hm hs
      simp only [Bool.and_eq_true, decide_eq_true_eq, Bool.not_eq_true'] at q
      obtain ⟨rfl, rfl, hdel, hdict, hr⟩ := q
      obtain ⟨nm, bs, mro, ns, qn, hd, sn, sub, ab, col, del⟩ := cd
      dsimp only at hm hdel hdict
      subst hm hdel hdict
      have hsl : sl = #[k0, k1, k2, k3, some (.builtin "ValueError.__new__"), k5] := by
        obtain ⟨l⟩ := sl
        simp only at hs
        rw [hs]
      subst hsl
      exact ⟨_, _, _, _, _, _, _, _, _, _, _, _, _, _, _, ho, hr⟩
    · cases q
  · cases q
theorem veI_ok {o : Option PySem.W.CFound} (h : veI o = true) : o = some (.val (.builtin "ValueError.__init__")) := by
  unfold veI at h
  split at h
  · rw [of_decide_eq_true h]
  · cases h
theorem clB_ok {K : PySem.W.Frag} {C I : Addr} (h : clB K C I = true) (o : onceB K = true) : OexC K C ∧ XfC K C ∧ ExcC K C ∧ PySem.W.findIn K (.ref C) "__init__" = some (some (.ref I)) ∧ PySem.W.typeIn K (.ref I) = some (.type "function") := by
  unfold clB at h
  unfold onceB at o
  simp only [Bool.and_eq_true, decide_eq_true_eq] at h o
  obtain ⟨h1, h2, h3, h4, h5, h6, h7, h8, h9, h10, h11, h12⟩ := h
  obtain ⟨o1, o2, o3, o4⟩ := o
  exact ⟨⟨oexB_ok h1, h2, h3, h4, h5⟩, ⟨h6, h7, h3, h8⟩, ⟨h6, h7, h3, h8, h9, o2, o3, h10⟩, h11, h12⟩
theorem upB_lt : ∀ {l : List Addr} {a : Addr} , upB (a :: l) = true → ∀ b ∈ l, a < b
  | [], _, _, b, hb => nomatch hb
  | c :: r, a, h, b, hb => by
    have h' : (Nat.blt a c && upB (c :: r)) = true := h
    obtain ⟨h1, h2⟩ := Bool.and_eq_true_iff.mp h'
    have h3 : a < c := Nat.le_of_ble_eq_true h1
    rcases List.mem_cons.mp hb with e | z
    · rw [e]
      exact h3
    · exact Nat.lt_trans h3 (upB_lt h2 b z)
theorem upB_tail {a : Addr} {l : List Addr} (h : upB (a :: l) = true) : upB l = true := by
  cases l with
  | nil => rfl
  | cons b r =>
    have h' : (Nat.blt a b && upB (b :: r)) = true := h
    exact (Bool.and_eq_true_iff.mp h').2
theorem upB_at : ∀ {l : List Addr} {i j : Nat} {a b : Addr}, upB l = true → l[i]? = some a → l[j]? = some b → (b = a ↔ j = i)
  | [], _, _, _, _, _, h, _ => by simp at h
  | c :: r, 0, 0, a, b, _, h1, h2 => by
    have e1 : c = a := Option.some.inj h1
    have e2 : c = b := Option.some.inj h2
    exact ⟨fun _ => rfl, fun _ => by rw [← e1, ← e2]⟩
  | c :: r, 0, j + 1, a, b, h, h1, h2 => by
    have e1 : c = a := Option.some.inj h1
    have h2' : r[j]? = some b := h2
    have := upB_lt h b (List.mem_of_getElem? h2')
    rw [e1] at this
    exact ⟨fun e => absurd e (Nat.ne_of_gt this), fun e => absurd e (Nat.succ_ne_zero _)⟩
  | c :: r, i + 1, 0, a, b, h, h1, h2 => by
    have e1 : c = b := Option.some.inj h2
    have h2' : r[i]? = some a := h1
    have := upB_lt h a (List.mem_of_getElem? h2')
    rw [e1] at this
    exact ⟨fun e => absurd e (Nat.ne_of_lt this), fun e => absurd e.symm (Nat.succ_ne_zero _)⟩
  | c :: r, i + 1, j + 1, a, b, h, h1, h2 => by
    have h1' : r[i]? = some a := h1
    have h2' : r[j]? = some b := h2
    have := upB_at (upB_tail h) h1' h2'
    exact ⟨fun e => by rw [this.mp e], fun e => this.mpr (by omega)⟩
theorem mroB_ok {K : PySem.W.Frag} {C S : Addr} (h : mroB K C S = true) : ∃ cd, PySem.W.clsIn K C = some cd ∧ cd.mro = [.ref C, .ref S, .type "ValueError", .type "Exception", .type "BaseException", .type "object"] := by
  unfold mroB at h
  cases q : PySem.W.clsIn K C with
  | none =>
    rw [q] at h
    cases h
  | some cd =>
    rw [q] at h
    exact ⟨cd, rfl, of_decide_eq_true h⟩
/-- one class asked for another -/
theorem kit_refs {K : PySem.W.Frag} {C S D : Addr} (hC : mroB K C S = true) (hD : ∃ cd, PySem.W.clsIn K D = some cd) (tD : PySem.W.typeIn K (.ref D) = some (.type "type")) : PySem.W.kitOne K (.ref C) (.ref D) = some (decide (D = C) || decide (D = S)) := by
  obtain ⟨cd, e1, e2⟩ := mroB_ok hC
  obtain ⟨cd2, e3⟩ := hD
  unfold PySem.W.kitOne
  by_cases h : C = D
  · rw [h]
    simp
  · have n1 : ((Value.ref C == Value.ref D) = true) ↔ False := ⟨fun z => h (Value.ref.inj (beq_iff_eq.mp z)), False.elim⟩
    rw [if_neg (fun z => n1.mp z)]
    show (if ((PySem.W.clsIn K D).isSome && PySem.W.typeIn K (.ref D) == some (.type "type")) = true then PySem.W.subIn K (.ref C) (.ref D) else none) = _
    rw [e3, tD, if_pos (by simp)]
    show PySem.W.mroIn K C (.ref D) = _
    unfold PySem.W.mroIn
    rw [e1]
    show (if cd.mro.isEmpty then none else some (cd.mro.contains (.ref D))) = _
    rw [e2]
    have n2 : decide (D = C) = false := decide_eq_false fun z => h z.symm
    rw [n2, Bool.false_or]
    simp only [List.isEmpty_cons, Bool.false_eq_true, if_false, List.contains_cons, List.contains_nil]
    have b1 : (Value.ref D == Value.ref C) = false := by
      cases q : (Value.ref D == Value.ref C) with
      | false => rfl
      | true => exact absurd (Value.ref.inj (beq_iff_eq.mp q)) fun z => h z.symm
    have b2 : (Value.ref D == Value.ref S) = decide (D = S) := by
      by_cases h2 : D = S
      · rw [h2]
        simp
      · rw [decide_eq_false h2]
        cases q : (Value.ref D == Value.ref S) with
        | false => rfl
        | true => exact absurd (Value.ref.inj (beq_iff_eq.mp q)) h2
    have b3 : ∀ n : String, (Value.ref D == Value.type n) = false := fun n => by
      cases q : (Value.ref D == Value.type n) with
      | false => rfl
      | true => exact absurd (beq_iff_eq.mp q) (fun z => nomatch z)
    rw [b1, b2, b3, b3, b3, b3]
    simp
theorem kit_ve {K : PySem.W.Frag} {C : Addr} (h : ∃ cd, PySem.W.clsIn K C = some cd ∧ cd.mro.isEmpty = false ∧ cd.mro.contains (Value.type "ValueError") = true) : PySem.W.kitOne K (.ref C) (.type "ValueError") = some true := by
  obtain ⟨cd, e1, e2, e3⟩ := h
  unfold PySem.W.kitOne
  have n1 : ¬ ((Value.ref C == Value.type "ValueError") = true) := fun z => nomatch (beq_iff_eq.mp z : Value.ref C = Value.type "ValueError")
  rw [if_neg n1]
  show (if PySem.W.kitMeta "ValueError" = true then PySem.W.subIn K (.ref C) (.type "ValueError") else none) = _
  rw [if_pos (by decide +kernel)]
  show PySem.W.mroIn K C (.type "ValueError") = _
  unfold PySem.W.mroIn
  rw [e1]
  show (if cd.mro.isEmpty then none else some (cd.mro.contains (Value.type "ValueError"))) = _
  rw [e2, e3]
  rfl
end K01
set_option Elab.async false
set_option linter.all false
set_option maxRecDepth 100000
set_option maxHeartbeats 8000000
/-! The end: facts, the law. -/
namespace K01
open PySem PySem.Spec PyProof.Rows L2
def errArgs (a b : Pos) (d : Expr) : Arguments := { posonlyargs := [], args := [{ arg := "self", annotation := none, pos := a }, { arg := "value", annotation := none, pos := b }], vararg := none, kwonlyargs := [], kw_defaults := [], kwarg := none, defaults := [d] }
theorem errB_of {K : PySem.W.Frag} {qual : Str} {body : List Stmt} {scope : Scope} {f : Addr} {fd : FuncData} {a b : Pos} {d : Expr} (F : FunD K "__init__" qual (errArgs a b d) body scope [.non] [] f fd) : ErrB K fd := by
  obtain ⟨ds0, r0, B0⟩ := FunD.binds1 (ps := ["self", "value"]) F 1 0 (List.cons_ne_nil _ _) rfl (fun T kV doc pm an cdv ct us its h1 h2 => match us, its, h1, h2 with | [_], [_], _, _ => ⟨_, rfl, rfl⟩)
  obtain ⟨ds1, r1, B1⟩ := FunD.binds1 (ps := ["self", "value"]) F 2 1 (List.cons_ne_nil _ _) rfl (fun T kV doc pm an cdv ct us its h1 h2 => match us, its, h1, h2 with | [_, _], [_], _, _ => ⟨_, rfl, rfl⟩)
  obtain ⟨itk, Bk⟩ := FunD.kbindsD (ps := ["self", "value"]) F 1 ["value"] (fun us _ zs => us ++ zs) (List.cons_ne_nil _ _) (fun r1 _ r3 => r1.append r3) (fun T kV doc pm an cdv ct us its ws h1 h2 h3 => match us, its, ws, h1, h2, h3 with | [_], [_], [_], _, _, _ => ⟨_, rfl, rfl⟩)
  have e0 : ds0 = [.none] := by
    cases r0 with
    | cons p q =>
      cases q
      cases p
      rfl
  have e1 : ds1 = [] := by
    cases r1
    rfl
  subst e0 e1
  exact ⟨fun s v X => B0 s [v] X rfl, fun s v u X => B1 s [v, u] X rfl, fun s v u X => Bk.to s [v] [u] X rfl rfl⟩
theorem errShape : ∀ i, i < 41 → ∃ a b d p1 p2 p3 p4, defArgs (inClass (top (i + 2)) 0) = errArgs a b d ∧ defBody (inClass (top (i + 2)) 0) = errBody p1 p2 p3 p4 ∧ defScope (inClass (top (i + 2)) 0) = errScope
  | 0, _ => ⟨_, _, _, _, _, _, _, rfl, rfl, rfl⟩
  | 1, _ => ⟨_, _, _, _, _, _, _, rfl, rfl, rfl⟩
  | 2, _ => ⟨_, _, _, _, _, _, _, rfl, rfl, rfl⟩
  | 3, _ => ⟨_, _, _, _, _, _, _, rfl, rfl, rfl⟩
  | 4, _ => ⟨_, _, _, _, _, _, _, rfl, rfl, rfl⟩
  | 5, _ => ⟨_, _, _, _, _, _, _, rfl, rfl, rfl⟩
  | 6, _ => ⟨_, _, _, _, _, _, _, rfl, rfl, rfl⟩
  | 7, _ => ⟨_, _, _, _, _, _, _, rfl, rfl, rfl⟩
  | 8, _ => ⟨_, _, _, _, _, _, _, rfl, rfl, rfl⟩
  | 9, _ => ⟨_, _, _, _, _, _, _, rfl, rfl, rfl⟩
  | 10, _ => ⟨_, _, _, _, _, _, _, rfl, rfl, rfl⟩
  | 11, _ => ⟨_, _, _, _, _, _, _, rfl, rfl, rfl⟩
  | 12, _ => ⟨_, _, _, _, _, _, _, rfl, rfl, rfl⟩
  | 13, _ => ⟨_, _, _, _, _, _, _, rfl, rfl, rfl⟩
  | 14, _ => ⟨_, _, _, _, _, _, _, rfl, rfl, rfl⟩
  | 15, _ => ⟨_, _, _, _, _, _, _, rfl, rfl, rfl⟩
  | 16, _ => ⟨_, _, _, _, _, _, _, rfl, rfl, rfl⟩
  | 17, _ => ⟨_, _, _, _, _, _, _, rfl, rfl, rfl⟩
  | 18, _ => ⟨_, _, _, _, _, _, _, rfl, rfl, rfl⟩
  | 19, _ => ⟨_, _, _, _, _, _, _, rfl, rfl, rfl⟩
  | 20, _ => ⟨_, _, _, _, _, _, _, rfl, rfl, rfl⟩
  | 21, _ => ⟨_, _, _, _, _, _, _, rfl, rfl, rfl⟩
  | 22, _ => ⟨_, _, _, _, _, _, _, rfl, rfl, rfl⟩
  | 23, _ => ⟨_, _, _, _, _, _, _, rfl, rfl, rfl⟩
  | 24, _ => ⟨_, _, _, _, _, _, _, rfl, rfl, rfl⟩
  | 25, _ => ⟨_, _, _, _, _, _, _, rfl, rfl, rfl⟩
  | 26, _ => ⟨_, _, _, _, _, _, _, rfl, rfl, rfl⟩
  | 27, _ => ⟨_, _, _, _, _, _, _, rfl, rfl, rfl⟩
  | 28, _ => ⟨_, _, _, _, _, _, _, rfl, rfl, rfl⟩
  | 29, _ => ⟨_, _, _, _, _, _, _, rfl, rfl, rfl⟩
  | 30, _ => ⟨_, _, _, _, _, _, _, rfl, rfl, rfl⟩
  | 31, _ => ⟨_, _, _, _, _, _, _, rfl, rfl, rfl⟩
  | 32, _ => ⟨_, _, _, _, _, _, _, rfl, rfl, rfl⟩
  | 33, _ => ⟨_, _, _, _, _, _, _, rfl, rfl, rfl⟩
  | 34, _ => ⟨_, _, _, _, _, _, _, rfl, rfl, rfl⟩
  | 35, _ => ⟨_, _, _, _, _, _, _, rfl, rfl, rfl⟩
  | 36, _ => ⟨_, _, _, _, _, _, _, rfl, rfl, rfl⟩
  | 37, _ => ⟨_, _, _, _, _, _, _, rfl, rfl, rfl⟩
  | 38, _ => ⟨_, _, _, _, _, _, _, rfl, rfl, rfl⟩
  | 39, _ => ⟨_, _, _, _, _, _, _, rfl, rfl, rfl⟩
  | 40, _ => ⟨_, _, _, _, _, _, _, rfl, rfl, rfl⟩
  | n + 41, h => absurd h (by omega)
theorem errDef : ∀ i, i < 41 → ∃ x q, EN[i]? = some x ∧ fn[14 + i]? = some (dE (i + 2) x q)
  | 0, _ => ⟨_, _, rfl, rfl⟩
  | 1, _ => ⟨_, _, rfl, rfl⟩
  | 2, _ => ⟨_, _, rfl, rfl⟩
  | 3, _ => ⟨_, _, rfl, rfl⟩
  | 4, _ => ⟨_, _, rfl, rfl⟩
  | 5, _ => ⟨_, _, rfl, rfl⟩
  | 6, _ => ⟨_, _, rfl, rfl⟩
  | 7, _ => ⟨_, _, rfl, rfl⟩
  | 8, _ => ⟨_, _, rfl, rfl⟩
  | 9, _ => ⟨_, _, rfl, rfl⟩
  | 10, _ => ⟨_, _, rfl, rfl⟩
  | 11, _ => ⟨_, _, rfl, rfl⟩
  | 12, _ => ⟨_, _, rfl, rfl⟩
  | 13, _ => ⟨_, _, rfl, rfl⟩
  | 14, _ => ⟨_, _, rfl, rfl⟩
  | 15, _ => ⟨_, _, rfl, rfl⟩
  | 16, _ => ⟨_, _, rfl, rfl⟩
  | 17, _ => ⟨_, _, rfl, rfl⟩
  | 18, _ => ⟨_, _, rfl, rfl⟩
  | 19, _ => ⟨_, _, rfl, rfl⟩
  | 20, _ => ⟨_, _, rfl, rfl⟩
  | 21, _ => ⟨_, _, rfl, rfl⟩
  | 22, _ => ⟨_, _, rfl, rfl⟩
  | 23, _ => ⟨_, _, rfl, rfl⟩
  | 24, _ => ⟨_, _, rfl, rfl⟩
  | 25, _ => ⟨_, _, rfl, rfl⟩
  | 26, _ => ⟨_, _, rfl, rfl⟩
  | 27, _ => ⟨_, _, rfl, rfl⟩
  | 28, _ => ⟨_, _, rfl, rfl⟩
  | 29, _ => ⟨_, _, rfl, rfl⟩
  | 30, _ => ⟨_, _, rfl, rfl⟩
  | 31, _ => ⟨_, _, rfl, rfl⟩
  | 32, _ => ⟨_, _, rfl, rfl⟩
  | 33, _ => ⟨_, _, rfl, rfl⟩
  | 34, _ => ⟨_, _, rfl, rfl⟩
  | 35, _ => ⟨_, _, rfl, rfl⟩
  | 36, _ => ⟨_, _, rfl, rfl⟩
  | 37, _ => ⟨_, _, rfl, rfl⟩
  | 38, _ => ⟨_, _, rfl, rfl⟩
  | 39, _ => ⟨_, _, rfl, rfl⟩
  | 40, _ => ⟨_, _, rfl, rfl⟩
  | n + 41, h => absurd h (by omega)
theorem paired_of {α β : Type} {F : α → β → Prop} : ∀ {l₁ : List α} {l₂ : List β}, l₁.length = l₂.length → (∀ (j : Nat) (a : α) (b : β), l₁[j]? = some a → l₂[j]? = some b → F a b) → Paired F l₁ l₂
  | [], [], _, _ => .nil
  | [], _ :: _, h, _ => by simp at h
  | _ :: _, [], h, _ => by simp at h
  | a :: l₁, b :: l₂, h, k => .cons (k 0 a b rfl rfl) (paired_of (by simpa using h) fun j x y e1 e2 => k (j + 1) x y e1 e2)
section
variable {P : Program} {w : World} {K : PySem.W.Frag} {h : Heap} {mg : Str → Option Value} {base : Heap}
theorem facM (c : He.SaysD fa fn K) {f : He.Fa} (hf : f ∈ fa) : f.ok K = true := by
  have c1 := (He.ba (show ((fa.all fun f => f.ok K) && fn.all fun d => d.ok K) = true from congrArg (fun z : He.AlD => z.1) c)).1
  exact List.all_eq_true.mp c1 f hf
theorem gloE (X : K.In h) (G : h.Ns mainGlobals mg) (c : He.SaysD fa fn K) {x : Str} (hx : x ∈ EN) : mg x = some (.ref (cA K x)) :=
  He.glo_ok X G (facM c (List.mem_append_right _ (List.mem_append_right _ (List.mem_map_of_mem hx))))
structure Ex (K : PySem.W.Frag) : Prop where
  once : onceB K = true
  st : clB K (cA K "StoreError") (iA K "StoreError") = true
  cl : ∀ x ∈ EN, clB K (cA K x) (iA K x) = true
  nv : ∀ x ∈ EN, noVal K (cA K x) = true
  mro : ∀ x ∈ EN, mroB K (cA K x) (cA K "StoreError") = true
  up : upB (cA K "StoreError" :: EN.map (cA K)) = true
  mroS : ∃ cd, PySem.W.clsIn K (cA K "StoreError") = some cd ∧ cd.mro = [.ref (cA K "StoreError"), .type "ValueError", .type "Exception", .type "BaseException", .type "object"]
theorem ex_of (e : exB K = true) : Ex K := by
  unfold exB at e
  obtain ⟨e1, e⟩ := He.ba e
  obtain ⟨e2, e⟩ := He.ba e
  obtain ⟨e3, e4⟩ := He.ba e2
  obtain ⟨e5, e6⟩ := He.ba e
  have e4' := List.all_eq_true.mp e4
  refine ⟨e1, e3, fun x hx => (He.ba (e4' x hx)).1, fun x hx => (He.ba (He.ba (e4' x hx)).2).1, fun x hx => (He.ba (He.ba (e4' x hx)).2).2, e5, ?_⟩
  have e7 := of_decide_eq_true e6
  cases q : PySem.W.clsIn K (cA K "StoreError") with
  | none =>
    rw [q] at e7
    cases e7
  | some cd =>
    rw [q] at e7
    exact ⟨cd, rfl, Option.some.inj e7⟩
theorem eOk_of (X : K.In h) (G : h.Ns mainGlobals mg) (c : He.SaysD fa fn K) (e : Ex K) : AllE P w K mg base := by
  intro x hx
  obtain ⟨i, hi, ei⟩ := List.getElem_of_mem hx
  have hi41 : i < 41 := by
    rw [EN_len] at hi
    exact hi
  have ei' : EN[i]? = some x := by rw [List.getElem?_eq_getElem hi, ei]
  obtain ⟨x', q, e1, e2⟩ := errDef i hi41
  have ex' : x' = x := by
    rw [ei'] at e1
    exact (Option.some.inj e1).symm
  subst ex'
  obtain ⟨fd, F0⟩ := c.def_ (14 + i) e2
  have F : FunD K "__init__" q (defArgs (inClass (top (i + 2)) 0)) (defBody (inClass (top (i + 2)) 0)) (defScope (inClass (top (i + 2)) 0)) [.non] [] (iA K x') fd := F0
  obtain ⟨a, b, d, p1, p2, p3, p4, h1, h2, h3⟩ := errShape i hi41
  rw [h1, h2, h3] at F
  obtain ⟨o1, o2, o3, o4, o5⟩ := clB_ok (e.cl x' hx) e.once
  have T : ErrC K (cA K x') (iA K x') := ⟨o1, o2, o3, o4, o5, of_decide_eq_true (e.nv x' hx)⟩
  exact ⟨gloE X G c hx, T, fd, ok_err F T, errB_of F⟩
theorem clsIn_of {C : Addr} (o : OexC K C) : ∃ cd, PySem.W.clsIn K C = some cd := by
  obtain ⟨nm, q, N, bs, bm, sn, sub, ab, col, dd, k0, k1, k2, k3, k5, hC, _⟩ := o.cls
  cases q : PySem.W.clsIn K C with
  | none =>
    unfold PySem.W.clsIn at q
    rw [hC] at q
    cases q
  | some cd => exact ⟨cd, rfl⟩
theorem addr_at (e : Ex K) {i : Nat} {x : Str} (hi : EN[i]? = some x) : (cA K "StoreError" :: EN.map (cA K))[i + 1]? = some (cA K x) := by
  rw [List.getElem?_cons_succ, List.getElem?_map, hi]
  rfl
theorem tab_of (e : Ex K) : Table K := by
  have all : ∀ x ∈ EN, OexC K (cA K x) ∧ XfC K (cA K x) ∧ ExcC K (cA K x) ∧ _ ∧ _ := fun x hx => clB_ok (e.cl x hx) e.once
  obtain ⟨s1, _, _, _, _⟩ := clB_ok e.st e.once
  refine ⟨fun i x hi => ?_, fun x hx => (all x hx).2.2.1, fun x hx => ?_, fun x hx => ?_⟩
  · have hx := List.mem_of_getElem? hi
    refine paired_of (by rw [List.length_map, List.length_range, EN_len]) fun j y b hj hb => ?_
    have hy := List.mem_of_getElem? hj
    have kr := kit_refs (e.mro x hx) (clsIn_of (all y hy).1) (all y hy).1.tyC
    have hj41 : j < 41 := by
      have := (List.getElem?_eq_some_iff.mp hj).1
      rw [EN_len] at this
      exact this
    have eb : b = decide (j = i) := by
      rw [List.getElem?_map, List.getElem?_range hj41] at hb
      exact (Option.some.inj hb).symm
    have q1 : (cA K y = cA K x ↔ j + 1 = i + 1) := upB_at e.up (addr_at e hi) (addr_at e hj)
    have q2 : (cA K y = cA K "StoreError" ↔ j + 1 = 0) := upB_at (i := 0) e.up rfl (addr_at e hj)
    have d1 : decide (cA K y = cA K x) = decide (j = i) := by
      by_cases z : j = i
      · rw [decide_eq_true z, decide_eq_true (q1.mpr (by rw [z]))]
      · rw [decide_eq_false z, decide_eq_false (fun u => z (Nat.succ.inj (q1.mp u)))]
    have d2 : decide (cA K y = cA K "StoreError") = false := decide_eq_false fun u => absurd (q2.mp u) (Nat.succ_ne_zero _)
    rw [kr, d1, d2, Bool.or_false, eb]
  · rw [kit_refs (e.mro x hx) (clsIn_of s1) s1.tyC]
    rw [decide_eq_true (rfl : cA K "StoreError" = cA K "StoreError"), Bool.or_true]
  · obtain ⟨cd, c1, c2⟩ := mroB_ok (e.mro x hx)
    exact kit_ve ⟨cd, c1, by rw [c2]; rfl, by rw [c2]; simp⟩
theorem kS_of (e : Ex K) : Kits K (cA K "StoreError") EN (List.replicate 41 false) := by
  refine paired_of (by rw [List.length_replicate, EN_len]) fun j y b hj hb => ?_
  have hy := List.mem_of_getElem? hj
  obtain ⟨o1, _, _, _, _⟩ := clB_ok (e.cl y hy) e.once
  obtain ⟨cd2, e3⟩ := clsIn_of o1
  have eb : b = false := (List.eq_of_mem_replicate (List.mem_of_getElem? hb))
  obtain ⟨cd, c1, c2⟩ := e.mroS
  have q2 : (cA K y = cA K "StoreError" ↔ j + 1 = 0) := upB_at (i := 0) e.up rfl (addr_at e hj)
  have ne : cA K y ≠ cA K "StoreError" := fun u => absurd (q2.mp u) (Nat.succ_ne_zero _)
  rw [eb]
  unfold PySem.W.kitOne
  have nb : ∀ a b : Addr, a ≠ b → (Value.ref a == Value.ref b) = false := fun a b n => by
    cases q : (Value.ref a == Value.ref b) with
    | false => rfl
    | true => exact absurd (Value.ref.inj (beq_iff_eq.mp q)) n
  rw [if_neg (fun z => by rw [nb _ _ (Ne.symm ne)] at z; cases z)]
  show (if ((PySem.W.clsIn K (cA K y)).isSome && PySem.W.typeIn K (.ref (cA K y)) == some (.type "type")) = true then PySem.W.subIn K (.ref (cA K "StoreError")) (.ref (cA K y)) else none) = _
  rw [e3, o1.tyC, if_pos (by simp)]
  show PySem.W.mroIn K (cA K "StoreError") (.ref (cA K y)) = _
  unfold PySem.W.mroIn
  rw [c1]
  show (if cd.mro.isEmpty then none else some (cd.mro.contains (.ref (cA K y)))) = _
  rw [c2]
  simp only [List.isEmpty_cons, Bool.false_eq_true, if_false, List.contains_cons, List.contains_nil]
  have b3 : ∀ n : String, (Value.ref (cA K y) == Value.type n) = false := fun n => by
    cases q : (Value.ref (cA K y) == Value.type n) with
    | false => rfl
    | true => exact absurd (beq_iff_eq.mp q) (fun z => nomatch z)
  rw [nb _ _ ne, b3, b3, b3, b3]
  rfl
theorem facts {f : Addr} (X : K.In h) (G : h.Ns mainGlobals mg) (hfa : mg ("law" : Str) = some (.ref f)) (c : He.SaysD fa fn K) (ex : exB K = true) :
    ∃ fd : FuncData, (∀ (s : Shared) (v : Value), BindsTo s fd ⟨[v], []⟩ [("_law_script", v)]) ∧ ∀ base : Heap, K.In base → base.Ns mainGlobals mg → FnOkG P w K mg base 5 f fd ["_law_script"] (spLaw K) := by
  have e := ex_of ex
  obtain ⟨d0, F0⟩ := c.def_ 0 (d := dT 44 "_law_purse") rfl
  obtain ⟨d1, F1⟩ := c.def_ 1 (d := dT 45 "_law_mixed") rfl
  obtain ⟨d2, F2⟩ := c.def_ 2 (d := dT 46 "_law_draw") rfl
  obtain ⟨d3, F3⟩ := c.def_ 3 (d := dT 47 "_law_purses") rfl
  obtain ⟨d4, F4⟩ := c.def_ 4 (d := dT 48 "_law_one_of") rfl
  obtain ⟨d5, F5⟩ := c.def_ 5 (d := dT 49 "_law_word") rfl
  obtain ⟨d6, F6⟩ := c.def_ 6 (d := dT 50 "_law_first") rfl
  obtain ⟨d7, F7⟩ := c.def_ 7 (d := dT 51 "_law_called") rfl
  obtain ⟨d8, F8⟩ := c.def_ 8 (d := dT 52 "_law_bare") rfl
  obtain ⟨d9, F9⟩ := c.def_ 9 (d := dT 53 "_law_code") rfl
  obtain ⟨d10, F10⟩ := c.def_ 10 (d := dT 54 "_law_is_error") rfl
  obtain ⟨d11, F11⟩ := c.def_ 11 (d := dT 55 "_law_right") rfl
  obtain ⟨d12, F12⟩ := c.def_ 12 (d := dT 56 "law") rfl
  obtain ⟨d13, F13⟩ := c.def_ 13 (d := dS) rfl
  have gl : ∀ {x : Str}, He.Fa.glo x ∈ fa0 → mg x = some (.ref (He.ga K x)) := fun {x} hx => He.glo_ok X G (facM c (List.mem_append_left _ hx))
  have fr : ∀ {x : Str}, He.Fa.free x ∈ fa1 → mg x = none := fun {x} hx => He.free_ok X G (facM c (List.mem_append_right _ (List.mem_append_left _ hx)))
  have el : ∀ {α : Type} {l : List α} {i : Nat} {a : α}, l[i]? = some a → a ∈ l := fun h => List.mem_of_getElem? h
  have Z : Free mg := ⟨fr (el (i := 0) rfl), fr (el (i := 1) rfl), fr (el (i := 2) rfl), fr (el (i := 3) rfl), fr (el (i := 4) rfl), fr (el (i := 5) rfl), fr (el (i := 6) rfl), fr (el (i := 7) rfl), fr (el (i := 8) rfl), fr (el (i := 9) rfl), fr (el (i := 10) rfl), fr (el (i := 11) rfl)⟩
  have g0 := gl (x := "_law_purse") (el (i := 0) rfl)
  have g1 := gl (x := "_law_mixed") (el (i := 1) rfl)
  have g2 := gl (x := "_law_draw") (el (i := 2) rfl)
  have g3 := gl (x := "_law_purses") (el (i := 3) rfl)
  have g4 := gl (x := "_law_one_of") (el (i := 4) rfl)
  have g5 := gl (x := "_law_word") (el (i := 5) rfl)
  have g6 := gl (x := "_law_first") (el (i := 6) rfl)
  have g7 := gl (x := "_law_called") (el (i := 7) rfl)
  have g8 := gl (x := "_law_bare") (el (i := 8) rfl)
  have g9 := gl (x := "_law_code") (el (i := 9) rfl)
  have g10 := gl (x := "_law_is_error") (el (i := 10) rfl)
  have g11 := gl (x := "_law_right") (el (i := 11) rfl)
  have g12 := gl (x := "law") (el (i := 12) rfl)
  have gS := gl (x := "StoreError") (el (i := 13) rfl)
  have e12 := hfa.symm.trans g12
  cases e12
  have bL := FunD.bindsA (ps := ["_law_script"]) F12 fun _ _ _ _ _ _ us hl => match us, hl with | [_], _ => rfl
  refine ⟨d12, fun s v => bL s [v] rfl, fun base _ _ => ?_⟩
  have A0 : AllE P w K mg base := eOk_of X G c e
  have O0 := ok_purse (P := P) (w := w) (base := base) F0 Z
  have O2 := ok_draw (P := P) (w := w) (base := base) F2 Z F1 g1
  have O3 := ok_purses (P := P) (w := w) (base := base) F3 Z O0 F0 g0
  have O4 := ok_one (P := P) (w := w) (base := base) F4 Z O2 F2 g2
  have O5 := ok_word (P := P) (w := w) (base := base) F5 Z O2 F2 g2
  have O6 := ok_first F6 A0
  have O7 := ok_called F7 A0
  have O8 := ok_bare F8 A0
  have O9 := ok_code (P := P) (w := w) (base := base) F9 Z (fun x hx => gloE X G c hx)
  have O10 := ok_isE (P := P) (w := w) (base := base) F10 Z gS
  have hK : SysK K := by
    have z := e.once
    unfold onceB at z
    exact sysB_ok (He.ba z).1
  have O11 := ok_right (P := P) (w := w) (base := base) F11 Z (tab_of e) hK g9 F9 O9 g10 F10 O10 (fun x hx => (A0 x hx).T)
  obtain ⟨s1, s2, s3, s4, s5⟩ := clB_ok e.st e.once
  have TS : StC K (cA K "StoreError") (iA K "StoreError") := ⟨s1, s3, s4, s5⟩
  have hve : PySem.W.findCls K (.type "ValueError") (.type "type") "__init__" = some (.val (.builtin "ValueError.__init__")) := by
    have z := e.once
    unfold onceB at z
    exact veI_ok (He.ba (He.ba (He.ba z).2).2).2
  have OS := ok_st (P := P) (w := w) (base := base) F13 TS Z.ve hve
  have bS : Binds K d13 ["self"] [] := FunD.bindsN (ps := ["self"]) F13 fun _ _ _ _ _ _ us hl => match us, hl with | [_], _ => rfl
  obtain ⟨cd, m1, m2⟩ := e.mroS
  exact ok_law F12 Z hK g3 F3 O3 g5 F5 O5 g4 F4 O4 g6 F6 O6 g7 F7 O7 g8 F8 O8 g11 F11 O11 g10 F10 O10 g9 F9 O9 gS TS OS (fun s a' X' => bS s [.ref a'] X' rfl) (kS_of e)
    (by unfold PySem.W.kitOne; rw [if_pos (beq_self_eq_true _)]) (kit_ve ⟨cd, m1, by rw [m2]; rfl, by rw [m2]; simp⟩)
end
end K01
open PySem PySem.W PySem.Calls PyProof.Rows
theorem PySem.Challenge.cw_weavestore_k01_errors_made_holds : PySem.Challenge.rw_weavestore_k01_errors_made.Holds := by
  w_on; o_law
  refine HandSHeadRun.head_any (r := OpenLaw.row PySem.Challenge.rw_weavestore_k01_errors_made) (q := view (OpenLaw.row PySem.Challenge.rw_weavestore_k01_errors_made).prog [56]) (H := K01.hk) (ob := K01.ob) (M := 20000) (loose := K01.names) (d := HandSHeadRun.topDef (OpenLaw.row PySem.Challenge.rw_weavestore_k01_errors_made).prog 56) (kwd := []) K01.ob_eq
    (by kernel_rfl) (fun s => by kernel_rfl) K01.run (by kernel_rfl) (by kernel_rfl) (by kernel_rfl) (by rfl) (by first | assumption | decide +kernel) (by decide +kernel) ⟨rfl, rfl, rfl, rfl, rfl, by decide +kernel⟩ ?hw ?hc
  case hw => w_witness2
  case hc =>
    refine L2.walk_ofG (l := PySem.Challenge.rw_weavestore_k01_errors_made) (n := 63) (k := 5) (x := "_law_script") rfl (by decide) (by kernel_rfl) ⟨rfl, by decide, by decide⟩ ?F
    intro w mg fa h Y G hmg0
    obtain ⟨K, KX, c, ex⟩ := Y
    have hmg : mg ("law" : PySem.Str) = some (.ref fa) := by
      have e : (HandSHeadRun.topDef (OpenLaw.row PySem.Challenge.rw_weavestore_k01_errors_made).prog 56).name = ("law" : PySem.Str) := by kernel_rfl
      rw [← e]
      exact hmg0
    obtain ⟨fd, hb, hF⟩ := K01.facts (P := (PySem.Challenge.rw_weavestore_k01_errors_made).prog) (w := w) KX G hmg c ex
    exact ⟨K, fd, K01.spLaw K, KX, hb, fun H a ns hl _ hS => ⟨a, ns, rfl, hS, fun _ => rfl⟩, hF⟩
