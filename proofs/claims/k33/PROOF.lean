import PyProof.Rows.All
import Wide.All
import OpenK.AllK
import Wide.FinOn
import KE.KStateDown
import KE.KIsAll
import HandS.Words
import HandS.Exc
import HandS.ExcInit
import HandS.ExcIs
import HandS.ExcField
import HandS.Defaults
import HandS.Head0
import HandS.Head1
import HandS.Head2
import HandS.HeadHook1
import HandS.HeadHook2
import PySem.Challenge.RW_weavestore_k33_whole_openings_and_openin
import HandS.ForMost
import HandS.Wide
import HandS.WideBits
import HandS.Ends
import HandS.HeadEnd
import HandS.Walk
import HandS.IsInst
import HandS.Style
import HandS.Zip
import HandS.Conv
import HandS.Deep
import HandS.SortKw
import HandS.SetBool
import HandS.Strs
import PyProof.MinMaxWalk
import PyProof.WalkInts
import HandS.Text
import HandS.Iter
import KE.GoesMore
import PyProof.EnumMake
import PyProof.Draws
import PyProof.FitsInt
import HandS.DictEq
import HandS.DictComp
import HandS.More
import HandS.Dict
import HandS.ListItems
import PyProof.ListStr
import HandS.Codes
import PyProof.NeData
import KE.SortData
import PyProof.EqAt
import PyProof.EqKinds
import PyProof.TupleCall
import KE.KTryMore
import HandS.ExcValue
import HandS.WordsExc
import KE.KDictList
import HandS.MakeKw
set_option Elab.async false
set_option linter.all false
set_option maxRecDepth 100000
set_option maxHeartbeats 0
/-! What is read of the heap that the module's top leaves, and the run of it. -/
namespace K33
open PySem PySem.Spec PyProof.Rows L2
def top (i : Nat) : Stmt := PySem.Challenge.pw_weavestore_k33_whole_openings_and_openin.main.body.getD i (.Pass ⟨0, 0, 0, 0⟩)
/-- the class Refused, StoreError, the __init__ of Refused -/
abbrev cR (K : PySem.W.Frag) : Addr := He.ga K "Refused"
abbrev cS (K : PySem.W.Frag) : Addr := He.ga K "StoreError"
abbrev iR (K : PySem.W.Frag) : Addr := He.ma K (He.ga K "Refused") "__init__"
/-- the class object at C, as OexC wants it -/
def oexB (K : PySem.W.Frag) (C : Addr) : Bool := match K.lookup C with
  | some ⟨.type "type", _, .cls cd, sl⟩ => (match cd.mro, sl.toList with
    | .ref C' :: bm, [_, _, _, _, some (.builtin n), _] => decide (C' = C) && (decide (n = "ValueError.__new__") && (!cd.hasDel && (cd.hasDict && PySem.HandSPX.refsVE bm)))
    | _, _ => false)
  | _ => false
/-- what is read of a class of errors -/
def clB (K : PySem.W.Frag) (C : Addr) (I : Addr) : Bool :=
  oexB K C && (decide (PySem.W.findIn K (.ref C) "__setattr__" = some (some (.builtin "object.__setattr__"))) && (decide (PySem.W.subIn K (.ref C) (.type "BaseException") = some true) &&
  (decide (PySem.W.typeIn K (.ref C) = some (.type "type")) && (PySem.W.keepIn K (.ref C) &&
  (decide (PySem.W.findIn K (.ref C) "__getattribute__" = some (some (.builtin "BaseException.__getattribute__"))) && (decide (PySem.W.findIn K (.ref C) "__getattr__" = some none) &&
  (PySem.W.hasDictIn K C && (decide (PySem.W.findIn K (.ref C) "__class__" = some (some (.builtin "object.__class__"))) && (decide (PySem.W.mroIn K C (.type "object") = some true) &&
  (decide (PySem.W.findIn K (.ref C) "__init__" = some (some (.ref I))) && decide (PySem.W.typeIn K (.ref I) = some (.type "function"))))))))))))
/-- what is read once -/
def onceB (K : PySem.W.Frag) : Bool := decide (PySem.W.specialIn K (.builtin "object.__class__") "__get__" = some (some (.builtin "getset_descriptor.__get__"))) && decide (PySem.W.takesIn K (.builtin "object.__class__") = some true)
def exB (K : PySem.W.Frag) : Bool := onceB K && (clB K (cR K) (iR K) && (decide (PySem.W.findIn K (.ref (cR K)) "value" = some none) &&
  (decide (PySem.W.exmOne K (.ref (cR K)) (.ref (cS K)) = some true) && decide (PySem.W.kitOne K (.ref (cR K)) (.ref (cR K)) = some true))))
def dE (i : Nat) (x q : Str) : He.DefD := ⟨(x, some "__init__"), "__init__", q, defArgs (inClass (top i) 0), defBody (inClass (top i) 0), defScope (inClass (top i) 0), [.non], []⟩
def dT (i : Nat) (x : Str) : He.DefD := ⟨(x, none), x, x, defArgs (top i), defBody (top i), defScope (top i), [], []⟩
def fn0 : List He.DefD := [dT 10 "is_whole_number", dT 11 "is_count", dT 12 "is_tuple_of", dT 13 "ascends", dT 14 "are_ascending_counts", dT 15 "is_word", dT 17 "need_count", dT 19 "are_words", dT 20 "is_deed", dT 23 "figures_of", dT 27 "without_closing", dT 28 "words_text", dT 29 "text_of_deed", dT 30 "fits_line", dT 32 "is_line"]
def fn1 : List He.DefD := [dT 33 "head_of", dT 35 "need_chain", dT 36 "up_to_commit", dT 38 "beginning", dT 39 "last_committed", dT 40 "deeds_of", dT 41 "need_stamps_and_lines", dT 42 "opened", dT 43 "lines_told", dT 45 "_law_purse", dT 46 "_law_mixed", dT 47 "_law_draw", dT 48 "_law_purses", dT 49 "_law_one_of", dT 50 "_law_same"]
def fn2 : List He.DefD := [dT 51 "_law_exact", dT 52 "_law_word", dT 53 "_law_words", dT 54 "_law_speech", dT 55 "_law_log", dT 56 "_law_sheets", dT 57 "_law_of_pages", dT 58 "_law_marks_at", dT 59 "_law_too_new", dT 60 "_law_drawn_marks", dT 61 "_law_right_marks", dT 62 "_law_chained", dT 63 "_law_end_of", dT 64 "_law_opened_right", dT 65 "_law_shifted"]
def fn3 : List He.DefD := [dT 66 "_law_begun", dT 67 "_law_opening_refused_with", dT 68 "law"]
def fnE : List He.DefD := [dE 5 "Refused" "Refused.__init__"]
def fn : List He.DefD := (fn0 ++ (fn1 ++ (fn2 ++ (fn3)))) ++ fnE
def gn0 : List Str := ["is_whole_number", "is_count", "is_tuple_of", "ascends", "are_ascending_counts", "is_word", "need_count", "are_words", "is_deed", "figures_of", "without_closing", "words_text", "text_of_deed", "fits_line", "is_line"]
def gn1 : List Str := ["head_of", "need_chain", "up_to_commit", "beginning", "last_committed", "deeds_of", "need_stamps_and_lines", "opened", "lines_told", "_law_purse", "_law_mixed", "_law_draw", "_law_purses", "_law_one_of", "_law_same"]
def gn2 : List Str := ["_law_exact", "_law_word", "_law_words", "_law_speech", "_law_log", "_law_sheets", "_law_of_pages", "_law_marks_at", "_law_too_new", "_law_drawn_marks", "_law_right_marks", "_law_chained", "_law_end_of", "_law_opened_right", "_law_shifted"]
def gn3 : List Str := ["_law_begun", "_law_opening_refused_with", "law"]
def gn : List Str := gn0 ++ (gn1 ++ (gn2 ++ (gn3)))
def fa0 : List He.Fa := gn.map He.Fa.glo
def fa1 : List He.Fa := [.free "sum", .free "int", .free "max", .free "min", .free "len", .free "range", .free "isinstance", .free "all", .free "any", .free "zip", .free "divmod", .free "reversed", .free "enumerate", .free "set", .free "list", .free "tuple", .free "dict", .free "bool", .free "str", .free "sorted"]
def fa2 : List He.Fa := [.str "LETTERS" "abcdefghijklmnopqrstuvwxyz", .int "MOST_LETTERS" 8, .int "GREAT_PRIME" 2305843009213693951, .int "AT_ONCE" 64, .int "MOST_SIGNS" 144, .str "NOTHING" "-", .glo "Refused", .glo "StoreError"]
def fa : List He.Fa := fa0 ++ (fa1 ++ fa2)
def names0 : List Str := ["StoreError", "InvalidStamps", "InvalidChain", "InvalidCount", "Refused", "GREAT_PRIME", "LETTERS", "MOST_LETTERS", "is_whole_number", "is_count", "is_tuple_of", "ascends", "are_ascending_counts", "is_word", "need_count"]
def names1 : List Str := ["are_words", "is_deed", "AT_ONCE", "figures_of", "MOST_SIGNS", "NOTHING", "without_closing", "words_text", "text_of_deed", "fits_line", "is_line", "head_of", "need_chain", "up_to_commit", "beginning"]
def names2 : List Str := ["last_committed", "deeds_of", "need_stamps_and_lines", "opened", "lines_told", "_law_purse", "_law_mixed", "_law_draw", "_law_purses", "_law_one_of", "_law_same", "_law_exact", "_law_word", "_law_words", "_law_speech"]
def names3 : List Str := ["_law_log", "_law_sheets", "_law_of_pages", "_law_marks_at", "_law_too_new", "_law_drawn_marks", "_law_right_marks", "_law_chained", "_law_end_of", "_law_opened_right", "_law_shifted", "_law_begun", "_law_opening_refused_with"]
def names : List Str := names0 ++ (names1 ++ (names2 ++ (names3)))
abbrev R : PySem.W.OpenRow := PySem.W.OpenLaw.row PySem.Challenge.rw_weavestore_k33_whole_openings_and_openin
abbrev qv : Program := PySem.W.view R.prog [68]
abbrev AlX : Type := He.AlD × Bool
def obX (K : PySem.W.Frag) : AlX := (He.obsD fa fn K, exB K)
/-- what an object of these names, one step on -/
def tgt (g : Addr → Option Obj) (a : Addr) : List Addr := match g a with
  | some o => (match o.data with
    | .cls cd => [cd.ns]
    | .func fd => He.refV fd.code ++ He.refV fd.defaults
    | .dict es _ => es.toList.flatMap fun e => He.refV e.val
    | _ => [])
  | none => []
def as1 (g : Addr → Option Obj) : List Addr := tgt g mainGlobals
def as2 (g : Addr → Option Obj) : List Addr := (as1 g).flatMap (tgt g)
def as3 (g : Addr → Option Obj) : List Addr := (as2 g).flatMap (tgt g)
def as4 (g : Addr → Option Obj) : List Addr := (as3 g).flatMap (tgt g)
def obG (g : Addr → Option Obj) : AlX := obX (He.frG g (sysModules :: mainGlobals :: (as1 g ++ (as2 g ++ (as3 g ++ as4 g)))))
def hk : PySem.W.Hook where
  α := AlX
  obs := fun s => obG s.heap.get?
  val := fun _ => (He.valD fn, true)
  says := fun _ h => ∃ K : PySem.W.Frag, K.In h ∧ He.SaysD fa fn K ∧ exB K = true
  of := fun _ _ e => ⟨_, He.frG_in, congrArg (fun z : AlX => z.1) e, congrArg (fun z : AlX => z.2) e⟩
  keeps := fun _ _ _ ⟨K, hK, c⟩ k => ⟨K, PySem.W.Frag.In.keeps hK k, c⟩
def ob (s : PySem.W.SharedT) : AlX := obG (HandSHeadRun.getT s)
theorem ob_eq (s : PySem.W.SharedT) : ob s = hk.obs s.abs := by
  have e : HandSHeadRun.getT s = s.abs.heap.get? := funext (HandSHeadRun.getT_eq s)
  show obG (HandSHeadRun.getT s) = obG s.abs.heap.get?
  rw [e]
theorem run (w : World) : HandSHeadRun.RunEq R qv hk ob 20000 names w := by
  intro os
  kernel_rfl
end K33
set_option Elab.async false
set_option linter.all false
set_option maxRecDepth 100000
set_option maxHeartbeats 4000000
/-! What does not speak of a law: purses, what is left as it was, walks. -/
namespace L2
open PySem PySem.Spec PyProof.Rows
theorem Same.updf {H : Hp} {p : Addr} {o : HO} (h : H p = none) : Same H (L2.upd H p o) := fun b o' e => by
  rw [upd_ne (ne_of_none e h)]
  exact e
/-- a comprehension whose turns change nothing that stands: what it gives at each turn, if anything -/
theorem lc_sel {J : It} {n : Nat} {G : Hp → Prop} {Y : Nat → Hp → V → Hp → Prop} (w : Walk J n G Y) {g : TG} {tt : TT} {te : TE} {vs : List Nat} {σ : St} {H1 : Hp} {D : Addr} {Qd : Hp → Prop} (f : Nat → Option V) (hn : n ≤ 100000) (hD : H1 D = none)
    (hG : ∀ H, Same H1 H → G H)
    (hs : ∀ i x H H' (Qy : V → Hp → Prop) (Qn : Hp → Prop), i < n → Same H1 H → Y i H x H' → (∀ y H4, Same H H4 → f i = some y → Qy y H4) → (∀ H4, Same H H4 → f i = none → Qn H4) →
      g x (wipe σ vs) H' fun σ2 H2 => wipe σ2 vs = wipe σ vs ∧ tt σ2 H2 fun b H3 => if b = true then te σ2 H3 Qy else Qn H3)
    (hd : ∀ H, Same H1 H → H D = some (.lst ((List.range n).filterMap f)) → Qd H) :
    ∃ W : Nat → Nat → Hp → Prop, (∃ m, W 0 m (upd H1 D (.lst []))) ∧ ∀ i m H, W i m H →
      (J.stop i H ∧ Qd H) ∨ (J.go i H ∧ ∃ Nx : Hp → Prop, (∀ H', Nx H' → ∃ m', m' < m ∧ W (i + 1) m' H') ∧ ∀ x H', J.yld i H x H' → g x (wipe σ vs) H' fun σ2 H2 => wipe σ2 vs = wipe σ vs ∧ tt σ2 H2 fun b H3 =>
        if b = true then te σ2 H3 fun y H4 => ∃ acc, H4 D = some (.lst acc) ∧ acc.length < sizeLine ∧ Nx (upd H4 D (.lst (acc ++ [y]))) else Nx H3) := by
  refine lc_it w (fun i H => Same H1 H ∧ H D = some (.lst ((List.range i).filterMap f))) ⟨Same.updf hD, upd_same⟩ (fun i H _ h => hG H h.1) (fun i x H H' hi hP hy => ?_) (fun H h => hd H h.1 h.2)
  refine hs i x H H' _ _ hi hP.1 hy (fun y H4 s4 e => ?_) (fun H4 s4 e => ?_)
  · refine ⟨_, s4 _ _ hP.2, ?_, fun b o eb => ?_, ?_⟩
    · have l1 : ((List.range i).filterMap f).length ≤ i := by
        have := List.length_filterMap_le f (List.range i)
        rw [List.length_range] at this
        exact this
      have l2 : (100000 : Nat) < sizeLine := by decide
      omega
    · rw [upd_ne (ne_of_none eb hD)]
      exact s4 _ _ (hP.1 _ _ eb)
    · rw [upd_same, List.range_succ, List.filterMap_append, List.filterMap_cons, e]
      rfl
  · refine ⟨hP.1.trans s4, ?_⟩
    rw [List.range_succ, List.filterMap_append, List.filterMap_cons, e, List.filterMap_nil, List.append_nil]
    exact s4 _ _ hP.2
/-- a pair's two names: the tuple is new -/
theorem pair_st {i j : Nat} {xs ys : Nat → Option V} {t : Nat} {σ : St} {H H' : Hp} {v : V} {Q : St → Hp → Prop} (y : YPair xs ys t H v H') {K : PySem.W.Frag}
    (k : ∀ x z, xs t = some x → ys t = some z → Same H H' → ∃ T, v = .ref T ∧ SqT K H' T [x, z] ∧ Q ((σ.set i (some x)).set j (some z)) H') :
    ∃ x z T, v = .ref T ∧ SqT K H' T [x, z] ∧ Q ((σ.set i (some x)).set j (some z)) H' := by
  obtain ⟨T, x, z, h1, h2, h3, h4, h5⟩ := y
  obtain ⟨T', e1, e2, e3⟩ := k x z h4 h5 (by rw [h3]; exact Same.updf h2)
  exact ⟨x, z, T', e1, e2, e3⟩
end L2
namespace KB
open PySem PySem.Spec PyProof.Rows L2
/-- built-in names that the module leaves free -/
structure Free (mg : Str → Option Value) : Prop where
  sum : mg "sum" = none
  int : mg "int" = none
  max : mg "max" = none
  min : mg "min" = none
  len : mg "len" = none
  range : mg "range" = none
  isi : mg "isinstance" = none
  all : mg "all" = none
  any : mg "any" = none
  zip : mg "zip" = none
  divmod : mg "divmod" = none
  reversed : mg "reversed" = none
  enumerate : mg "enumerate" = none
  tset : mg "set" = none
  tlist : mg "list" = none
  ttuple : mg "tuple" = none
  tdict : mg "dict" = none
  tbool : mg "bool" = none
theorem op_powL {X : Cx} : OpR X (binaryOp .Pow) (rI (fun i n => 0 ≤ n ∧ (Builtin.Int.intBits i : Int) * n ≤ 2 ^ 27) fun i j => .int (i ^ j.toNat)) :=
  opI fun _ _ _ _ _ _ _ hc q => pow_int hc.1 hc.2 q
/-- a purse: what is left of a great number, the seed, how often it was mixed, the place -/
structure Purse (H : Hp) (p : Addr) (N : Nat) : Prop where
  at_ : ∃ A B c i : Int, H p = some (.lst [.int A, .int B, .int c, .int i]) ∧ (0 ≤ B ∧ B < 2147483648) ∧ 0 ≤ A ∧ 0 ≤ c ∧ c ≤ (N : Int)
theorem Purse.mono {H : Hp} {p : Addr} {N M : Nat} (h : Purse H p N) (l : N ≤ M) : Purse H p M := by
  obtain ⟨A, B, c, i, e, hB, h1, h2, h3⟩ := h
  exact ⟨A, B, c, i, e, hB, h1, h2, by omega⟩
theorem Purse.same {H H' : Hp} {p : Addr} {N : Nat} (k : Same H H') (h : Purse H p N) : Purse H' p N := by
  obtain ⟨A, B, c, i, e, r⟩ := h
  exact ⟨A, B, c, i, k _ _ e, r⟩
/-- all but p stands as it did -/
def But (p : Addr) (H H' : Hp) : Prop := ∀ b o, b ≠ p → H b = some o → H' b = some o
theorem But.refl (p : Addr) (H : Hp) : But p H H := fun _ _ _ e => e
theorem But.trans {p : Addr} {H H1 H2 : Hp} (a : But p H H1) (b : But p H1 H2) : But p H H2 := fun x o n e => b x o n (a x o n e)
theorem But.of {p : Addr} {H H' : Hp} (k : Same H H') : But p H H' := fun b o _ e => k b o e
theorem But.upd {p : Addr} {H : Hp} {o : HO} : But p H (L2.upd H p o) := fun b o' n e => by
  rw [upd_ne n]
  exact e
theorem Same.upd {H : Hp} {p : Addr} {o : HO} (h : H p = none) : Same H (L2.upd H p o) := fun b o' e => by
  rw [upd_ne (ne_of_none e h)]
  exact e
theorem cut_map (ns : List Int) (lo hi : Option Int) : cutV (ns.map V.int) lo hi = ((ns.drop (HT.sIx (ns.map V.int).length 0 lo)).take (HT.sIx (ns.map V.int).length (ns.map V.int).length hi - HT.sIx (ns.map V.int).length 0 lo)).map V.int := by
  unfold cutV
  rw [List.map_take, List.map_drop]
def spPurse (K : PySem.W.Frag) : Sp := fun vs H Q _ => ∃ (a : Addr) (ns : List Int) (i : Int), vs = [.ref a, .int i] ∧ SqL K H a (ns.map V.int) ∧
  ∀ p H', Same H H' → H p = none → Purse H' p 0 → Q (.ref p) H'
/-- any rest there is -/
def spMixed : Sp := fun vs H Q _ => ∃ B c i : Int, vs = [.int B, .int c, .int i] ∧ (0 ≤ c ∧ c ≤ 2 ^ 60) ∧ ∀ r : Int, 0 ≤ r → r < 2147483587 → Q (.int r) H
/-- how often a draw of one of m mixes -/
def mixes (m : Int) : Nat := (1 + (Builtin.Int.intBits m : Int) / 28).toNat
def spDraw : Sp := fun vs H Q _ => ∃ (p : Addr) (m : Int) (N : Nat), vs = [.ref p, .int m] ∧ 1 ≤ m ∧ m.natAbs.log2 < 9000 ∧ Purse H p N ∧ N + mixes m ≤ 2 ^ 50 ∧ mixes m ≤ 2 ^ 50 ∧
  ∀ (r : Int) (H' : Hp), 0 ≤ r → r < m → But p H H' → Purse H' p (N + mixes m) → Q (.int r) H'
theorem mixes_one {m : Int} (h0 : 1 ≤ m) (h : m < 2 ^ 27) : mixes m = 1 := by
  have e : Builtin.Int.intBits m ≤ 27 := PyProof.Rows.intBits_le (by omega)
  unfold mixes
  omega
theorem log_small {m : Int} (h0 : 1 ≤ m) (h : m < 2 ^ 27) : m.natAbs.log2 < 9000 := by
  have e : m.natAbs < 2 ^ 27 := by omega
  have := PySem.Flt.log2_lt_of (by decide) e
  omega
theorem But.seq {K : PySem.W.Frag} {p a : Addr} {H H' : Hp} {xs : List V} (k : But p H H') (n : a ≠ p) (h : SqL K H a xs) : SqL K H' a xs := by
  rcases h with (h | ⟨o, h⟩) | h
  · exact .inl (.inl (k _ _ n h))
  · exact .inl (.inr ⟨o, k _ _ n h⟩)
  · exact .inr h
/-- purses(script, 1): the list of one purse -/
def spPurses (K : PySem.W.Frag) : Sp := fun vs H Q _ => ∃ (a : Addr) (ns : List Int), vs = [.ref a, .int 1] ∧ SqL K H a (ns.map V.int) ∧
  ∀ q p H', Same H H' → H p = none → H q = none → p ≠ q → H' q = some (.lst [.ref p]) → Purse H' p 0 → Q (.ref q) H'
def spOne (K : PySem.W.Frag) : Sp := fun vs H Q _ => ∃ (p q : Addr) (xs : List V) (N : Nat), vs = [.ref p, .ref q] ∧ q ≠ p ∧ SqL K H q xs ∧ 1 ≤ xs.length ∧ xs.length ≤ 1000000 ∧ Purse H p N ∧ N ≤ 2 ^ 40 ∧
  ∀ x H', x ∈ xs → But p H H' → Purse H' p (N + 1) → Q x H'

theorem none_back {H H' : Hp} {q : Addr} (k : Same H H') (h : H' q = none) : H q = none := by
  cases e : H q with
  | none => rfl
  | some o =>
    have := k _ _ e
    rw [h] at this
    cases this
theorem mixes_le {m : Int} (h0 : 1 ≤ m) (h : m < 2 ^ 62) : mixes m ≤ 3 := by
  have e : Builtin.Int.intBits m ≤ 62 := PyProof.Rows.intBits_le (by omega)
  unfold mixes
  omega
theorem via_nx {f b c : L2.St → Hp → Prop} {r : VK} {σ : L2.St} {H : Hp} (h : f σ H) : (Ends.mk f r b c).nx σ H := h
theorem via_seq {t u : TS} {D : Ends} {σ : L2.St} {H : Hp} (h : t { D with nx := u D } σ H) : tSeq t u D σ H := h
theorem via_asg {te : TE} {g : TG} {D : Ends} {σ : L2.St} {H : Hp} (h : te σ H fun x H1 => g x σ H1 D.nx) : tAsg te g D σ H := h
theorem fresh_ne {X : Hp} {pu b : Addr} {M : Nat} (h : Purse X pu M) (hb : X b = none) : b ≠ pu := fun e => by
  obtain ⟨A0, B, c, i, e2, _⟩ := h
  rw [e, e2] at hb
  cases hb
theorem But.none {pu b : Addr} {X Y : Hp} (k : But pu X Y) (ne : b ≠ pu) (h : Y b = none) : X b = none := by
  cases e : X b with
  | none => rfl
  | some o =>
    have := k _ _ ne e
    rw [h] at this
    cases this
theorem Purse.same' {H H' : Hp} {p : Addr} {N : Nat} (k : H' p = H p) (h : Purse H p N) : Purse H' p N := by
  obtain ⟨A, B, c, i, e, r⟩ := h
  exact ⟨A, B, c, i, k.trans e, r⟩

/-- a statement that is never come to -/
theorem ps_dead {X : Cx} {st : Stmt} : PS X st (fun _ _ _ => False) := ⟨fun _ _ _ _ _ _ h => h.elim⟩
end KB
set_option Elab.async false
set_option linter.all false
set_option maxRecDepth 100000
set_option maxHeartbeats 4000000
/-! Data on the tracked heap; what is counted; the greatest of a list that may be empty. -/
namespace L2
open PySem PySem.Spec PyProof.Rows
open RZ
theorem walk_zipT {K : PySem.W.Frag} {a b : Addr} {xs ys : List V} {n : Nat} (hn : n = min xs.length ys.length) : Walk (ItzT K a b) n (fun H => SqT K H a xs ∧ SqT K H b ys) (YPair (fun i => xs[i]?) (fun i => ys[i]?)) where
  goes := fun i _ hi q => ⟨xs, ys, xs[i]'(by omega), ys[i]'(by omega), q.1, q.2, List.getElem?_eq_getElem _, List.getElem?_eq_getElem _⟩
  stops := fun _ q => ⟨xs, ys, q.1, q.2, by omega⟩
  yields := fun i H v H' _ q y => by
    obtain ⟨T, x, z, e1, e2, e3, e4, e5⟩ := y
    exact ⟨T, x, z, e1, e2, e3, e4 _ q.1, e5 _ q.2⟩
section
variable {X : Cx}
/-- how often a datum stands in a list of data -/
def rCountD (K : PySem.W.Frag) : V → List V → Hp → VK → Prop := fun x zs H Q => ∃ (a : Addr) (y : V) (d : PyData) (ds : List PyData), x = V.ref a ∧ zs = [y] ∧ Dp K H (V.ref a) (.list ds) ∧ Dp K H y d ∧ SeqAt.shaped (.list ds) = true ∧ SeqAt.shaped d = true ∧
  Q (.int ((ds.countP fun z => PyData.eqv z d : Nat) : Int)) H
theorem mt_countD (hu : X.A.units + 65 < cLine) : MtR X "list.count" (rCountD X.K) := by
  intro pins s σ H x zs v us Q I rx rz h
  obtain ⟨a, y, d, ds, rfl, rfl, hL, hY, sL, sY, q⟩ := h
  obtain ⟨w, rfl, rw'⟩ := rz.one
  cases rx
  obtain ⟨bs, rY⟩ := Dp.reads I d y w hY rw'
  have cL : PyData.canLayAll0 ds = true := SeqAt.canLay_of_shaped sL
  cases hL with
  | lst hs hA =>
    obtain ⟨its, rv, ⟨⟨c0, d0, dat, sl0⟩, k0, hob, hcl, _, hda⟩, _⟩ := I.list hs
    dsimp only at hcl hda
    subst hcl hda
    obtain ⟨as, rA⟩ := Dp.readsAll I ds _ its hA rv
    have em : its.map (SeqAt.readOf s.heap) = ds := SeqAt.readsAll_map ds its as cL rA
    refine call_meets PySem.F.slot_list_count ⟨_, hob, rfl⟩ PySem.F.entry_list_count (PySem.F.args_list_count_2 _ _)
      (SeqAt.list_countAt a its.toArray k0 d0 sl0 w fun u => PyData.eqv (SeqAt.readOf s.heap u) d) ⟨hob, ?_, ?_⟩
    · exact SeqAt.items_eqAt (vs := its.toArray) (show ReadsAll s.heap its.toArray.toList ds as from rA) rY cL (SeqAt.canLay_of_shaped sY) (room_in_shaped sY hu)
    · refine ⟨.int (its.toArray.toList.countP fun u => PyData.eqv (SeqAt.readOf s.heap u) d : Nat), H, I.tok _, ⟨_, rfl⟩, ?_⟩
      have e : ((its.toArray.toList.countP fun u => PyData.eqv (SeqAt.readOf s.heap u) d : Nat) : Int) = ((ds.countP fun z => PyData.eqv z d : Nat) : Int) := by
        rw [← em, List.countP_map]
        rfl
      rw [e]
      exact q
end
end L2
namespace KB
open PySem PySem.Spec PyProof.Rows L2
/-- a value that is no object -/
inductive FlatD : V → PyData → Prop
  | non : FlatD .non .none
  | bl (b : Bool) : FlatD (.bl b) (.bool b)
  | int (i : Int) : FlatD (.int i) (.int i)
  | str (x : Str) : FlatD (.str x) (.str x)
/-- a value that stands for a datum: lists and tuples, each tracked, nested at most so deep -/
def Tr (H : Hp) : Nat → V → PyData → Prop
  | 0, x, d => FlatD x d
  | n + 1, x, d => FlatD x d ∨ ∃ (a : Addr) (xs : List V) (ds : List PyData), x = .ref a ∧ xs.length = ds.length ∧ ds.length ≤ 1000 ∧ ((H a = some (.lst xs) ∧ d = .list ds) ∨ (H a = some (.tup xs) ∧ d = .tuple ds)) ∧
      ∀ (i : Nat) (u : V) (e : PyData), xs[i]? = some u → ds[i]? = some e → Tr H n u e
theorem Tr.same {H H' : Hp} (k : Same H H') : ∀ {n : Nat} {x : V} {d : PyData}, Tr H n x d → Tr H' n x d
  | 0, _, _, h => h
  | n + 1, _, _, h => by
    rcases h with h | ⟨a, xs, ds, e1, e2, e3, e4, e5⟩
    · exact .inl h
    · exact .inr ⟨a, xs, ds, e1, e2, e3, e4.elim (fun z => .inl ⟨k _ _ z.1, z.2⟩) (fun z => .inr ⟨k _ _ z.1, z.2⟩), fun i u e h1 h2 => Tr.same k (e5 i u e h1 h2)⟩
theorem Tr.up {H : Hp} : ∀ {n : Nat} {x : V} {d : PyData}, Tr H n x d → Tr H (n + 1) x d
  | 0, _, _, h => .inl h
  | n + 1, _, _, h => by
    rcases h with h | ⟨a, xs, ds, e1, e2, e3, e4, e5⟩
    · exact .inl h
    · exact .inr ⟨a, xs, ds, e1, e2, e3, e4, fun i u e h1 h2 => Tr.up (e5 i u e h1 h2)⟩
theorem Tr.flat {H : Hp} {n : Nat} {x : V} {d : PyData} (h : FlatD x d) : Tr H n x d := by
  cases n with
  | zero => exact h
  | succ n => exact .inl h
theorem Tr.lst {H : Hp} {n : Nat} {a : Addr} {xs : List V} {ds : List PyData} (h : H a = some (.lst xs)) (l : xs.length = ds.length) (s : ds.length ≤ 1000) (k : ∀ (i : Nat) (u : V) (e : PyData), xs[i]? = some u → ds[i]? = some e → Tr H n u e) : Tr H (n + 1) (.ref a) (.list ds) :=
  .inr ⟨a, xs, ds, rfl, l, s, .inl ⟨h, rfl⟩, k⟩
theorem Tr.tup {H : Hp} {n : Nat} {a : Addr} {xs : List V} {ds : List PyData} (h : H a = some (.tup xs)) (l : xs.length = ds.length) (s : ds.length ≤ 1000) (k : ∀ (i : Nat) (u : V) (e : PyData), xs[i]? = some u → ds[i]? = some e → Tr H n u e) : Tr H (n + 1) (.ref a) (.tuple ds) :=
  .inr ⟨a, xs, ds, rfl, l, s, .inr ⟨h, rfl⟩, k⟩
/-- item by item -/
theorem tr_cons {H : Hp} {n : Nat} {x : V} {xs : List V} {d : PyData} {ds : List PyData} (h : Tr H n x d) (k : ∀ (i : Nat) (u : V) (e : PyData), xs[i]? = some u → ds[i]? = some e → Tr H n u e) : ∀ (i : Nat) (u : V) (e : PyData), (x :: xs)[i]? = some u → (d :: ds)[i]? = some e → Tr H n u e
  | 0, _, _, h1, h2 => by
    obtain rfl := Option.some.inj h1
    obtain rfl := Option.some.inj h2
    exact h
  | i + 1, u, e, h1, h2 => k i u e h1 h2
theorem tr_nil {H : Hp} {n : Nat} : ∀ (i : Nat) (u : V) (e : PyData), ([] : List V)[i]? = some u → ([] : List PyData)[i]? = some e → Tr H n u e := fun i u e h1 h2 => by simp at h1
theorem tr_snoc {H : Hp} {n : Nat} {x : V} {xs : List V} {d : PyData} {ds : List PyData} (l : xs.length = ds.length) (k : ∀ (i : Nat) (u : V) (e : PyData), xs[i]? = some u → ds[i]? = some e → Tr H n u e) (h : Tr H n x d) :
    ∀ (i : Nat) (u : V) (e : PyData), (xs ++ [x])[i]? = some u → (ds ++ [d])[i]? = some e → Tr H n u e := fun i u e h1 h2 => by
  by_cases hi : i < xs.length
  · rw [List.getElem?_append_left hi] at h1
    rw [List.getElem?_append_left (by omega)] at h2
    exact k i u e h1 h2
  · rw [List.getElem?_append_right (by omega)] at h1
    rw [List.getElem?_append_right (by omega)] at h2
    cases hj : i - xs.length with
    | zero =>
      rw [hj] at h1
      rw [show i - ds.length = 0 by omega] at h2
      obtain rfl := Option.some.inj h1
      obtain rfl := Option.some.inj h2
      exact h
    | succ j =>
      rw [hj] at h1
      simp at h1
theorem FlatD.dp {K : PySem.W.Frag} {H : Hp} {x : V} {d : PyData} (h : FlatD x d) : Dp K H x d := by
  cases h
  · exact .non
  · exact .bl _
  · exact .int _
  · exact .str _
theorem dpAll_of {K : PySem.W.Frag} {H : Hp} : ∀ {xs : List V} {ds : List PyData}, xs.length = ds.length → (∀ (i : Nat) (u : V) (e : PyData), xs[i]? = some u → ds[i]? = some e → Dp K H u e) → DpAll K H xs ds
  | [], [], _, _ => .nil
  | [], _ :: _, h, _ => by simp at h
  | _ :: _, [], h, _ => by simp at h
  | x :: xs, d :: ds, h, k => .cons (k 0 x d rfl rfl) (dpAll_of (by simpa using h) fun i u e h1 h2 => k (i + 1) u e h1 h2)
theorem Tr.dp {K : PySem.W.Frag} {H : Hp} : ∀ {n : Nat} {x : V} {d : PyData}, Tr H n x d → Dp K H x d
  | 0, _, _, h => FlatD.dp h
  | n + 1, _, _, h => by
    rcases h with h | ⟨a, xs, ds, rfl, e2, e3, e4, e5⟩
    · exact FlatD.dp h
    · rcases e4 with ⟨h, rfl⟩ | ⟨h, rfl⟩
      · exact .lst (SqL.of h) (dpAll_of e2 fun i u e h1 h2 => (e5 i u e h1 h2).dp)
      · exact .tup (SqT.of h) (dpAll_of e2 fun i u e h1 h2 => (e5 i u e h1 h2).dp)
/-- alike: both stand for one datum -/
def spExact (n : Nat) : Sp := fun vs H Q _ => ∃ (x y : V) (d : PyData), vs = [x, y] ∧ Tr H n x d ∧ Tr H n y d ∧ ∀ H', Same H H' → Q (.bl true) H'
theorem FlatD.ty {K : PySem.W.Frag} {H : Hp} {x : V} {d : PyData} (h : FlatD x d) : ∃ t, TyX K H x (.type t) ∧ kitB t "list" = some false ∧ kitB t "tuple" = some false ∧ kitB t "dict" = some false ∧ ∃ i b, kitB t "int" = some i ∧ kitB t "bool" = some b := by
  cases h with
  | non => exact ⟨"NoneType", .base .non, by decide +kernel, by decide +kernel, by decide +kernel, false, false, by decide +kernel, by decide +kernel⟩
  | bl b => exact ⟨"bool", .base (.bl b), by decide +kernel, by decide +kernel, by decide +kernel, true, true, by decide +kernel, by decide +kernel⟩
  | int i => exact ⟨"int", .base (.int i), by decide +kernel, by decide +kernel, by decide +kernel, true, false, by decide +kernel, by decide +kernel⟩
  | str z => exact ⟨"str", .base (.str z), by decide +kernel, by decide +kernel, by decide +kernel, false, false, by decide +kernel, by decide +kernel⟩
theorem FlatD.scal {x : V} {d : PyData} (h : FlatD x d) : scal x x = true := by
  cases h <;> rfl
theorem FlatD.eq {x y : V} {d : PyData} (h : FlatD x d) (h' : FlatD y d) : x = y := by
  cases h <;> cases h' <;> rfl
theorem FlatD.noL {x : V} {ds : List PyData} (h : FlatD x (.list ds)) : False := nomatch h
theorem FlatD.noT {x : V} {ds : List PyData} (h : FlatD x (.tuple ds)) : False := nomatch h
/-- all of a list that is true at each place -/
theorem all_bits {K : PySem.W.Frag} {n : Nat} {H : Hp} {D : Addr} (hR : H D = some (.lst ((List.range n).filterMap fun _ => some (V.bl true)))) : ∃ bs : List Bool, SqL K H D (bs.map V.bl) ∧ bs.all id = true := by
  refine ⟨List.replicate n true, ?_, ?_⟩
  · have e : ((List.range n).filterMap fun _ => some (V.bl true)) = (List.replicate n true).map V.bl := by
      rw [List.filterMap_eq_map', List.map_const', List.length_range, List.map_replicate]
    rw [e] at hR
    exact SqL.of hR
  · rw [List.all_eq_true]
    intro b hb
    exact (List.eq_of_mem_replicate hb)
end KB
set_option Elab.async false
set_option linter.all false
set_option maxRecDepth 100000
set_option maxHeartbeats 4000000
namespace K33
open PySem PySem.Spec PyProof.Rows L2 KB
abbrev FnP (K : PySem.W.Frag) (x : Str) (st : Stmt) (f : Addr) (fd : FuncData) : Prop := FunD K x x (defArgs st) (defBody st) (defScope st) [] [] f fd
abbrev sPurse : Stmt := top 45
abbrev sMixed : Stmt := top 46
abbrev sDraw : Stmt := top 47
section
variable {P : Program} {w : World} {K : PySem.W.Frag} {mg : Str → Option Value} {base : Heap} {f fM : Addr} {fd fdM : FuncData}
theorem scPurse : FnScope ["_law_script", "_law_at", "_law_seed"] ["_law_script", "_law_at"] (defScope sPurse) := ⟨rfl, rfl, rfl, by decide +kernel, rfl, by decide +kernel, by decide +kernel⟩
theorem ok_purse (F : FnP K "_law_purse" sPurse f fd) (Z : Free mg) : FnOk P w K mg base CX0 1 f fd ["_law_script", "_law_at"] (spPurse K) := by
  refine F.ok scPurse (fun vs H Q E h => ?_) (fun cdv A outer s H vs Q E hr h => ?_)
  · obtain ⟨a, ns, i, rfl, _⟩ := h
    rfl
  · obtain ⟨a, ns, i, rfl, hS, k⟩ := h
    have nd := scPurse.nd
    refine ⟨_, PSs.nox (pss_cons (ps_set (i := 2) nd rfl (Or.inl rfl) (pe_callB (cr_sum rfl) (by rfl) Z.sum (by decide +kernel) (pa_cons (pe_slice sl_list (pv 0) (po_some (pv 1)) (po_some (pe_op op_add (pv 1) pe_int))) pa_nil)))
      (pss_one (ps_ret (pe_lst (pa_cons (pe_op op_mod (pe_callTy call_int1 (by rfl) Z.int (by decide +kernel) (pa_cons (pe_callB (call_max2 rfl) (by rfl) Z.max (by decide +kernel)
          (pa_cons (pe_op op_sub (pv 2) (pe_op op_pow pe_int pe_int)) (pa_cons pe_int pa_nil))) pa_nil)) (pe_op op_powL (pe_op op_pow pe_int pe_int) pe_int))
        (pa_cons (pe_op op_mod (pe_callTy call_int1 (by rfl) Z.int (by decide +kernel) (pa_cons (pv 2) pa_nil)) pe_int) (pa_cons pe_int (pa_cons (pv 1) pa_nil)))))))), ?_⟩
    refine ⟨_, rfl, _, rfl, i, rfl, ?_⟩
    refine ⟨_, rfl, _, _, rfl, rfl, ?_⟩
    refine ⟨i + 1, rfl, a, _, rfl, hS, fun q hq => ?_⟩
    rw [cut_map]
    refine ⟨q, _, rfl, SqL.of upd_same, ?_⟩
    -- the list
    refine ⟨_, rfl, _, _, rfl, rfl, ⟨by decide, by decide, by decide⟩, _, _, rfl, rfl, ?_⟩
    refine ⟨_, _, rfl, Or.inl ⟨_, rfl, ?_⟩⟩
    refine ⟨_, _, rfl, rfl, ⟨by decide, by decide, by decide⟩, ?_⟩
    refine ⟨_, _, rfl, rfl, ⟨by decide, by decide +kernel⟩, ?_⟩
    refine ⟨_, _, rfl, rfl, (by show (0 : Int) < _; decide +kernel), ?_⟩
    refine ⟨_, rfl, Or.inl ⟨_, rfl, ?_⟩⟩
    refine ⟨_, _, rfl, rfl, (by show (0 : Int) < _; decide), ?_⟩
    refine ⟨_, rfl, (by show 4 ≤ sizeLine; decide), fun p hp => ?_⟩
    refine k p _ (Same.trans (Same.upd hq) (Same.upd hp)) ?_ ⟨_, _, 0, i, upd_same, ⟨Int.emod_nonneg _ (by decide), Int.lt_trans (Int.emod_lt_of_pos _ (by decide)) (by decide)⟩, Int.emod_nonneg _ (by decide +kernel), Int.le_refl _, Int.le_refl _⟩
    rw [upd_ne (fun e => by rw [e, upd_same] at hp; cases hp)] at hp
    exact hp
theorem scMixed : FnScope ["_law_seed", "_law_spin", "_law_at", "_law_mixed_here"] ["_law_seed", "_law_spin", "_law_at"] (defScope sMixed) := ⟨rfl, rfl, rfl, by decide +kernel, rfl, by decide +kernel, by decide +kernel⟩
theorem ok_mixed (F : FnP K "_law_mixed" sMixed f fd) (Z : Free mg) : FnOk P w K mg base CX0 1 f fd ["_law_seed", "_law_spin", "_law_at"] spMixed := by
  refine F.ok scMixed (fun vs H Q E h => ?_) (fun cdv A outer s H vs Q E hr h => ?_)
  · obtain ⟨B, c, i, rfl, _⟩ := h
    rfl
  · obtain ⟨B, c, i, rfl, ⟨hc0, hc1⟩, k⟩ := h
    have nd := scMixed.nd
    refine ⟨_, PSs.nox (pss_cons (ps_set (i := 3) nd rfl (Or.inl rfl) (pe_op op_add (pe_op op_mul (pv 0) pe_int) (pe_op op_mul (pe_op op_mul pe_int (pv 1)) (pv 1))))
      (pss_cons (ps_set (i := 3) nd rfl (Or.inl rfl) (pe_op op_mod (pe_callTy call_int1 (by rfl) Z.int (by decide +kernel) (pa_cons (pe_op op_add (pe_op op_add (pv 3) (pe_op op_mul pe_int (pv 2))) (pv 1)) pa_nil)) pe_int))
      (pss_cons (ps_set (i := 3) nd rfl (Or.inl rfl) (pe_op op_mod (pe_callTy call_int1 (by rfl) Z.int (by decide +kernel) (pa_cons (pe_op op_add (pe_op op_mul (pv 3) (pv 3)) pe_int) pa_nil)) pe_int))
      (pss_one (ps_ret (pe_op op_mod (pe_callTy call_int1 (by rfl) Z.int (by decide +kernel) (pa_cons (pe_op op_mul (pv 3) pe_int) pa_nil)) pe_int)))))), ?_⟩
    have c64 : -(2 ^ 64) < c ∧ c < 2 ^ 64 := ⟨by omega, by omega⟩
    refine ⟨_, rfl, _, _, rfl, rfl, Or.inr ⟨by decide, by decide⟩, ?_⟩
    refine ⟨_, rfl, _, _, rfl, rfl, Or.inl ⟨by decide, by decide⟩, ?_⟩
    refine ⟨_, rfl, _, _, rfl, rfl, Or.inr c64, ?_⟩
    refine ⟨_, _, rfl, rfl, ?_⟩
    refine ⟨_, rfl, _, rfl, _, _, rfl, rfl, Or.inl ⟨by decide, by decide⟩, ?_⟩
    refine ⟨_, _, rfl, rfl, _, rfl, _, _, rfl, rfl, ?_⟩
    refine Or.inl ⟨_, rfl, ?_⟩
    refine ⟨_, _, rfl, rfl, (by show (0 : Int) < _; decide), ?_⟩
    generalize hm : (B * 69069 + 104729 * c * c + 7919 * i + c) % 2147483647 = m
    have h1 : 0 ≤ m := by rw [← hm]; exact Int.emod_nonneg _ (by decide)
    have h2 : m < 2147483647 := by rw [← hm]; exact Int.emod_lt_of_pos _ (by decide)
    refine ⟨_, rfl, _, rfl, _, _, rfl, rfl, Or.inl ⟨by omega, by omega⟩, ?_⟩
    refine ⟨_, _, rfl, rfl, Or.inl ⟨_, rfl, ?_⟩⟩
    refine ⟨_, _, rfl, rfl, (by show (0 : Int) < _; decide), ?_⟩
    refine ⟨_, rfl, _, _, rfl, rfl, Or.inr ⟨by decide, by decide⟩, Or.inl ⟨_, rfl, ?_⟩⟩
    refine ⟨_, _, rfl, rfl, (by show (0 : Int) < _; decide), ?_⟩
    exact k _ (Int.emod_nonneg _ (by decide)) (Int.emod_lt_of_pos _ (by decide))
theorem scDraw : FnScope ["_law_purse_here", "_law_many", "_law_drawn", "_law_found", "_law_piece"] ["_law_purse_here", "_law_many"] (defScope sDraw) := ⟨rfl, rfl, rfl, by decide +kernel, rfl, by decide +kernel, by decide +kernel⟩
theorem ok_draw (F : FnP K "_law_draw" sDraw f fd) (Z : Free mg) (FM : FnP K "_law_mixed" sMixed fM fdM) (gM : mg "_law_mixed" = some (.ref fM)) : FnOk P w K mg base CX0 2 f fd ["_law_purse_here", "_law_many"] spDraw := by
  have GM : FnOk P w K mg base CX0 1 fM fdM ["_law_seed", "_law_spin", "_law_at"] spMixed := ok_mixed FM Z
  have bM : Binds K fdM ["_law_seed", "_law_spin", "_law_at"] [] := FM.bindsN fun _ _ _ _ _ _ us hl => match us, hl with | [_, _, _], _ => rfl
  refine F.ok scDraw (fun vs H Q E h => ?_) (fun cdv A outer s H vs Q E hr h => ?_)
  · obtain ⟨p, m, N, rfl, _⟩ := h
    rfl
  · obtain ⟨p, m, N, rfl, hm1, hm2, hP, hN, hN2, k⟩ := h
    obtain ⟨A0, B, c, i, hp, hB, hA, hc, hcN⟩ := id hP
    have nd := scDraw.nd
    refine ⟨_, PSs.nox (pss_cons (ps_if (pt_cmpR op_gt (pe_ix ix_list (pv 0) pe_int (fun _ _ => rfl)) pe_int (nomark _))
        (pss_cons (ps_set (i := 2) nd rfl (Or.inl rfl) (pe_op op_mod (pe_callTy call_int1 (by rfl) Z.int (by decide +kernel) (pa_cons (pe_ix ix_list (pv 0) pe_int (fun _ _ => rfl)) pa_nil)) (pv 1)))
        (pss_cons (ps_asg (pe_op op_fdivW (pe_ix ix_list (pv 0) pe_int (fun _ _ => rfl)) (pv 1)) (pg_sub (pv 0) pe_int set_list))
        (pss_one (ps_ret (pv 2))))) pss_nil)
      (pss_cons (ps_set (i := 3) nd rfl (Or.inl rfl) pe_int)
      (pss_cons (ps_for PassesOwn.never rfl (pi_range1 rfl Z.range (pa_cons (pe_op op_add pe_int (pe_op op_fdiv (pe_bits (pv 1)) pe_int)) pa_nil)) (pg_name (i := 4) nd rfl (Or.inl rfl))
        (pss_cons (ps_asg (pe_op op_add (pe_ix ix_list (pv 0) pe_int (fun _ _ => rfl)) pe_int) (pg_sub (pv 0) pe_int set_list))
        (pss_one (ps_set (i := 3) nd rfl (Or.inl rfl) (pe_op op_add (pe_op op_mul (pv 3) pe_int) (pe_call GM hr rfl gM FM.kp bM .nil pass0
          (pa_cons (pe_ix ix_list (pv 0) pe_int (fun _ _ => rfl)) (pa_cons (pe_ix ix_list (pv 0) pe_int (fun _ _ => rfl)) (pa_cons (pe_ix ix_list (pv 0) pe_int (fun _ _ => rfl)) pa_nil)))))))))
      (pss_one (ps_ret (pe_op op_mod (pe_callTy call_int1 (by rfl) Z.int (by decide +kernel) (pa_cons (pv 3) pa_nil)) (pv 1))))))), ?_⟩
    -- if purse[0] > 0
    refine ⟨_, rfl, p, _, 0, .int A0, rfl, rfl, SqL.of hp, rfl, ?_⟩
    refine ⟨_, _, rfl, rfl, _, rfl, ?_⟩
    refine ite2 (fun hpos => ?_) (fun hneg => ?_)
    · refine ⟨_, rfl, p, _, 0, .int A0, rfl, rfl, SqL.of hp, rfl, Or.inl ⟨_, rfl, ?_⟩⟩
      refine ⟨_, rfl, _, _, rfl, rfl, (by show (0 : Int) < m; omega), ?_⟩
      refine ⟨_, rfl, p, _, 0, .int A0, rfl, rfl, SqL.of hp, rfl, ?_⟩
      refine ⟨_, rfl, _, _, rfl, rfl, ⟨by omega, hm2⟩, ?_⟩
      refine ⟨_, rfl, p, _, 0, 0, rfl, rfl, hp, rfl, ?_⟩
      refine ⟨_, rfl, ?_⟩
      refine k _ _ (Int.emod_nonneg _ (by omega)) (Int.emod_lt_of_pos _ (by omega)) But.upd ⟨A0 / m, B, c, i, upd_same, hB, Int.ediv_nonneg hA (by omega), hc, by omega⟩
    · -- found = 0; for piece in range(..)
      have hb : (0 : Int) ≤ 1 + (Builtin.Int.intBits m : Int) / 28 := by omega
      have hM : ((mixes m : Nat) : Int) = 1 + (Builtin.Int.intBits m : Int) / 28 := by
        unfold mixes
        exact Int.toNat_of_nonneg hb
      refine ⟨_, rfl, _, rfl, _, _, rfl, rfl, ⟨by decide, by decide⟩, _, _, rfl, rfl, ?_⟩
      refine ⟨1 + (Builtin.Int.intBits m : Int) / 28, rfl, by omega, by omega, ?_⟩
      refine for_range (lo := 0) (n := (1 + (Builtin.Int.intBits m : Int) / 28).toNat) (fun j σ H2 => ∃ (g : Int) (v2 v4 : Option V), σ = [some (.ref p), some (.int m), v2, some (.int g), v4] ∧ But p H H2 ∧
          ∃ c' : Int, H2 p = some (.lst [.int A0, .int B, .int c', .int i]) ∧ 0 ≤ c' ∧ c' ≤ (N : Int) + (j : Int))
        ⟨0, none, none, rfl, But.refl _ _, c, hp, hc, by omega⟩ ?_ ?_
      · rintro j σ H2 hj ⟨g, v2, v4, rfl, kb, c', hp2, h0, h1⟩
        have hj2 : (j : Int) < 2 ^ 50 := by
          have : j < mixes m := hj
          omega
        refine ⟨_, rfl, p, _, 2, .int c', rfl, rfl, SqL.of hp2, rfl, ?_⟩
        refine ⟨_, _, rfl, rfl, ?_⟩
        refine ⟨_, rfl, p, _, 2, 2, rfl, rfl, hp2, rfl, ?_⟩
        have hp3 : (L2.upd H2 p (.lst (List.set [V.int A0, .int B, .int c', .int i] 2 (.int (c' + 1))))) p = some (.lst [.int A0, .int B, .int (c' + 1), .int i]) := upd_same
        refine ⟨_, rfl, _, _, rfl, rfl, Or.inr ⟨by decide, by decide⟩, ?_⟩
        refine ⟨_, rfl, p, _, 1, .int B, rfl, rfl, SqL.of hp3, rfl, ?_⟩
        refine ⟨_, rfl, p, _, 2, .int (c' + 1), rfl, rfl, SqL.of hp3, rfl, ?_⟩
        refine ⟨_, rfl, p, _, 3, .int i, rfl, rfl, SqL.of hp3, rfl, ?_⟩
        refine ⟨B, c' + 1, i, rfl, ⟨by omega, by omega⟩, fun r hr0 hr1 => ?_⟩
        refine ⟨_, _, rfl, rfl, ?_⟩
        exact ⟨_, v2, _, rfl, But.trans kb But.upd, c' + 1, hp3, by omega, by omega⟩
      · rintro σ H2 ⟨g, v2, v4, rfl, kb, c', hp2, h0, h1⟩
        refine ⟨_, rfl, Or.inl ⟨_, rfl, ?_⟩⟩
        refine ⟨_, rfl, _, _, rfl, rfl, (by show (0 : Int) < m; omega), ?_⟩
        refine k _ _ (Int.emod_nonneg _ (by omega)) (Int.emod_lt_of_pos _ (by omega)) kb ⟨A0, B, c', i, hp2, hB, hA, h0, ?_⟩
        have : ((N + mixes m : Nat) : Int) = (N : Int) + (mixes m : Int) := by omega
        rw [this]
        exact h1
end
abbrev sPurses : Stmt := top 48
abbrev sOne : Stmt := top 49
section
variable {P : Program} {w : World} {K : PySem.W.Frag} {mg : Str → Option Value} {base : Heap} {f fP fD : Addr} {fd fdP fdD : FuncData}
theorem scPurses : FnScope ["_law_script", "_law_few", "_law_at"] ["_law_script", "_law_few"] (defScope sPurses) := ⟨rfl, rfl, rfl, by decide +kernel, rfl, by decide +kernel, by decide +kernel⟩
theorem ok_purses (F : FnP K "_law_purses" sPurses f fd) (Z : Free mg) (GP : FnOk P w K mg base CX0 1 fP fdP ["_law_script", "_law_at"] (spPurse K)) (FP : FnP K "_law_purse" sPurse fP fdP) (gP : mg "_law_purse" = some (.ref fP)) :
    FnOk P w K mg base CX0 2 f fd ["_law_script", "_law_few"] (spPurses K) := by
  have bP : Binds K fdP ["_law_script", "_law_at"] [] := FP.bindsN fun _ _ _ _ _ _ us hl => match us, hl with | [_, _], _ => rfl
  refine F.ok scPurses (fun vs H Q E h => ?_) (fun cdv A outer s H vs Q E hr h => ?_)
  · obtain ⟨a, ns, rfl, _⟩ := h
    rfl
  · obtain ⟨a, ns, rfl, hS, k⟩ := h
    have nd := scPurses.nd
    refine ⟨_, PSs.nox (pss_one (ps_ret (pe_lc (own := [("_law_at", 2)]) (g := gName 2) (tt := tYes) (by rfl) nd (pi_range1 rfl Z.range (pa_cons (pe_callB (call_max2 rfl) (by rfl) Z.max (by decide +kernel) (pa_cons pe_int
        (pa_cons (pe_callB (call_min2 rfl) (by rfl) Z.min (by decide +kernel) (pa_cons (pv 1) (pa_cons (pe_callB call_len_seq (by rfl) Z.len (by decide +kernel) (pa_cons (pv 0) pa_nil)) pa_nil))) pa_nil))) pa_nil))
      (blkOk_by (own := [("_law_at", 2)]) (N := ["_law_script", "_law_few", "_law_at"]) (sc := defScope sPurses) (by decide +kernel)) (fun _ _ _ _ _ => pg_name (i := 2) nd rfl (Or.inl rfl)) (fun _ _ _ _ _ => pts_nil)
      (fun _ _ _ _ _ => pe_call GP hr rfl gP FP.kp bP .nil pass0 (pa_cons (pv 0) (pa_cons (pv 2) pa_nil)))))), ?_⟩
    refine ⟨_, rfl, _, rfl, a, _, rfl, Or.inl hS, _, _, rfl, ?_⟩
    refine ⟨_, _, rfl, ?_⟩
    have hone : ∀ n : Int, 0 ≤ n → (if (if n < 1 then n else 1) > 1 then (if n < 1 then n else 1) else (1 : Int)) = 1 := fun n hn => by
      by_cases c : n < 1
      · rw [if_pos c, if_neg (by omega)]
      · rw [if_neg c, if_neg (by omega)]
    refine ⟨1, congrArg (fun z => [V.int z]) (hone _ (Int.natCast_nonneg _)), by decide, by decide, fun D hD => ?_⟩
    refine lc_range (lo := 0) (n := 1) (fun j H2 => (j = 0 ∧ H2 = upd H D (.lst [])) ∨ (j = 1 ∧ ∃ p, H2 D = some (.lst [.ref p]) ∧ Same H H2 ∧ H p = none ∧ p ≠ D ∧ Purse H2 p 0)) (Or.inl ⟨rfl, rfl⟩) ?_ ?_
    · intro j H2 hj hP
      rcases hP with ⟨rfl, rfl⟩ | ⟨rfl, _⟩
      · refine ⟨rfl, _, rfl, _, rfl, a, ns, _, rfl, (Same.upd hD).seq hS, fun p H3 hk hp hpu => ?_⟩
        have hne : p ≠ D := fun e => by
          rw [e, upd_same] at hp
          cases hp
        refine ⟨[], hk _ _ upd_same, by decide, Or.inr ⟨rfl, p, upd_same, fun b o e => ?_, ?_, hne, ?_⟩⟩
        · rw [upd_ne (ne_of_none e hD)]
          exact hk _ _ (by rw [upd_ne (ne_of_none e hD)]; exact e)
        · rw [upd_ne hne] at hp
          exact hp
        · obtain ⟨A0, B, c, i, e, r⟩ := hpu
          exact ⟨A0, B, c, i, by rw [upd_ne hne]; exact e, r⟩
      · omega
    · intro H2 hP
      rcases hP with ⟨h, _⟩ | ⟨_, p, h1, h2, h3, h4, h5⟩
      · omega
      · exact k D p H2 h2 h3 hD h4 h1 h5
theorem scOne : FnScope ["_law_purse_here", "_law_some"] ["_law_purse_here", "_law_some"] (defScope sOne) := ⟨rfl, rfl, rfl, by decide +kernel, rfl, by decide +kernel, by decide +kernel⟩
theorem ok_one (F : FnP K "_law_one_of" sOne f fd) (Z : Free mg) (GD : FnOk P w K mg base CX0 2 fD fdD ["_law_purse_here", "_law_many"] spDraw) (FD : FnP K "_law_draw" sDraw fD fdD) (gD : mg "_law_draw" = some (.ref fD)) :
    FnOk P w K mg base CX0 3 f fd ["_law_purse_here", "_law_some"] (spOne K) := by
  have bD : Binds K fdD ["_law_purse_here", "_law_many"] [] := FD.bindsN fun _ _ _ _ _ _ us hl => match us, hl with | [_, _], _ => rfl
  refine F.ok scOne (fun vs H Q E h => ?_) (fun cdv A outer s H vs Q E hr h => ?_)
  · obtain ⟨p, q, xs, N, rfl, _⟩ := h
    rfl
  · obtain ⟨p, q, xs, N, rfl, hqp, hS, hl1, hl2, hP, hN, k⟩ := h
    refine ⟨_, PSs.nox (pss_one (ps_ret (pe_ix ix_list (pv 1) (pe_call GD hr rfl gD FD.kp bD .nil pass0 (pa_cons (pv 0) (pa_cons (pe_callB call_len_seq (by rfl) Z.len (by decide +kernel) (pa_cons (pv 1) pa_nil)) pa_nil))) (fun _ _ => rfl)))), ?_⟩
    have hm := mixes_one (m := (xs.length : Int)) (by omega) (by omega)
    refine ⟨_, rfl, _, rfl, _, rfl, q, xs, rfl, Or.inl hS, ?_⟩
    refine ⟨p, (xs.length : Int), N, rfl, by omega, log_small (by omega) (by omega), hP, by omega, by omega, fun r H' h0 h1 kb hP' => ?_⟩
    obtain ⟨j, rfl⟩ : ∃ j : Nat, r = j := ⟨r.toNat, by omega⟩
    have hj : j < xs.length := by omega
    refine ⟨q, xs, _, xs[j], rfl, rfl, kb.seq hqp hS, atI_nat (by rw [List.getElem?_eq_getElem hj]), ?_⟩
    rw [hm] at hP'
    exact k _ _ (List.getElem_mem hj) kb hP'
end
abbrev s_purse := sPurse
abbrev s_mixed := sMixed
abbrev s_draw := sDraw
end K33
set_option Elab.async false
set_option linter.all false
set_option maxRecDepth 100000
set_option maxHeartbeats 4000000
/-! Set comprehensions of any members, of one clause or two: the loop of a clause once and for all. -/
namespace KB
open PySem PySem.Spec PyProof.Rows L2
/-- no error leaves -/
abbrev F0 : Value → Shared → Prop := fun _ _ => False
/-- the tests of a clause -/
abbrev tests (ifs : List Expr) (env : Env) : Sem Bool := forIn ifs true fun q r => if r = true then (do let b ← isTrue q env (eval q env); pure (ForInStep.yield b)) else pure (ForInStep.yield r)
/-- the loop c of a clause over it, the rest of a turn being B -/
structure Cl (P : Program) (w : World) (A : Around) (c : Code) (it : Value) (tg : Expr) (env : Env) (ifs : List Expr) (B : (Shared → Prop) → Shared → Prop) : Prop where
  quiet : c.quiet = true
  mono : ∀ (N N' : Shared → Prop) (s : Shared), (∀ s', N s' → N' s') → B N s → B N' s
  den : ∀ (Q : PySem.Fin → Shared → Prop) (E : Value → Shared → Prop) (s : Shared), wpAny (model P w) A (pyNext it) (fun r s1 => match r with
      | none => Q (.done .next) s1
      | some v => wpAny (model P w) A (letOwnedTupleGo tg it v) (fun _ s2 => wpAny (model P w) A (assign tg env v) (fun _ s3 => wpAny (model P w) A (tests ifs env) (fun b s4 =>
          if b = true then B (fun s5 => Q (.again c) s5) s4 else Q (.again c) s4) F0 s3) F0 s2) F0 s1) F0 s → wpAny (model P w) (A.under c) ((model P w).den c) Q E s
/-- what of the slots is known stays known, but for those of vs -/
def Kp (vs : List Nat) (σ σ' : L2.St) : Prop := σ'.length = σ.length ∧ ∀ (j : Nat) (v : V), (wipe σ vs)[j]? = some (some v) → σ'[j]? = some (some v)
theorem Kp.refl (vs : List Nat) (σ : L2.St) : Kp vs σ σ := ⟨rfl, fun _ _ e => (wipe_some e).1⟩
theorem Kp.wipe {vs vs1 : List Nat} (h : ∀ i ∈ vs1, i ∈ vs) (σ : L2.St) : Kp vs σ (wipe σ vs1) := ⟨wipe_length _ _, fun j v e => by
  obtain ⟨e1, e2⟩ := wipe_some e
  rw [wipe_out fun z => e2 (h j z)]
  exact e1⟩
/-- the turns of a clause; tb: the rest of a turn, by what has to hold behind it -/
def tCl (g : TG) (tt : TT) (tb : L2.St → Hp → (Hp → Prop) → Prop) (vs : List Nat) (σ : L2.St) (Z : Hp → Prop) (J : It) (H : Hp) : Prop :=
  ∃ W : Nat → Nat → Hp → Prop, (∃ m, W 0 m H) ∧ ∀ i m G, W i m G → (J.stop i G ∧ Z G) ∨ (J.go i G ∧ ∃ N : Hp → Prop, (∀ G', N G' → ∃ m', m' < m ∧ W (i + 1) m' G') ∧
    ∀ x G', J.yld i G x G' → g x (wipe σ vs) G' fun σ2 H2 => wipe σ2 vs = wipe σ vs ∧ tt σ2 H2 fun b H3 => if b = true then tb σ2 H3 N else N H3)
section
variable {X : Cx} {c : Code} {it : Addr} {tg : Expr} {ifs : List Expr} {B : (Shared → Prop) → Shared → Prop} {J : It} {fp : List Addr} {tn : Nat → Heap → Prop} {g : TG} {tt : TT}
  {tb : L2.St → Hp → (Hp → Prop) → Prop} {vs : List Nat} {pins : List (Addr × Obj)} {σ : L2.St} {H : Hp} {s : Shared} {Z : Hp → Prop} {R : Result → Shared → Prop}
theorem cl_run (hc : X.calm = true) (hx : X.xe = F0) (L : Cl X.prog X.w X.A c (.ref it) tg X.env ifs B) (T : Turn X.prog X.w X.K tg J fp it tn) (pg : PG X tg g) (pt : PTs X ifs tt)
    (pb : ∀ (pl : List (Addr × Obj)) (s1 : Shared) (τ : L2.St) (G : Hp) (N : Hp → Prop), Inv X pl τ G s1 → (∀ b ∈ pl, b ∈ pins ∨ b.1 ∈ fp) → tb τ G N → B (fun s2 => ∃ τ' G', Inv X pl τ' G' s2 ∧ Kp vs τ τ' ∧ N G') s1)
    (I : Inv X pins (wipe σ vs) H s) (fr : ∀ b ∈ fp, FpOk X pins H b) (t0 : tn 0 s.heap) (q : tCl g tt tb vs σ Z J H) (k : ∀ s' G, Inv X pins (wipe σ vs) G s' → (∀ b ∈ fp, G b = none) → Z G → R (.ok .next) s') :
    codeAny (model X.prog X.w) X.A c R s := by
  obtain ⟨W, ⟨m0, w0⟩, turn⟩ := q
  refine codeAny_loop L.quiet (fun n u => ∃ i G, Inv X pins (wipe σ vs) G u ∧ tn i u.heap ∧ (∀ b ∈ fp, G b = none) ∧ W i n G) ?_ m0 ⟨0, H, I, t0, fun b hb => (fr b hb).1, w0⟩
  rintro n s1 ⟨i, G, I1, t1, n1, w1⟩
  refine L.den _ _ _ ?_
  have ok1 : ∀ b ∈ fp, FpOk X pins G b := fun b hb => ⟨n1 b hb, (fr b hb).2⟩
  rcases turn i n G w1 with ⟨stp, z⟩ | ⟨go, N, hN, step⟩
  · refine thnF (T.done X rfl rfl rfl hc i pins s1 _ G F0 I1 ok1 t1 stp) fun r s2 ⟨er, I2⟩ => ?_
    subst er
    exact k _ _ I2 n1 z
  · refine thnF (T.item X rfl rfl rfl hc i pins s1 _ G F0 I1 ok1 t1 go) fun r s2 ⟨u, er, h2⟩ => ?_
    subst er
    refine thnF h2 fun _ s3 ⟨x, G3, I3, r3, y3, t3, n3⟩ => ?_
    have J3 := I3.pinned (fun b hb => ⟨n3 b hb, (fr b hb).2⟩) (T.obj _ _ t3)
    have a1 := pg.run _ s3 _ G3 x u _ J3 r3 (step x G3 y3)
    rw [hx] at a1
    refine thnF a1 fun _ s4 ⟨τ, G4, I4, ew, q4⟩ => ?_
    have a2 := pt.run _ s4 τ G4 _ I4 q4
    rw [hx] at a2
    refine thnF a2 fun ok s5 ⟨G5, I5, q5⟩ => ?_
    have fin : ∀ (τ' : L2.St) (G' : Hp) (s' : Shared), Inv X (pins ++ pinsAt fp s3.heap) τ' G' s' → Kp vs τ τ' → N G' → ∃ m, m < n ∧ ∃ i G, Inv X pins (wipe σ vs) G s' ∧ tn i s'.heap ∧ (∀ b ∈ fp, G b = none) ∧ W i m G := fun τ' G' s' I' kp nx => by
      obtain ⟨m', hm, w'⟩ := hN G' nx
      have at_ : ∀ b ∈ fp, ∀ o, s3.heap.get? b = some o → s'.heap.get? b = some o ∧ G' b = none := fun b hb o e => by
        have z := I'.pin (b, o) (List.mem_append_right _ (List.mem_append_right _ (mem_pinsAt hb e)))
        exact ⟨z.1, z.2.1⟩
      refine ⟨m', hm, i + 1, G', I'.unpinned.weak ?_ (fun j v e => kp.2 j v (by rw [ew]; exact e)), T.keep _ _ _ t3 fun b hb o e => (at_ b hb o e).1, fun b hb => ?_, w'⟩
      · rw [kp.1, ← wipe_length τ vs, ew]
      · obtain ⟨o, e, _⟩ := T.obj _ _ t3 b hb
        exact (at_ b hb o e).2
    cases ok with
    | false => exact ⟨rfl, fin _ _ _ I5 (Kp.refl _ _) q5⟩
    | true =>
      have mem : ∀ b ∈ pins ++ pinsAt fp s3.heap, b ∈ pins ∨ b.1 ∈ fp := fun b hb => by
        rcases List.mem_append.mp hb with z | z
        · exact .inl z
        · refine .inr ?_
          obtain ⟨a, ha, e⟩ := List.mem_filterMap.mp z
          obtain ⟨o, _, rfl⟩ := Option.map_eq_some_iff.mp e
          exact ha
      refine L.mono _ _ _ (fun s6 ⟨τ', G6, I6, kp, nx⟩ => ?_) (pb _ s5 τ G5 N I5 mem q5)
      exact ⟨rfl, fin _ _ _ I6 kp nx⟩
end
end KB
set_option Elab.async false
set_option linter.all false
set_option maxRecDepth 100000
set_option maxHeartbeats 4000000
namespace KB
open PySem PySem.Spec PyProof.Rows L2
abbrev sc1 (elt t0 i0 : Expr) (if0 : List Expr) (scope : Scope) (pos : Pos) : Expr := .SetComp elt [⟨t0, i0, if0, 0⟩] scope pos
abbrev sc2 (elt t0 i0 t1 i1 : Expr) (if0 if1 : List Expr) (scope : Scope) (pos : Pos) : Expr := .SetComp elt [⟨t0, i0, if0, 0⟩, ⟨t1, i1, if1, 0⟩] scope pos
section
variable {P : Program} {w : World} {A : Around} {env : Env} {elt t0 i0 t1 i1 : Expr} {if0 if1 : List Expr} {scope : Scope} {pos : Pos} {it acc : Value}
theorem turn1 : compTurn (sc1 elt t0 i0 if0 scope pos) 0 it acc env = (do
      standAt i0.pos
      match ← pyNext it with
      | none => pure (.done .next)
      | some u =>
        letOwnedTupleGo t0 it u
        assign t0 env u
        let mut b := true
        for q in if0 do
          if b then b ← isTrue q env (eval q env)
        if b then
          (do let y ← eval elt env; standAt elt.pos; let _ ← call (.builtin "set.add") [acc, y])
        again (.compLoop (sc1 elt t0 i0 if0 scope pos) 0 it acc env)) := by rfl
theorem turn2i : compTurn (sc2 elt t0 i0 t1 i1 if0 if1 scope pos) 1 it acc env = (do
      standAt i1.pos
      match ← pyNext it with
      | none => pure (.done .next)
      | some u =>
        letOwnedTupleGo t1 it u
        assign t1 env u
        let mut b := true
        for q in if1 do
          if b then b ← isTrue q env (eval q env)
        if b then
          (do let y ← eval elt env; standAt elt.pos; let _ ← call (.builtin "set.add") [acc, y])
        again (.compLoop (sc2 elt t0 i0 t1 i1 if0 if1 scope pos) 1 it acc env)) := by rfl
theorem turn2o : compTurn (sc2 elt t0 i0 t1 i1 if0 if1 scope pos) 0 it acc env = (do
      standAt i0.pos
      match ← pyNext it with
      | none => pure (.done .next)
      | some u =>
        letOwnedTupleGo t0 it u
        assign t0 env u
        let mut b := true
        for q in if0 do
          if b then b ← isTrue q env (eval q env)
        if b then
          let y ← eval i1 env
          standAt i1.pos
          let y ← foldedSetIterable i1 env y
          let _ ← runOwn (.compStart (sc2 elt t0 i0 t1 i1 if0 if1 scope pos) 1 (← holding [y] (pyIter y)) acc env) env
        again (.compLoop (sc2 elt t0 i0 t1 i1 if0 if1 scope pos) 0 it acc env)) := by rfl
/-- a member is made and put in -/
def bAdd (P : Program) (w : World) (A : Around) (elt : Expr) (env : Env) (acc : Value) : (Shared → Prop) → Shared → Prop := fun N s =>
  wpAny (model P w) A (eval elt env) (fun y s1 => wpAny (model P w) A (call (.builtin "set.add") [acc, y]) (fun _ s2 => N s2) F0 s1) F0 s
theorem noF {α : Type} {t : Sem α} {Q : α → Shared → Prop} {M : Model} {E : Value → Shared → Prop} {s : Shared} (h : wpAny M A t Q F0 s) : wpAny M A t Q E s := wpAny_mono h (fun _ _ x => x) fun _ _ z => z.elim
theorem bAdd_mono (N N' : Shared → Prop) (s : Shared) (h : ∀ s', N s' → N' s') (b : bAdd P w A elt env acc N s) : bAdd P w A elt env acc N' s :=
  wpAny_mono b (fun _ _ x => wpAny_mono x (fun _ s' z => h s' z) fun _ _ z => z) fun _ _ z => z
theorem cl_add1 : Cl P w A (.compLoop (sc1 elt t0 i0 if0 scope pos) 0 it acc env) it t0 env if0 (bAdd P w A elt env acc) := by
  refine ⟨rfl, bAdd_mono, fun Q E s h => ?_⟩
  show wpAny _ A ((compTurn (sc1 elt t0 i0 if0 scope pos) 0 it acc env).onRaise _) _ _ s
  refine wpAny_noted ?_
  rw [turn1]
  refine wpAny_bind (wpAny_standAt (wpAny_bind (noF (wpAny_mono h (fun r s1 h1 => ?_) fun _ _ z => z))))
  cases r with
  | none => exact wpAny_pure h1
  | some u =>
    refine wpAny_bind (noF (wpAny_mono h1 (fun _ s2 h2 => wpAny_bind (noF (wpAny_mono h2 (fun _ s3 h3 => wpAny_bind (noF (wpAny_mono h3 (fun b s4 h4 => ?_) fun _ _ z => z))) fun _ _ z => z))) fun _ _ z => z))
    cases b with
    | false => exact wpAny_pure h4
    | true => exact wpAny_bind (wpAny_bind (noF (wpAny_mono h4 (fun y s5 h5 => wpAny_bind (wpAny_standAt (wpAny_bind (noF (wpAny_mono h5 (fun _ s6 h6 => wpAny_pure (wpAny_pure h6)) fun _ _ z => z))))) fun _ _ z => z)))
theorem cl_add2 : Cl P w A (.compLoop (sc2 elt t0 i0 t1 i1 if0 if1 scope pos) 1 it acc env) it t1 env if1 (bAdd P w A elt env acc) := by
  refine ⟨rfl, bAdd_mono, fun Q E s h => ?_⟩
  show wpAny _ A ((compTurn (sc2 elt t0 i0 t1 i1 if0 if1 scope pos) 1 it acc env).onRaise _) _ _ s
  refine wpAny_noted ?_
  rw [turn2i]
  refine wpAny_bind (wpAny_standAt (wpAny_bind (noF (wpAny_mono h (fun r s1 h1 => ?_) fun _ _ z => z))))
  cases r with
  | none => exact wpAny_pure h1
  | some u =>
    refine wpAny_bind (noF (wpAny_mono h1 (fun _ s2 h2 => wpAny_bind (noF (wpAny_mono h2 (fun _ s3 h3 => wpAny_bind (noF (wpAny_mono h3 (fun b s4 h4 => ?_) fun _ _ z => z))) fun _ _ z => z))) fun _ _ z => z))
    cases b with
    | false => exact wpAny_pure h4
    | true => exact wpAny_bind (wpAny_bind (noF (wpAny_mono h4 (fun y s5 h5 => wpAny_bind (wpAny_standAt (wpAny_bind (noF (wpAny_mono h5 (fun _ s6 h6 => wpAny_pure (wpAny_pure h6)) fun _ _ z => z))))) fun _ _ z => z)))
/-- the second clause is run -/
def bIn (P : Program) (w : World) (A : Around) (e i1 : Expr) (env : Env) (acc : Value) : (Shared → Prop) → Shared → Prop := fun N s =>
  wpAny (model P w) A (eval i1 env) (fun y s1 => wpAny (model P w) A (pyIter y) (fun j s2 => codeAny (model P w) A (.compStart e 1 j acc env) (fun r s' => match r with
    | .ok _ => N s'
    | .error _ => False) s2) F0 s1) F0 s
theorem bIn_mono {e : Expr} (N N' : Shared → Prop) (s : Shared) (h : ∀ s', N s' → N' s') (b : bIn P w A e i1 env acc N s) : bIn P w A e i1 env acc N' s :=
  wpAny_mono b (fun _ _ x => wpAny_mono x (fun _ _ y => codeAny_mono y fun r s' z => match r, z with
    | .ok _, z => h s' z
    | .error _, z => z) fun _ _ z => z) fun _ _ z => z
theorem cl_in (hs : ∀ x, foldedSetIterable i1 env x = pure x) : Cl P w A (.compLoop (sc2 elt t0 i0 t1 i1 if0 if1 scope pos) 0 it acc env) it t0 env if0 (bIn P w A (sc2 elt t0 i0 t1 i1 if0 if1 scope pos) i1 env acc) := by
  refine ⟨rfl, bIn_mono, fun Q E s h => ?_⟩
  show wpAny _ A ((compTurn (sc2 elt t0 i0 t1 i1 if0 if1 scope pos) 0 it acc env).onRaise _) _ _ s
  refine wpAny_noted ?_
  rw [turn2o]
  refine wpAny_bind (wpAny_standAt (wpAny_bind (noF (wpAny_mono h (fun r s1 h1 => ?_) fun _ _ z => z))))
  cases r with
  | none => exact wpAny_pure h1
  | some u =>
    refine wpAny_bind (noF (wpAny_mono h1 (fun _ s2 h2 => wpAny_bind (noF (wpAny_mono h2 (fun _ s3 h3 => wpAny_bind (noF (wpAny_mono h3 (fun b s4 h4 => ?_) fun _ _ z => z))) fun _ _ z => z))) fun _ _ z => z))
    cases b with
    | false => exact wpAny_pure h4
    | true =>
      refine wpAny_bind (noF (wpAny_mono h4 (fun y s5 h5 => ?_) fun _ _ z => z))
      refine wpAny_bind (wpAny_standAt (wpAny_bind (wpAny_of_eq (hs y) (wpAny_bind (wpAny_holding (noF (wpAny_mono h5 (fun j s6 h6 => ?_) fun _ _ z => z)))))))
      refine wpAny_bind (wpAny_runOwn ?_)
      rw [Around.mark_none]
      refine codeAny_mono h6 fun r s7 z => ?_
      cases r with
      | ok f => first
        | exact wpAny_pure z
        | exact wpAny_bind (wpAny_pure (wpAny_pure z))
      | error e => exact z.elim
theorem start2 {R : Result → Shared → Prop} {s : Shared} (h0 : codeAny (model P w) A (.compLoop (sc2 elt t0 i0 t1 i1 if0 if1 scope pos) 1 it acc env) R s)
    (h : wpAny (model P w) A (pyIter it) (fun j s' => codeAny (model P w) A (.compLoop (sc2 elt t0 i0 t1 i1 if0 if1 scope pos) 1 j acc env) R s') F0 s) :
    codeAny (model P w) A (.compStart (sc2 elt t0 i0 t1 i1 if0 if1 scope pos) 1 it acc env) R s := by
  refine codeAny_of_tree ?_
  show wpAny _ _ ((compStart (sc2 elt t0 i0 t1 i1 if0 if1 scope pos) 1 it acc env).onRaise _) _ _ s
  refine wpAny_notedAt ?_
  unfold compStart
  show wpAny _ _ (ask >>= _) _ _ s
  refine wpAny_bind (wpAny_askSetting (wpAny_ite ?_))
  split
  · first
      | exact wpAny_bind (wpAny_pure (wpAny_pure ⟨rfl, h0⟩))
      | exact wpAny_pure ⟨rfl, h0⟩
  · refine wpAny_bind (wpAny_rule ?_)
    show wpAny _ _ (standAt i1.pos >>= _) _ _ s
    exact wpAny_bind (wpAny_standAt (wpAny_bind (noF (wpAny_mono h (fun j s' h' => wpAny_pure ⟨rfl, h'⟩) fun _ _ z => z))))
end
end KB
set_option Elab.async false
set_option linter.all false
set_option maxRecDepth 100000
set_option maxHeartbeats 4000000
namespace KB
open PySem PySem.Spec PyProof.Rows L2
/-- the set's methods: what add asks and does -/
abbrev AddR := V → List V → Hp → VK → Prop
/-- a member is made, and put into the set at D -/
def tAdd (r : AddR) (te : TE) (D : Addr) : L2.St → Hp → (Hp → Prop) → Prop := fun τ G N => te τ G fun y G1 => r (.ref D) [y] G1 fun _ G2 => N G2
/-- the second clause -/
def tInn (r : AddR) (wi1 : TI) (g1 : TG) (tt1 : TT) (te : TE) (vs1 : List Nat) (D : Addr) : L2.St → Hp → (Hp → Prop) → Prop := fun τ G N => wi1 τ G fun J1 G1 => tCl g1 tt1 (tAdd r te D) vs1 τ N J1 G1
/-- {elt for t0 in i0 if ..}, D the new set -/
def tSc1 (O0 : Addr → HO) (r : AddR) (wi : TI) (g : TG) (tt : TT) (te : TE) (vs : List Nat) : TE := fun σ H Q => wi σ H fun J H1 => ∀ D, H1 D = none → tCl g tt (tAdd r te D) vs σ (fun G => Q (.ref D) G) J (upd H1 D (O0 D))
/-- {elt for t0 in i0 if .. for t1 in i1 if ..} -/
def tSc2 (O0 : Addr → HO) (r : AddR) (wi : TI) (g : TG) (tt : TT) (wi1 : TI) (g1 : TG) (tt1 : TT) (te : TE) (vs vs1 : List Nat) : TE := fun σ H Q =>
  wi σ H fun J H1 => ∀ D, H1 D = none → tCl g tt (tInn r wi1 g1 tt1 te vs1 D) vs σ (fun G => Q (.ref D) G) J (upd H1 D (O0 D))
abbrev freshSet (w : World) : Obj := { cls := .type "set", dict := none, data := .set #[] 0 (.fresh 0 0 (!w.params.followText "set-order")) }
theorem ev_sc (elt : Expr) (gs : List Comprehension) (scope : Scope) (pos : Pos) (env : Env) : eval (.SetComp elt gs scope pos) env = comprehension (.SetComp elt gs scope pos) scope env (firstIterPos gs pos) (newSet (.type "set")) (firstAsync gs) (firstIter gs env) := rfl
section
variable {X : Cx} {O0 : Addr → HO} {r : AddR} {elt t0 i0 t1 i1 : Expr} {if0 if1 : List Expr} {scope : Scope} {own : List (Str × Nat)} {vs1 : List Nat} {pos : Pos} {wi wi1 : TI} {g g1 : TG} {tt tt1 : TT} {te : TE}
/-- what stands in the block, in its context -/
abbrev InBlk (X : Cx) (scope : Scope) (p : Cx → Prop) : Prop := ∀ (s : Shared) (H : Hp) (C : Addr) (cl : List (Str × Addr)) (fp : List Addr), p (X.blk s H scope (compEnvC scope cl C X.env) fp)
/-- put in: the rest of a turn -/
theorem add_ok {Y : Cx} {D : Addr} {vs : List Nat} (hx : Y.xe = F0) (he : PE Y elt te) (ha : MtR Y "set.add" r) (pl : List (Addr × Obj)) (s : Shared) (τ : L2.St) (G : Hp) (N : Hp → Prop) (I : Inv Y pl τ G s) (q : tAdd r te D τ G N) :
    bAdd Y.prog Y.w Y.A elt Y.env (.ref D) (fun s2 => ∃ τ' G', Inv Y pl τ' G' s2 ∧ Kp vs τ τ' ∧ N G') s := by
  have a1 := he.run pl s τ G _ I q
  rw [hx] at a1
  refine wpAny_mono a1 (fun u s1 ⟨y, G1, I1, r1, q1⟩ => ?_) fun _ _ z => z
  have a2 := ha pl s1 τ G1 (.ref D) [y] (.ref D) [u] _ I1 rfl (.cons r1 .nil) q1
  rw [hx] at a2
  exact wpAny_mono a2 (fun _ s2 ⟨z, G2, I2, r2, q2⟩ => ⟨τ, G2, I2, Kp.refl _ _, q2⟩) fun _ _ z => z
/-- the second clause: the rest of a turn of the first -/
theorem inn_ok {Y : Cx} {D : Addr} {vs : List Nat} (hc : Y.calm = true) (hx : Y.xe = F0) (hv : ∀ i ∈ vs1, i ∈ vs) (hi1 : PI Y t1 i1 wi1) (hg1 : PG Y t1 g1) (ht1 : PTs Y if1 tt1) (he : PE Y elt te) (ha : MtR Y "set.add" r)
    (pl : List (Addr × Obj)) (s : Shared) (τ : L2.St) (G : Hp) (N : Hp → Prop) (I : Inv Y pl τ G s) (q : tInn r wi1 g1 tt1 te vs1 D τ G N) :
    bIn Y.prog Y.w Y.A (sc2 elt t0 i0 t1 i1 if0 if1 scope pos) i1 Y.env (.ref D) (fun s2 => ∃ τ' G', Inv Y pl τ' G' s2 ∧ Kp vs τ τ' ∧ N G') s := by
  have a1 := hi1.run pl s τ G _ I q
  rw [hx] at a1
  refine wpAny_mono a1 (fun u s1 a2 => wpAny_mono a2 (fun j s2 h2 => ?_) fun _ _ z => z) fun _ _ z => z
  obtain ⟨it, fp, tn, J, G1, e, I1, T, st, fr, q1⟩ := h2
  subst e
  have run := cl_run (R := fun rr s' => match rr with
      | .ok _ => ∃ τ' G', Inv Y pl τ' G' s' ∧ Kp vs τ τ' ∧ N G'
      | .error _ => False) hc hx (cl_add2 (elt := elt) (t0 := t0) (i0 := i0) (i1 := i1) (if0 := if0) (scope := scope) (pos := pos) (acc := .ref D)) T hg1 ht1
    (fun pl' s' τ' G' N' I' _ q' => add_ok (vs := vs1) hx he ha pl' s' τ' G' N' I' q') (I1.weak (wipe_length _ _) fun i v e => (wipe_some e).1) fr st q1
    fun s' G' I' _ z => ⟨_, G', I', Kp.wipe hv τ, z⟩
  exact start2 run (T.self Y.A 0 _ _ _ st run)
/-- from the block's loop to the def's context -/
theorem blk_ok {e : Expr} (hcl : ∃ gs, e = .SetComp elt (⟨t0, i0, if0, 0⟩ :: gs) scope pos) (hN : X.N.Nodup) (hi : PI X t0 i0 wi) (ok : BlkOk X.N X.env.scope scope own)
    (new : ∀ (H : Hp) (h : Heap), ObjOk X.prog X.w H (h.push (freshSet X.w)) h.objs.size (O0 h.objs.size)) {tb : Addr → L2.St → Hp → (Hp → Prop) → Prop}
    (loop : ∀ (s : Shared) (H : Hp) (C : Addr) (cl : List (Str × Addr)) (fp : List Addr) (it : Addr) (tn : Nat → Heap → Prop) (J : It) (D : Addr) (σ : L2.St) (s1 : Shared) (Z : Hp → Prop) (R : Result → Shared → Prop),
      Inv (X.blk s H scope (compEnvC scope cl C X.env) fp) [] (wipe σ (own.map (·.2))) H s1 → Turn X.prog X.w X.K t0 J fp it tn → (∀ b ∈ fp, FpOk (X.blk s H scope (compEnvC scope cl C X.env) fp) [] H b) → tn 0 s1.heap → tCl g tt (tb D) (own.map (·.2)) σ Z J H →
      (∀ s' G, Inv (X.blk s H scope (compEnvC scope cl C X.env) fp) [] (wipe σ (own.map (·.2))) G s' → Z G → R (.ok .next) s') → codeAny (model X.prog X.w) X.A (.compLoop e 0 (.ref it) (.ref D) (compEnvC scope cl C X.env)) R s1)
    (hs : ∀ x, foldedSetIterable i0 X.env x = pure x) : PE X e (fun σ H Q => wi σ H fun J H1 => ∀ D, H1 D = none → tCl g tt (tb D) (own.map (·.2)) σ (fun G => Q (.ref D) G) J (upd H1 D (O0 D))) := by
  obtain ⟨gs, rfl⟩ := hcl
  refine ⟨fun pins s σ H Q I h => ?_⟩
  rw [ev_sc]
  have hfree : ∀ y ∈ scope.names, y.2 = .free → ∃ c, X.env.cells.lookup y.1 = some c := fun y hy e => I.ok.has _ (ok.free y hy e)
  refine wpAny_comprehension_free (use := none) rfl hs (closure_ok hfree) ok.kind (fun y hy e => by rw [ok.uniq y hy, e]) (thn (hi.run pins s σ H _ I h) fun xv s1 hx => thn hx fun itv s2 h2 => ?_)
  obtain ⟨it, fp, tn, J, H2, e, I2, T, st, fr, q⟩ := h2
  subst e
  refine PpSet.newSet_ok (newEnv_comp ?_)
  have hDn : H2 s2.heap.objs.size = none := I2.hok.fresh (Nat.le_refl _)
  have q0 := q _ hDn
  generalize hD : s2.heap.objs.size = D at hDn q0
  have I3 : Inv X pins σ (upd H2 D (O0 D)) { s2 with heap := s2.heap.push (freshSet X.w) } :=
    I2.laid (t' := s2.toks) (fun b o e => Heap.get?_push_of_some _ e) (Nat.le_of_eq hD) (hD ▸ new _ _)
  generalize h3 : ({ s2 with heap := s2.heap.push (freshSet X.w) } : Shared) = s3 at I3
  have e3 : s3.heap = s2.heap.push (freshSet X.w) := by rw [← h3]
  have lt : ∀ b ∈ fp, b < s2.heap.objs.size := fun b hb => by
    obtain ⟨o, e, _⟩ := T.obj _ _ st b hb
    exact Heap.lt_size e
  have fr3 : ∀ b ∈ fp, FpOk X pins (upd H2 D (O0 D)) b ∧ b < s3.heap.objs.size := fun b hb => by
    have l := lt b hb
    refine ⟨⟨?_, (fr b hb).2⟩, by rw [e3, Heap.size_push]; exact Nat.lt_succ_of_lt l⟩
    rw [upd_ne (by rw [← hD]; exact Nat.ne_of_lt l)]
    exact (fr b hb).1
  have st3 : tn 0 s3.heap := T.keep _ _ _ st fun b _ o e => by rw [e3]; exact Heap.get?_push_of_some _ e
  have I4 := block_start I3 ok hN fr3
  have st4 : tn 0 (pushCells (s3.heap.push { cls := .type "dict", data := .dict #[] }) scope.names) := T.keep _ _ _ st3 fun b _ o e => pushCells_keeps _ _ _ _ (Heap.get?_push_of_some _ e)
  have fr4 : ∀ b ∈ fp, FpOk (X.blk s3 (upd H2 D (O0 D)) scope (compEnvC scope (cellsFrom (s3.heap.objs.size + 1) scope.names (cloFrom X.env.cells scope.names [])) s3.heap.objs.size X.env) fp) [] (upd H2 D (O0 D)) b := fun b hb =>
    ⟨(fr3 b hb).1.1, (I4.ok.exf b hb).1, I4.ok.exfs b hb, .inl hb, fun x c e => (I4.ok.exf b hb).2 x c e, fun p hp => absurd (show p ∈ ([] : List (Addr × Obj)) ++ [] from hp) (by simp)⟩
  have run := loop s3 (upd H2 D (O0 D)) _ _ fp it tn J D σ _ _ (compPost (model X.prog X.w) X.A X.xe none (EP X pins σ Q) (.ref D) s3.heap.objs.size) I4 T fr4 st4 q0 fun s' G I' z => by
    have I7 : Inv X pins σ G s' := I3.call' (ch := fp) I'.os I'.base I'.hok I'.bare fun b hb => ⟨(fr3 b hb).1.2.2.2.1, (fr3 b hb).1.2.1, (fr3 b hb).1.2.2.2.2.1, (fr3 b hb).1.2.2.2.2.2⟩
    have nC : G s3.heap.objs.size = none := I'.free
    obtain ⟨m, hm, _⟩ := I'.loc
    obtain ⟨f0, f1, f2, f3, f4, f5⟩ := I3.fpOk (Nat.le_refl _) nC
    exact ⟨m, hm, fun h' sb => ⟨.ref D, G, I7.turned (t' := s'.toks) (fun b o hb e => (sb.2 b hb).trans e) f0 f1 f3 f4 f5, rfl, z⟩⟩
  have fin := PpSet.codeAny_compStart_set run (T.self X.A 0 _ _ _ st4 run)
  subst h3
  subst hD
  exact fin
end
end KB
set_option Elab.async false
set_option linter.all false
set_option maxRecDepth 100000
set_option maxHeartbeats 4000000
namespace KB
open PySem PySem.Spec PyProof.Rows L2
section
variable {X : Cx} {O0 : Addr → HO} {r : AddR} {elt t0 i0 t1 i1 : Expr} {if0 if1 : List Expr} {scope : Scope} {own : List (Str × Nat)} {vs1 : List Nat} {pos : Pos} {wi wi1 : TI} {g g1 : TG} {tt tt1 : TT} {te : TE}
theorem pe_sc1R (hc : X.calm = true) (hN : X.N.Nodup) (hi : PI X t0 i0 wi) (ok : BlkOk X.N X.env.scope scope own) (hg : ∀ (s : Shared) (H : Hp) (C : Addr) (cl : List (Str × Addr)) (fp : List Addr), PG (X.blk s H scope (compEnvC scope cl C X.env) fp) t0 g) (ht : ∀ (s : Shared) (H : Hp) (C : Addr) (cl : List (Str × Addr)) (fp : List Addr), PTs (X.blk s H scope (compEnvC scope cl C X.env) fp) if0 tt) (he : ∀ (s : Shared) (H : Hp) (C : Addr) (cl : List (Str × Addr)) (fp : List Addr), PE (X.blk s H scope (compEnvC scope cl C X.env) fp) elt te)
    (new : ∀ (H : Hp) (h : Heap), ObjOk X.prog X.w H (h.push (freshSet X.w)) h.objs.size (O0 h.objs.size)) (ha : ∀ (s : Shared) (H : Hp) (C : Addr) (cl : List (Str × Addr)) (fp : List Addr), MtR (X.blk s H scope (compEnvC scope cl C X.env) fp) "set.add" r) (hs : ∀ x, foldedSetIterable i0 X.env x = pure x := by intro _; rfl) :
    PE X (sc1 elt t0 i0 if0 scope pos) (tSc1 O0 r wi g tt te (own.map (·.2))) :=
  blk_ok (tb := fun D => tAdd r te D) ⟨_, rfl⟩ hN hi ok new (fun s H C cl fp it tn J D σ s1 Z R I T fr st q k =>
    cl_run (X := X.blk s H scope (compEnvC scope cl C X.env) fp) hc rfl (cl_add1 (elt := elt) (i0 := i0) (scope := scope) (pos := pos) (acc := .ref D)) T (hg s H C cl fp) (ht s H C cl fp)
      (fun pl s' τ G N I' _ q' => add_ok (Y := X.blk s H scope (compEnvC scope cl C X.env) fp) rfl (he s H C cl fp) (ha s H C cl fp) pl s' τ G N I' q') I fr st q fun s' G I' _ z => k s' G I' z) hs
theorem pe_sc2R (hc : X.calm = true) (hN : X.N.Nodup) (hi : PI X t0 i0 wi) (ok : BlkOk X.N X.env.scope scope own) (hv : ∀ i ∈ vs1, i ∈ own.map (·.2)) (hg : ∀ (s : Shared) (H : Hp) (C : Addr) (cl : List (Str × Addr)) (fp : List Addr), PG (X.blk s H scope (compEnvC scope cl C X.env) fp) t0 g) (ht : ∀ (s : Shared) (H : Hp) (C : Addr) (cl : List (Str × Addr)) (fp : List Addr), PTs (X.blk s H scope (compEnvC scope cl C X.env) fp) if0 tt)
    (hi1 : ∀ (s : Shared) (H : Hp) (C : Addr) (cl : List (Str × Addr)) (fp : List Addr), PI (X.blk s H scope (compEnvC scope cl C X.env) fp) t1 i1 wi1) (hg1 : ∀ (s : Shared) (H : Hp) (C : Addr) (cl : List (Str × Addr)) (fp : List Addr), PG (X.blk s H scope (compEnvC scope cl C X.env) fp) t1 g1) (ht1 : ∀ (s : Shared) (H : Hp) (C : Addr) (cl : List (Str × Addr)) (fp : List Addr), PTs (X.blk s H scope (compEnvC scope cl C X.env) fp) if1 tt1) (he : ∀ (s : Shared) (H : Hp) (C : Addr) (cl : List (Str × Addr)) (fp : List Addr), PE (X.blk s H scope (compEnvC scope cl C X.env) fp) elt te)
    (new : ∀ (H : Hp) (h : Heap), ObjOk X.prog X.w H (h.push (freshSet X.w)) h.objs.size (O0 h.objs.size)) (ha : ∀ (s : Shared) (H : Hp) (C : Addr) (cl : List (Str × Addr)) (fp : List Addr), MtR (X.blk s H scope (compEnvC scope cl C X.env) fp) "set.add" r) (hs : ∀ x, foldedSetIterable i0 X.env x = pure x := by intro _; rfl) (hs1 : ∀ env x, foldedSetIterable i1 env x = pure x := by intro _ _; rfl) :
    PE X (sc2 elt t0 i0 t1 i1 if0 if1 scope pos) (tSc2 O0 r wi g tt wi1 g1 tt1 te (own.map (·.2)) vs1) :=
  blk_ok (tb := fun D => tInn r wi1 g1 tt1 te vs1 D) ⟨_, rfl⟩ hN hi ok new (fun s H C cl fp it tn J D σ s1 Z R I T fr st q k =>
    cl_run (X := X.blk s H scope (compEnvC scope cl C X.env) fp) hc rfl (cl_in (elt := elt) (t0 := t0) (i0 := i0) (t1 := t1) (if0 := if0) (if1 := if1) (scope := scope) (pos := pos) (acc := .ref D) (hs1 _)) T (hg s H C cl fp) (ht s H C cl fp)
      (fun pl s' τ G N I' _ q' => inn_ok (Y := X.blk s H scope (compEnvC scope cl C X.env) fp) hc rfl hv (hi1 s H C cl fp) (hg1 s H C cl fp) (ht1 s H C cl fp) (he s H C cl fp) (ha s H C cl fp) pl s' τ G N I' q') I fr st q fun s' G I' _ z => k s' G I' z) hs
/-- of ints -/
theorem pe_sc1I (hc : X.calm = true) (hN : X.N.Nodup) (hi : PI X t0 i0 wi) (ok : BlkOk X.N X.env.scope scope own) (hg : ∀ (s : Shared) (H : Hp) (C : Addr) (cl : List (Str × Addr)) (fp : List Addr), PG (X.blk s H scope (compEnvC scope cl C X.env) fp) t0 g) (ht : ∀ (s : Shared) (H : Hp) (C : Addr) (cl : List (Str × Addr)) (fp : List Addr), PTs (X.blk s H scope (compEnvC scope cl C X.env) fp) if0 tt) (he : ∀ (s : Shared) (H : Hp) (C : Addr) (cl : List (Str × Addr)) (fp : List Addr), PE (X.blk s H scope (compEnvC scope cl C X.env) fp) elt te) (hs : ∀ x, foldedSetIterable i0 X.env x = pure x := by intro _; rfl) :
    PE X (sc1 elt t0 i0 if0 scope pos) (tSc1 (fun D => SetO X.w D (fun _ => false) 0) (rSAdd X.w) wi g tt te (own.map (·.2))) :=
  pe_sc1R hc hN hi ok hg ht he (fun _ _ => setO_new (setR_fresh X.w)) (fun _ _ _ _ _ => mt_sadd) hs
theorem pe_sc2I (hc : X.calm = true) (hN : X.N.Nodup) (hi : PI X t0 i0 wi) (ok : BlkOk X.N X.env.scope scope own) (hv : ∀ i ∈ vs1, i ∈ own.map (·.2)) (hg : ∀ (s : Shared) (H : Hp) (C : Addr) (cl : List (Str × Addr)) (fp : List Addr), PG (X.blk s H scope (compEnvC scope cl C X.env) fp) t0 g) (ht : ∀ (s : Shared) (H : Hp) (C : Addr) (cl : List (Str × Addr)) (fp : List Addr), PTs (X.blk s H scope (compEnvC scope cl C X.env) fp) if0 tt)
    (hi1 : ∀ (s : Shared) (H : Hp) (C : Addr) (cl : List (Str × Addr)) (fp : List Addr), PI (X.blk s H scope (compEnvC scope cl C X.env) fp) t1 i1 wi1) (hg1 : ∀ (s : Shared) (H : Hp) (C : Addr) (cl : List (Str × Addr)) (fp : List Addr), PG (X.blk s H scope (compEnvC scope cl C X.env) fp) t1 g1) (ht1 : ∀ (s : Shared) (H : Hp) (C : Addr) (cl : List (Str × Addr)) (fp : List Addr), PTs (X.blk s H scope (compEnvC scope cl C X.env) fp) if1 tt1) (he : ∀ (s : Shared) (H : Hp) (C : Addr) (cl : List (Str × Addr)) (fp : List Addr), PE (X.blk s H scope (compEnvC scope cl C X.env) fp) elt te)
    (hs : ∀ x, foldedSetIterable i0 X.env x = pure x := by intro _; rfl) (hs1 : ∀ env x, foldedSetIterable i1 env x = pure x := by intro _ _; rfl) :
    PE X (sc2 elt t0 i0 t1 i1 if0 if1 scope pos) (tSc2 (fun D => SetO X.w D (fun _ => false) 0) (rSAdd X.w) wi g tt wi1 g1 tt1 te (own.map (·.2)) vs1) :=
  pe_sc2R hc hN hi ok hv hg ht hi1 hg1 ht1 he (fun _ _ => setO_new (setR_fresh X.w)) (fun _ _ _ _ _ => mt_sadd) hs hs1
end
/-- a clause over what a Walk tells: I holds ahead of each turn -/
theorem cl_walk {J : It} {n : Nat} {G0 : Hp → Prop} {Y : Nat → Hp → V → Hp → Prop} {g : TG} {tt : TT} {tb : L2.St → Hp → (Hp → Prop) → Prop} {vs : List Nat} {σ : L2.St} {Z : Hp → Prop} {H : Hp} (w : Walk J n G0 Y) (I : Nat → Hp → Prop) (h0 : I 0 H) (hp : ∀ i G, i ≤ n → I i G → G0 G)
    (turn : ∀ (i : Nat) (x : V) (G G' : Hp), i < n → I i G → Y i G x G' → g x (wipe σ vs) G' fun σ2 H2 => wipe σ2 vs = wipe σ vs ∧ tt σ2 H2 fun b H3 => if b = true then tb σ2 H3 (I (i + 1)) else I (i + 1) H3) (fin : ∀ G, I n G → Z G) :
    tCl g tt tb vs σ Z J H := by
  refine ⟨fun i m G => m = n - i ∧ i ≤ n ∧ I i G, ⟨n, by simp, Nat.zero_le _, h0⟩, ?_⟩
  rintro i m G ⟨rfl, hi, z⟩
  by_cases lt : i < n
  · exact .inr ⟨w.goes i G lt (hp i G hi z), I (i + 1), fun G' z' => ⟨n - (i + 1), by omega, rfl, lt, z'⟩, fun x G' y => turn i x G G' lt z (w.yields i G x G' lt (hp i G hi z) y)⟩
  · obtain rfl : i = n := by omega
    exact .inl ⟨w.stops G (hp i G hi z), fin G z⟩
end KB
set_option Elab.async false
set_option linter.all false
set_option maxRecDepth 100000
set_option maxHeartbeats 4000000
/-! max(xs, default=d), xs a list of ints. -/
namespace KB
open PySem PySem.Spec PyProof.Rows L2
def kwD (dv : Value) : List (Str × Value) := [(Str.ofString "default", dv)]
abbrev mxC (J S : Addr) (dv : Value) : Code := .builtin "max.loop" ⟨[.ref J, .none, .ref S], kwD dv⟩
section
variable {prog : Program} {w : World} {A : Around} {R : Result → Shared → Prop} {J S : Addr} {fq wq : List Addr} {N : Nat} {Iv : Nat → Value → Prop} {Sv : Nat → Heap → Prop} {dv : Value}
theorem mx_name : (toString "max" ++ toString ".loop" : String) = "max.loop" := by decide
/-- what is promised of the end -/
def MxEnd (R : Result → Shared → Prop) (S : Addr) (wq : List Addr) (G : Value → Prop) (s : Shared) : Prop :=
  ∀ (v : Value) (h' : Heap) (tk : Nat), G v → (∀ (b : Addr) (o : Obj), b ∉ wq → b ≠ S → s.heap.get? b = some o → h'.get? b = some o) → R (.ok (.ret v)) { s with heap := h', toks := tk }
theorem MxEnd.on {G : Value → Prop} {s : Shared} {h1 : Heap} {t1 : Nat} (m : MxEnd R S wq G s) (k : ∀ (b : Addr) (o : Obj), b ∉ wq → b ≠ S → s.heap.get? b = some o → h1.get? b = some o) : MxEnd R S wq G { s with heap := h1, toks := t1 } :=
  fun v h' tk g kk => m v h' tk g fun b o n1 n2 e => kk b o n1 n2 (k b o n1 n2 e)
theorem mx_turns (Wk : Walks prog w A.in1 J fq wq N Iv Sv) (bt : Nat → Nat → Bool) (C : CmpOf prog w A.in1 .Gt Iv bt) (nS : S ∉ fq) (d : Nat) : ∀ (i : Nat) (s : Shared) (u : Value) (cap : Nat), N = (i + 1) + d → Sv (i + 1) s.heap → Iv (argBest bt i) u →
    s.heap.get? S = some { cls := .type "list", dict := none, data := .seq #[u, u] cap, slots := #[] } → MxEnd R S wq (Iv (argBest bt (N - 1))) s → codeAny (model prog w) A (mxC J S dv) R s := by
  have nw : S ∉ wq := fun m => nS (Wk.sub _ m)
  induction d with
  | zero =>
    intro i s u cap hN hSt hI hS hE
    have eN : i + 1 = N := by omega
    refine codeAny_builtin PySem.F.entry_max_loop ?_
    rw [Around.under_plainId PySem.F.plain_max_loop _]
    show wpAny _ A.in1 (seqItems? (.ref S) >>= _) _ _ s
    refine wpAny_bind (wpAny_seqItems hS rfl ?_)
    show wpAny _ A.in1 (tryCatch (pyNext (.ref J)) _ >>= _) _ _ s
    refine wpAny_bind (wpAny_tryCatch (Wk.done s _ _ (by rw [← eN]; exact hSt) fun h1 t1 k1 => ?_))
    have hS1 := k1 S _ nw hS
    show wpAny _ A.in1 (updateSeq S (fun _ => #[]) >>= _) _ _ _
    refine wpAny_bind (wpAny_updateSeq hS1 rfl (wpAny_bind (wpAny_letGo (wpAny_pure ?_))))
    refine hE u _ t1 (by rw [← eN]; exact hI) fun b o n1 n2 e => ?_
    exact (Heap.get?_update_other _ _ (Ne.symm n2)).trans (k1 b o n1 e)
  | succ d ih =>
    intro i s u cap hN hSt hI hS hE
    have hi : i + 1 < N := by omega
    refine codeAny_builtin PySem.F.entry_max_loop ?_
    rw [Around.under_plainId PySem.F.plain_max_loop _]
    show wpAny _ A.in1 (seqItems? (.ref S) >>= _) _ _ s
    refine wpAny_bind (wpAny_seqItems hS rfl ?_)
    show wpAny _ A.in1 (tryCatch (pyNext (.ref J)) _ >>= _) _ _ s
    refine wpAny_bind (wpAny_tryCatch (Wk.item (i + 1) s _ _ hi hSt fun v h1 t1 hv hSt1 k1 => ?_))
    have hS1 := k1 S _ nw hS
    show wpAny _ A.in1 (tryCatch (holding [v, v] (richCompare .Gt v u >>= _)) _ >>= _) _ _ _
    refine wpAny_bind (wpAny_tryCatch (wpAny_holding (wpAny_bind (C (i + 1) (argBest bt i) v u _ _ _ hv hI ?_))))
    refine wpAny_bind (wpAny_holding (wpAny_truthy_bool (wpAny_bind (wpAny_letGo (wpAny_pure ?_)))))
    cases q : bt (i + 1) (argBest bt i) with
    | true =>
      have eB : argBest bt (i + 1) = i + 1 := by simp only [argBest, q, if_true]
      simp only [if_true]
      refine wpAny_bind (wpAny_updateSeq hS1 rfl (wpAny_bind (wpAny_letGo ?_)))
      rw [mx_name]
      refine wpAny_pure ⟨plainId_quiet PySem.F.plain_max_loop _, ih (i + 1) _ v _ (by omega) (Wk.frame _ _ _ hSt1 fun b hb o e => ?_) (by rw [eB]; exact hv) (Heap.get?_update_self _ hS1 rfl) (hE.on fun b o n1 n2 e => ?_)⟩
      · exact (Heap.get?_update_other _ _ (fun z : S = b => nS (z ▸ hb))).trans e
      · exact (Heap.get?_update_other _ _ (Ne.symm n2)).trans (k1 b o n1 e)
    | false =>
      have eB : argBest bt (i + 1) = argBest bt i := by simp only [argBest, q, Bool.false_eq_true, if_false]
      simp only [Bool.false_eq_true, if_false]
      refine wpAny_bind (wpAny_letGo ?_)
      rw [mx_name]
      exact wpAny_pure ⟨plainId_quiet PySem.F.plain_max_loop _, ih (i + 1) _ u cap (by omega) hSt1 (by rw [eB]; exact hI) hS1 (hE.on fun b o n1 n2 e => k1 b o n1 e)⟩
/-- from the first turn on -/
theorem mx_first (Wk : Walks prog w A.in1 J fq wq N Iv Sv) (bt : Nat → Nat → Bool) (C : CmpOf prog w A.in1 .Gt Iv bt) (nS : S ∉ fq) {s : Shared} {cap : Nat} (hSt : Sv 0 s.heap)
    (hS : s.heap.get? S = some { cls := .type "list", dict := none, data := .seq #[] cap, slots := #[] }) (h0 : N = 0 → MxEnd R S wq (fun v => v = dv) s) (h1 : 0 < N → MxEnd R S wq (Iv (argBest bt (N - 1))) s) : codeAny (model prog w) A (mxC J S dv) R s := by
  have nw : S ∉ wq := fun m => nS (Wk.sub _ m)
  refine codeAny_builtin PySem.F.entry_max_loop ?_
  rw [Around.under_plainId PySem.F.plain_max_loop _]
  show wpAny _ A.in1 (seqItems? (.ref S) >>= _) _ _ s
  refine wpAny_bind (wpAny_seqItems hS rfl ?_)
  show wpAny _ A.in1 (tryCatch (pyNext (.ref J)) _ >>= _) _ _ s
  rcases Nat.eq_zero_or_pos N with e | hN
  · refine wpAny_bind (wpAny_tryCatch (Wk.done s _ _ (by rw [e]; exact hSt) fun h' tk k' => ?_))
    show wpAny _ A.in1 (rule (toString "max" ++ toString ".default") >>= fun _ => ret dv) _ _ _
    refine wpAny_bind (wpAny_rule ?_)
    exact wpAny_pure (h0 e dv h' tk rfl fun b o n1 n2 ee => k' b o n1 ee)
  · refine wpAny_bind (wpAny_tryCatch (Wk.item 0 s _ _ hN hSt fun v h' tk hv hSt1 k' => ?_))
    have hS1 := k' S _ nw hS
    show wpAny _ A.in1 (updateSeq S (fun _ => #[v, v]) >>= _) _ _ _
    refine wpAny_bind (wpAny_updateSeq hS1 rfl ?_)
    rw [mx_name]
    refine wpAny_pure ⟨plainId_quiet PySem.F.plain_max_loop _, mx_turns Wk bt C nS (N - 1) 0 _ v _ (by omega) (Wk.frame _ _ _ hSt1 fun b hb o e => ?_) hv (Heap.get?_update_self _ hS1 rfl) ((h1 hN).on fun b o n1 n2 e => ?_)⟩
    · exact (Heap.get?_update_other _ _ (fun z : S = b => nS (z ▸ hb))).trans e
    · exact (Heap.get?_update_other _ _ (Ne.symm n2)).trans (k' b o n1 e)
end
section
variable {prog : Program} {w : World} {A : Around} {E : Value → Shared → Prop} {s : Shared} {l : Addr}
theorem mx_args (a v : Value) : argsOk "max" ⟨[a], kwD v⟩ := by unfold argsOk kwD; kernel_rfl
theorem max_dflt {xs : Array (Int × Tok)} {dv : Value} {Q : Value → Shared → Prop} (hh : A.handled = none) (hl : s.heap.IsList l (intItems xs))
    (k0 : xs.size = 0 → ∀ h' tk, (∀ b o, s.heap.get? b = some o → h'.get? b = some o) → Q dv { s with heap := h', toks := tk })
    (k1 : 0 < xs.size → ∀ v h' tk, (intItems xs)[argBest (fun i j => decide (numAt xs i > numAt xs j)) (xs.size - 1)]? = some v → (∀ b o, s.heap.get? b = some o → h'.get? b = some o) → Q v { s with heap := h', toks := tk }) :
    wpAny (model prog w) A (call (.builtin "max") [.ref l] (kwD dv)) Q E s := by
  have fin : wpAny (model prog w) A.in1 (Builtin.«max» ⟨[.ref l], kwD dv⟩) (fun z s' => match z with
      | .done f => (match (Except.ok f : Result) with | .ok (.ret v) => Q v s' | .ok _ => False | .error e => E e s')
      | .again c' => c'.quiet = true ∧ codeAny (model prog w) A c' (fun r s' => match r with | .ok (.ret v) => Q v s' | .ok _ => False | .error e => E e s') s') E s := by
    show wpAny _ A.in1 (Builtin.Builtins.bindParams "max" ["key", "default"] 0 ⟨[], kwD dv⟩ >>= _) _ _ s
    refine wpAny_bind (wpAny_of_eq (show Builtin.Builtins.bindParams "max" ["key", "default"] 0 ⟨[], kwD dv⟩ = pure [none, some dv] from rfl) ?_)
    refine wpAny_bind (wpAny_pure ?_)
    refine wpAny_bind (iter_intList hl fun s2 e hI hlt ne => ?_)
    subst e
    refine wpAny_bind (wpAny_newObj_type ?_)
    rw [mx_name]
    have nS : s.heap.objs.size + 1 ∉ [s.heap.objs.size, l] := fun m => by
      have hl' : l < s.heap.objs.size := by
        obtain ⟨_, e, _⟩ := hl
        exact Heap.lt_size e
      rcases List.mem_cons.mp m with e | m
      · exact absurd e (Nat.succ_ne_self _)
      · rw [List.mem_singleton] at m
        rw [← m] at hl'
        exact Nat.lt_irrefl _ (Nat.lt_of_succ_lt hl')
    have sz : (s.heap.push { cls := .type "list_iterator", data := .fields #[.ref l, .int 0 0] }).objs.size = s.heap.objs.size + 1 := Heap.size_push ..
    have Wk := Walks.list (prog := prog) (w := w) (A := A.in1) hh s.heap.objs.size l ne (intItems xs)
    have old : ∀ (b : Addr) (o : Obj), s.heap.get? b = some o → b ∉ [s.heap.objs.size] ∧ b ≠ s.heap.objs.size + 1 := fun b o e => by
      have := Heap.lt_size e
      refine ⟨fun m => ?_, Nat.ne_of_lt (Nat.lt_succ_of_lt this)⟩
      rw [List.mem_singleton] at m
      exact Nat.ne_of_lt this m
    refine wpAny_pure ⟨plainId_quiet PySem.F.plain_max_loop _, ?_⟩
    rw [sz]
    refine mx_first (S := s.heap.objs.size + 1) (dv := dv) Wk (fun i j => decide (numAt xs i > numAt xs j)) (CmpOf.ints_gt (numAt xs) fun _ _ => intItems_at) nS (Wk.frame _ _ _ hI fun b _ o e => Heap.get?_push_of_some _ e) (by rw [← sz]; exact Heap.get?_push_size _ rfl) (fun h0 v h' tk g k => ?_) (fun h1 v h' tk g k => ?_)
    · subst g
      exact k0 (by simpa [intItems] using h0) h' tk fun b o e => k b o (old b o e).1 (old b o e).2 (Heap.get?_push_of_some _ (Heap.get?_push_of_some _ e))
    · exact k1 (by simpa [intItems] using h1) v h' tk (by simpa [intItems] using g) fun b o e => k b o (old b o e).1 (old b o e).2 (Heap.get?_push_of_some _ (Heap.get?_push_of_some _ e))
  refine wpAny_call (codeAny_call_builtin PySem.F.plain_max PySem.F.entry_max ?_)
  simp only [checkBuiltinCall, PySem.F.kind_max]
  cases q : Manifest.signature? "max" with
  | none => exact wpAny_pure fin
  | some sig =>
    have ha := mx_args (.ref l) dv
    simp only [argsOk, q] at ha
    show wpAny _ A.in1 (Bind.checkArgs "max" sig ⟨[.ref l], kwD dv⟩) _ _ s
    rw [show Bind.checkArgs "max" sig ⟨[.ref l], kwD dv⟩ = pure () from ha]
    exact wpAny_pure fin
end
section
variable {X : Cx}
/-- max(xs, default=d) -/
def rMaxDf (K : PySem.W.Frag) : List V → List V → Hp → VK → Prop := fun vs zs H Q => ∃ (a : Addr) (ns : List Int) (d : Int), vs = [.ref a] ∧ zs = [.int d] ∧ SqL K H a (ns.map V.int) ∧ ∀ m : Int, (ns = [] → m = d) → (ns ≠ [] → m ∈ ns ∧ ∀ y ∈ ns, y ≤ m) → Q (.int m) H
theorem cr_maxDf (hc : X.calm = true) : CallRK X (.builtin "max") [Str.ofString "default"] (rMaxDf X.K) := by
  intro pins s σ H vs zs us ws Q I r rz h
  obtain ⟨a, ns, d, rfl, rfl, hs, q⟩ := h
  obtain ⟨dv, rfl, rd⟩ := rz.one
  obtain ⟨its, rv, hl, _⟩ := I.list hs
  rw [Vals.ref1 r]
  obtain ⟨xs, e⟩ := rv.ints.allInts.items
  have hn : numsOf (intItems xs).toList = ns := by
    rw [← e]
    exact rv.ints.numsOf
  rw [nums_intItems] at hn
  have hl' := hl.isList
  rw [e] at hl'
  have ln : ns.length = xs.size := by rw [← hn, List.length_map, Array.length_toList]
  refine max_dflt (I.ok.hd hc) hl' (fun h0 h' tk k => ?_) (fun h1 v h' tk hv k => ?_)
  · have e0 : ns = [] := List.eq_nil_of_length_eq_zero (by omega)
    exact ⟨.int d, H, I.kept k, rd, q d (fun _ => rfl) fun z => absurd e0 z⟩
  · obtain ⟨t, rfl⟩ := intItems_at hv
    obtain ⟨b1, b2⟩ := argBest_gt (numAt xs) (xs.size - 1)
    have ne : ns ≠ [] := fun z => by
      rw [z] at ln
      simp at ln
      omega
    refine ⟨.int _, H, I.kept k, ⟨_, rfl⟩, q _ (fun z => absurd z ne) fun _ => ⟨?_, fun y hy => ?_⟩⟩
    · rw [numAt_eq, hn]
      exact PySem.getD_mem (by omega)
    · obtain ⟨j, hj, rfl⟩ := mem_getD hy
      rw [← hn, ← numAt_eq]
      exact b2 j (by omega)
end
end KB
set_option Elab.async false
set_option linter.all false
set_option maxRecDepth 100000
set_option maxHeartbeats 4000000
/-! Words, deeds, logs as data. -/
namespace K33
open PySem PySem.Spec PyProof.Rows L2 KB
structure FreeS (mg : Str → Option Value) : Prop extends Free mg where
  tstr : mg "str" = none
  sorted : mg "sorted" = none
def abc : List Nat := (List.range 26).map (· + 97)
def wordS (z : Str) : Bool := decide (1 ≤ z.length ∧ z.length ≤ 8) && z.cps.toList.all fun c => decide (c ∈ abc)
mutual
/-- words of a deed: counts, words, None, tuples of these -/
def okW : PyData → Bool
  | .none => true
  | .int i => decide (0 ≤ i ∧ i < 100000000)
  | .str z => wordS z
  | .tuple ds => okWs ds
  | _ => false
def okWs : List PyData → Bool
  | [] => true
  | d :: ds => okW d && okWs ds
end
theorem okWs_iff : ∀ {ds : List PyData}, okWs ds = true ↔ ∀ d ∈ ds, okW d = true
  | [] => by simp [okWs]
  | d :: ds => by
    rw [okWs, Bool.and_eq_true, okWs_iff, List.forall_mem_cons]
mutual
def szW : PyData → Nat
  | .tuple ds => 1 + szWs ds
  | _ => 1
def szWs : List PyData → Nat
  | [] => 0
  | d :: ds => szW d + szWs ds
end
theorem szWs_app : ∀ (xs ys : List PyData), szWs (xs ++ ys) = szWs xs + szWs ys
  | [], ys => by simp [szWs]
  | x :: xs, ys => by
    rw [List.cons_append, szWs, szWs, szWs_app]
    omega
theorem szW_pos (d : PyData) : 1 ≤ szW d := by
  cases d <;> simp [szW] <;> omega
theorem trW {H : Hp} {x : V} {d : PyData} (h : Tr H 5 x d) (k : okW d = true) : x = .non ∨ (∃ i : Int, (0 ≤ i ∧ i < 100000000) ∧ x = .int i) ∨ (∃ z : Str, wordS z = true ∧ x = .str z) ∨
    ∃ (a : Addr) (xs : List V) (ds : List PyData), x = .ref a ∧ d = .tuple ds ∧ H a = some (.tup xs) ∧ xs.length = ds.length ∧ okWs ds = true ∧ ∀ (i : Nat) (u : V) (e : PyData), xs[i]? = some u → ds[i]? = some e → Tr H 5 u e := by
  rcases h with h | ⟨a, xs, ds, rfl, l, _, t, c⟩
  · cases h with
    | non => exact .inl rfl
    | bl b => exact absurd k Bool.false_ne_true
    | int i => exact .inr (.inl ⟨i, of_decide_eq_true k, rfl⟩)
    | str z => exact .inr (.inr (.inl ⟨z, k, rfl⟩))
  · rcases t with ⟨_, rfl⟩ | ⟨ha, rfl⟩
    · exact absurd k Bool.false_ne_true
    · exact .inr (.inr (.inr ⟨a, xs, ds, rfl, rfl, ha, l, k, fun i u e h1 h2 => (c i u e h1 h2).up⟩))
/-- a deed -/
structure Dd where
  n : Nat
  p : Nat
  r : List Nat
  w : List PyData
def numsV (ns : List Nat) : List V := ns.map fun i : Nat => V.int (i : Int)
/-- x is the deed d -/
def DeedAt (H : Hp) (x : V) (d : Dd) : Prop := ∃ (t rd tw : Addr), x = .ref t ∧ H t = some (.tup [.int (d.n : Int), .int (d.p : Int), .ref rd, .ref tw]) ∧ H rd = some (.lst (numsV d.r)) ∧ Tr H 5 (.ref tw) (.tuple d.w)
theorem DeedAt.same {H H' : Hp} {x : V} {d : Dd} (k : Same H H') (h : DeedAt H x d) : DeedAt H' x d := by
  obtain ⟨t, rd, tw, e, e1, e2, e3⟩ := h
  exact ⟨t, rd, tw, e, k _ _ e1, k _ _ e2, e3.same k⟩
/-- a right deed -/
structure Dd.Ok (d : Dd) : Prop where
  n1 : 1 ≤ d.n
  asc : d.r.Pairwise (· < ·)
  own : d.p ∈ d.r
  len : d.r.length ≤ 20
  w : okWs d.w = true
  sz : szWs d.w ≤ 7
/-- the log at a -/
structure LogAt (H : Hp) (a : Addr) (ds : List Dd) : Prop where
  ex : ∃ xs : List V, H a = some (.lst xs) ∧ xs.length = ds.length ∧ ∀ (i : Nat) (x : V) (d : Dd), xs[i]? = some x → ds[i]? = some d → DeedAt H x d
theorem LogAt.same {H H' : Hp} {a : Addr} {ds : List Dd} (k : Same H H') (h : LogAt H a ds) : LogAt H' a ds := by
  obtain ⟨xs, h1, h2, h3⟩ := h
  exact ⟨xs, k _ _ h1, h2, fun i x d e1 e2 => (h3 i x d e1 e2).same k⟩
end K33
set_option Elab.async false
set_option linter.all false
set_option maxRecDepth 100000
set_option maxHeartbeats 8000000
namespace K33
open PySem PySem.Spec PyProof.Rows L2 KB
structure Cn (mg : Str → Option Value) : Prop where
  gA : ∃ t, mg "LETTERS" = some (.str "abcdefghijklmnopqrstuvwxyz" t)
  gM : ∃ t, mg "MOST_LETTERS" = some (.int 8 t)
  gP : ∃ t, mg "GREAT_PRIME" = some (.int 2305843009213693951 t)
  gT : ∃ t, mg "AT_ONCE" = some (.int 64 t)
  gS : ∃ t, mg "MOST_SIGNS" = some (.int 144 t)
  gN : ∃ t, mg "NOTHING" = some (.str "-" t)
theorem cut_tail (ns : List Nat) : cutV (numsV ns) (some 1) none = (numsV ns).drop 1 := by
  unfold cutV
  by_cases h : 1 ≤ (numsV ns).length
  · have e1 : HT.sIx (numsV ns).length 0 (some 1) = 1 := by
      unfold HT.sIx
      simp
      omega
    have e2 : HT.sIx (numsV ns).length (numsV ns).length none = (numsV ns).length := rfl
    rw [e1, e2, List.take_of_length_le (by rw [List.length_drop]; exact Nat.le_refl _)]
  · have e0 : numsV ns = [] := List.length_eq_zero_iff.mp (by omega)
    rw [e0]
    rfl
def spWhole : Sp := fun vs H Q _ => (∃ i : Int, vs = [.int i] ∧ Q (.bl true) H) ∨ ∃ z : Str, vs = [.str z] ∧ Q (.bl false) H
def spCount : Sp := fun vs H Q _ => (∃ i : Int, vs = [.int i] ∧ Q (.bl (decide (i ≥ 0))) H) ∨ ∃ z : Str, vs = [.str z] ∧ Q (.bl false) H
def spTupOf : Sp := fun vs H Q _ => ∃ (t : Addr) (xs : List V) (n : Int), vs = [.ref t, .int n] ∧ H t = some (.tup xs) ∧ Q (.bl (decide ((xs.length : Int) = n))) H
def spAsc : Sp := fun vs H Q _ => ∃ (a : Addr) (ns : List Nat), vs = [.ref a] ∧ H a = some (.lst (numsV ns)) ∧ ns.length ≤ 1000 ∧ ns.Pairwise (· < ·) ∧ ∀ H', Same H H' → Q (.bl true) H'
def spAscC : Sp := fun vs H Q _ => ∃ (a : Addr) (ns : List Nat), vs = [.ref a] ∧ H a = some (.lst (numsV ns)) ∧ ns.length ≤ 1000 ∧ ns.Pairwise (· < ·) ∧ ∀ H', Same H H' → Q (.bl true) H'
def spWord : Sp := fun vs H Q _ => ∃ z : Str, vs = [.str z] ∧ wordS z = true ∧ ∀ H', Same H H' → Q (.bl true) H'
section
variable {P : Program} {w : World} {K : PySem.W.Frag} {mg : Str → Option Value} {base : Heap}
abbrev s_is_whole_number : Stmt := top 10
abbrev N_is_whole_number : List Str := ["value"]
theorem sc_is_whole_number : FnScope N_is_whole_number ["value"] (defScope s_is_whole_number) := ⟨rfl, rfl, rfl, by decide +kernel, rfl, by decide +kernel, by decide +kernel⟩
theorem ok_is_whole_number {f : Addr} {fd : FuncData} (F : FnP K "is_whole_number" s_is_whole_number f fd) (Z : FreeS mg) :
    FnOk P w K mg base CX0 1 f fd ["value"] spWhole := by
  refine F.ok sc_is_whole_number (fun vs H Q E h => ?_) (fun cdv A outer s H vs Q E hr h => ?_)
  · rcases h with ⟨i, rfl, _⟩ | ⟨z, rfl, _⟩ <;> rfl
  ·
    have nd := sc_is_whole_number.nd
    refine ⟨_, PSs.nox (pss_one (ps_ret (pe_and (pe_callB call_isi (by rfl) Z.isi (by decide +kernel) (pa_cons (pv 0) (pa_cons (pe_bltn (v := .ty "int") (by rfl) Z.int (by decide +kernel) rfl) pa_nil))) (pe_one (pe_not (pe_callB call_isi (by rfl) Z.isi (by decide +kernel) (pa_cons (pv 0) (pa_cons (pe_bltn (v := .ty "bool") (by rfl) Z.tbool (by decide +kernel) rfl) pa_nil)))))))), ?_⟩
    rcases h with ⟨i, rfl, k⟩ | ⟨z, rfl, k⟩
    · refine ⟨_, rfl, .int i, .ty "int", .type "int", .type "int", true, rfl, .ty _, .base (.int i), kit_ty (by decide +kernel), true, rfl, iteT ?_⟩
      exact ⟨_, rfl, .int i, .ty "bool", .type "int", .type "bool", false, rfl, .ty _, .base (.int i), kit_ty (by decide +kernel), false, rfl, k⟩
    · exact ⟨_, rfl, .str z, .ty "int", .type "str", .type "int", false, rfl, .ty _, .base (.str z), kit_ty (by decide +kernel), false, rfl, iteF k⟩
abbrev s_is_count : Stmt := top 11
abbrev N_is_count : List Str := ["value"]
theorem sc_is_count : FnScope N_is_count ["value"] (defScope s_is_count) := ⟨rfl, rfl, rfl, by decide +kernel, rfl, by decide +kernel, by decide +kernel⟩
theorem ok_is_count {f : Addr} {fd : FuncData} (F : FnP K "is_count" s_is_count f fd) (Z : FreeS mg)
    {f_is_whole_number : Addr} {d_is_whole_number : FuncData} (g_is_whole_number : mg "is_whole_number" = some (.ref f_is_whole_number)) (F_is_whole_number : FnP K "is_whole_number" s_is_whole_number f_is_whole_number d_is_whole_number) (G_is_whole_number : FnOk P w K mg base CX0 1 f_is_whole_number d_is_whole_number ["value"] spWhole) :
    FnOk P w K mg base CX0 2 f fd ["value"] spCount := by
  have b_is_whole_number : Binds K d_is_whole_number ["value"] [] := F_is_whole_number.bindsN fun _ _ _ _ _ _ us hl => match us, hl with | [_], _ => rfl
  refine F.ok sc_is_count (fun vs H Q E h => ?_) (fun cdv A outer s H vs Q E hr h => ?_)
  · rcases h with ⟨i, rfl, _⟩ | ⟨z, rfl, _⟩ <;> rfl
  ·
    have nd := sc_is_count.nd
    refine ⟨_, PSs.nox (pss_one (ps_ret (pe_and (pe_call G_is_whole_number (hr.mono (by decide)) rfl g_is_whole_number F_is_whole_number.kp b_is_whole_number .nil pass0 (pa_cons (pv 0) (pa_nil))) (pe_one (pe_cmpR op_ge (pv 0) (pe_int) (nomark _)))))), ?_⟩
    rcases h with ⟨i, rfl, k⟩ | ⟨z, rfl, k⟩
    · refine ⟨_, rfl, .inl ⟨i, rfl, true, rfl, iteT ?_⟩⟩
      exact ⟨_, rfl, _, _, rfl, rfl, k⟩
    · exact ⟨_, rfl, .inr ⟨z, rfl, false, rfl, iteF k⟩⟩
abbrev s_is_tuple_of : Stmt := top 12
abbrev N_is_tuple_of : List Str := ["value", "length"]
theorem sc_is_tuple_of : FnScope N_is_tuple_of ["value", "length"] (defScope s_is_tuple_of) := ⟨rfl, rfl, rfl, by decide +kernel, rfl, by decide +kernel, by decide +kernel⟩
theorem ok_is_tuple_of {f : Addr} {fd : FuncData} (F : FnP K "is_tuple_of" s_is_tuple_of f fd) (Z : FreeS mg) :
    FnOk P w K mg base CX0 1 f fd ["value", "length"] spTupOf := by
  refine F.ok sc_is_tuple_of (fun vs H Q E h => ?_) (fun cdv A outer s H vs Q E hr h => ?_)
  · obtain ⟨t, xs, n, rfl, _⟩ := h
    rfl
  · obtain ⟨t, xs, n, rfl, ht, k⟩ := h
    have nd := sc_is_tuple_of.nd
    refine ⟨_, PSs.nox (pss_one (ps_ret (pe_and (pe_callB call_isi (by rfl) Z.isi (by decide +kernel) (pa_cons (pv 0) (pa_cons (pe_bltn (v := .ty "tuple") (by rfl) Z.ttuple (by decide +kernel) rfl) pa_nil))) (pe_one (pe_cmpR op_eq (pe_callB call_len_seq (by rfl) Z.len (by decide +kernel) (pa_cons (pv 0) (pa_nil))) (pv 1) (nomark _)))))), ?_⟩
    refine ⟨_, rfl, .ref t, .ty "tuple", .type "tuple", .type "tuple", true, rfl, .ty _, .base (.tup ht), kit_ty (by decide +kernel), true, rfl, iteT ?_⟩
    refine ⟨_, rfl, t, xs, rfl, Or.inr (Or.inl (.inl ht)), _, rfl, rfl, ?_⟩
    have e : decide (V.int (xs.length : Int) = V.int n) = decide ((xs.length : Int) = n) := by
      by_cases h : (xs.length : Int) = n
      · rw [decide_eq_true h, decide_eq_true (congrArg V.int h)]
      · rw [decide_eq_false h, decide_eq_false fun z => h (V.int.inj z)]
    rw [e]
    exact k
abbrev s_ascends : Stmt := top 13
abbrev N_ascends : List Str := ["values", "one", "other"]
theorem sc_ascends : FnScope N_ascends ["values"] (defScope s_ascends) := ⟨rfl, rfl, rfl, by decide +kernel, rfl, by decide +kernel, by decide +kernel⟩
theorem ok_ascends {f : Addr} {fd : FuncData} (F : FnP K "ascends" s_ascends f fd) (Z : FreeS mg) :
    FnOk P w K mg base CX0 1 f fd ["values"] spAsc := by
  refine F.ok sc_ascends (fun vs H Q E h => ?_) (fun cdv A outer s H vs Q E hr h => ?_)
  · obtain ⟨a, ns, rfl, _⟩ := h
    rfl
  · obtain ⟨a, ns, rfl, ha, hl, hp, k⟩ := h
    have nd := sc_ascends.nd
    refine ⟨_, PSs.nox (pss_one (ps_ret (pe_callB (cr_all rfl) (by rfl) Z.all (by decide +kernel) (pa_cons (pe_lc (own := [("one", 1), ("other", 2)]) (g := gTup K 2 (gCons (gName 1) (gCons (gName 2) (gNil)))) (tt := tYes) (te := tOp (rI0 fun i j => .bl (decide (i < j))) (tVar 1) (tVar 2)) (by rfl) nd (pi_zip (by rfl) Z.zip (pa_cons (pv 0) (pa_cons (pe_slice sl_list (pv 0) (po_some (pe_int)) (po_none)) (pa_nil))))
          (blkOk_by (own := [("one", 1), ("other", 2)]) (N := N_ascends) (sc := defScope s_ascends) (by decide +kernel)) (fun _ _ _ _ _ => pg_tup rfl (pgs_cons (pg_name (i := 1) nd rfl (Or.inl rfl)) (pgs_cons (pg_name (i := 2) nd rfl (Or.inl rfl)) (pgs_nil)))) (fun _ _ _ _ _ => pts_nil)
          (fun _ _ _ _ _ => pe_cmpR op_lt (pv 1) (pv 2) (nomark _))) (pa_nil))))), ?_⟩
    obtain ⟨cq, hq⟩ : ∃ c : List V, c = cutV (numsV ns) (some 1) none := ⟨_, rfl⟩
    have ec : cq = (numsV ns).drop 1 := by
      rw [hq, cut_tail]
    have ln : (numsV ns).length = ns.length := List.length_map _
    refine ⟨_, rfl, _, rfl, _, rfl, a, _, rfl, SqL.of ha, fun q hqn => ?_⟩
    rw [← hq]
    have s1 : Same H (upd H q (.lst cq)) := Same.updf hqn
    refine ⟨a, q, _, _, rfl, SqL.of (s1 _ _ ha), SqL.of upd_same, fun D hD => ?_⟩
    refine lc_sel (n := ns.length - 1) (walk_zip (K := K) (a := a) (b := q) (xs := numsV ns) (ys := cq) (by rw [ec, List.length_drop, ln]; omega)) (fun _ => some (.bl true)) (by omega) hD (fun H2 s2 => ⟨SqL.of (s2 _ _ (s1 _ _ ha)), SqL.of (s2 _ _ upd_same)⟩) ?_ ?_
    · rintro t v H5 H6 Qy Qn ht s6 ⟨T, x1, x2, rfl, nT, rfl, g1, g2⟩ ky kn
      dsimp only at g1 g2
      rw [ec, List.getElem?_drop] at g2
      unfold numsV at g1 g2
      rw [List.getElem?_map, List.getElem?_eq_getElem (by omega)] at g1 g2
      obtain rfl := Option.some.inj g1
      obtain rfl := Option.some.inj g2
      refine ⟨T, [_, _], rfl, .inl (.inl upd_same), rfl, _, [_], rfl, _, [], rfl, rfl, ?_⟩
      refine ⟨rfl, _, rfl, _, rfl, _, _, rfl, rfl, ky _ _ (Same.updf nT) ?_⟩
      have up := List.pairwise_iff_getElem.mp hp t (1 + t) (by omega) (by omega) (by omega)
      exact (congrArg (fun c => some (V.bl c)) (decide_eq_true (show (ns[t] : Int) < (ns[1 + t] : Int) by omega))).symm
    · intro H2 s2 hR
      obtain ⟨bs, hB, hb⟩ := all_bits (K := K) hR
      refine ⟨D, bs, rfl, hB, ?_⟩
      rw [hb]
      exact k _ (s1.trans s2)
abbrev s_are_ascending_counts : Stmt := top 14
abbrev N_are_ascending_counts : List Str := ["value", "part"]
theorem sc_are_ascending_counts : FnScope N_are_ascending_counts ["value"] (defScope s_are_ascending_counts) := ⟨rfl, rfl, rfl, by decide +kernel, rfl, by decide +kernel, by decide +kernel⟩
theorem ok_are_ascending_counts {f : Addr} {fd : FuncData} (F : FnP K "are_ascending_counts" s_are_ascending_counts f fd) (Z : FreeS mg)
    {f_ascends : Addr} {d_ascends : FuncData} (g_ascends : mg "ascends" = some (.ref f_ascends)) (F_ascends : FnP K "ascends" s_ascends f_ascends d_ascends) (G_ascends : FnOk P w K mg base CX0 1 f_ascends d_ascends ["values"] spAsc)
    {f_is_count : Addr} {d_is_count : FuncData} (g_is_count : mg "is_count" = some (.ref f_is_count)) (F_is_count : FnP K "is_count" s_is_count f_is_count d_is_count) (G_is_count : FnOk P w K mg base CX0 2 f_is_count d_is_count ["value"] spCount) :
    FnOk P w K mg base CX0 3 f fd ["value"] spAscC := by
  have b_ascends : Binds K d_ascends ["values"] [] := F_ascends.bindsN fun _ _ _ _ _ _ us hl => match us, hl with | [_], _ => rfl
  have b_is_count : Binds K d_is_count ["value"] [] := F_is_count.bindsN fun _ _ _ _ _ _ us hl => match us, hl with | [_], _ => rfl
  refine F.ok sc_are_ascending_counts (fun vs H Q E h => ?_) (fun cdv A outer s H vs Q E hr h => ?_)
  · obtain ⟨a, ns, rfl, _⟩ := h
    rfl
  · obtain ⟨a, ns, rfl, ha, hl, hp, k⟩ := h
    have nd := sc_are_ascending_counts.nd
    refine ⟨_, PSs.nox (pss_one (ps_ret (pe_and (pe_callB call_isi (by rfl) Z.isi (by decide +kernel) (pa_cons (pv 0) (pa_cons (pe_bltn (v := .ty "list") (by rfl) Z.tlist (by decide +kernel) rfl) pa_nil))) (pe_and (pe_callB (cr_all rfl) (by rfl) Z.all (by decide +kernel) (pa_cons (pe_lc (own := [("part", 1)]) (g := gName 1) (tt := tYes) (te := tCall spCount [] E0 (tCons (tVar 1) (tNil))) (by rfl) nd (pi_list (pv 0))
          (blkOk_by (own := [("part", 1)]) (N := N_are_ascending_counts) (sc := defScope s_are_ascending_counts) (by decide +kernel)) (fun _ _ _ _ _ => pg_name (i := 1) nd rfl (Or.inl rfl)) (fun _ _ _ _ _ => pts_nil)
          (fun _ _ _ _ _ => pe_call G_is_count (hr.mono (by decide)) rfl g_is_count F_is_count.kp b_is_count .nil pass0 (pa_cons (pv 1) (pa_nil)))) (pa_nil))) (pe_one (pe_call G_ascends (hr.mono (by decide)) rfl g_ascends F_ascends.kp b_ascends .nil pass0 (pa_cons (pv 0) (pa_nil)))))))), ?_⟩
    have ln : (numsV ns).length = ns.length := List.length_map _
    refine ⟨_, rfl, .ref a, .ty "list", .type "list", .type "list", true, rfl, .ty _, .base (.lst ha), kit_ty (by decide +kernel), true, rfl, iteT ?_⟩
    refine ⟨_, rfl, a, rfl, ⟨_, SqL.of ha⟩, fun D hD => ?_⟩
    refine lc_sel (walk_list (K := K) (a := a) (xs := numsV ns)) (fun _ => some (.bl true)) (by omega) hD (fun H2 s2 => SqL.of (s2 _ _ ha)) ?_ ?_
    · rintro i v H2 H3 Qy Qn hi sH ⟨rfl, hv⟩ ky kn
      unfold numsV at hv
      rw [List.getElem?_map, List.getElem?_eq_getElem (by omega)] at hv
      obtain rfl := Option.some.inj hv
      refine ⟨rfl, _, rfl, .inl ⟨_, rfl, ky _ _ (Same.refl _) ?_⟩⟩
      rw [decide_eq_true (Int.natCast_nonneg _)]
    · intro H2 s2 hR
      obtain ⟨bs, hB, hb⟩ := all_bits (K := K) hR
      refine ⟨D, bs, rfl, hB, ?_⟩
      rw [hb]
      exact ⟨true, rfl, iteT ⟨_, rfl, a, ns, rfl, s2 _ _ ha, hl, hp, fun H3 s3 => k H3 (s2.trans s3)⟩⟩
abbrev s_is_word : Stmt := top 15
abbrev N_is_word : List Str := ["value", "letter"]
theorem sc_is_word : FnScope N_is_word ["value"] (defScope s_is_word) := ⟨rfl, rfl, rfl, by decide +kernel, rfl, by decide +kernel, by decide +kernel⟩
theorem ok_is_word {f : Addr} {fd : FuncData} (F : FnP K "is_word" s_is_word f fd) (Z : FreeS mg) (C : Cn mg) :
    FnOk P w K mg base CX0 1 f fd ["value"] spWord := by
  refine F.ok sc_is_word (fun vs H Q E h => ?_) (fun cdv A outer s H vs Q E hr h => ?_)
  · obtain ⟨z, rfl, _⟩ := h
    rfl
  · obtain ⟨z, rfl, hz, k⟩ := h
    have nd := sc_is_word.nd
    refine ⟨_, PSs.nox (pss_cons (ps_if (PW.pt (pw_or (pt_not (pt_val (pe_callB call_isi (by rfl) Z.isi (by decide +kernel) (pa_cons (pv 0) (pa_cons (pe_bltn (v := .ty "str") (by rfl) Z.tstr (by decide +kernel) rfl) pa_nil))))) (pw_or1 (pt_not (pt_chain op_le op_le (pe_int) (pe_callB call_len_str (by rfl) Z.len (by decide +kernel) (pa_cons (pv 0) pa_nil)) (pe_glob (v := .int 8) (by rfl) C.gM.choose_spec ⟨_, rfl⟩)))))) (pss_one (ps_ret (pe_bl))) (pss_nil))
      (pss_one (ps_ret (pe_callB (cr_all rfl) (by rfl) Z.all (by decide +kernel) (pa_cons (pe_lc (own := [("letter", 1)]) (g := gName 1) (tt := tYes) (by rfl) nd (pi_str (pv 0))
          (blkOk_by (own := [("letter", 1)]) (N := N_is_word) (sc := defScope s_is_word) (by decide +kernel)) (fun _ _ _ _ _ => pg_name (i := 1) nd rfl (Or.inl rfl)) (fun _ _ _ _ _ => pts_nil)
          (fun _ _ _ _ _ => pe_cmpR op_in_sign (pv 1) (pe_glob (v := .str "abcdefghijklmnopqrstuvwxyz") (by rfl) C.gA.choose_spec ⟨_, rfl⟩) (by rfl))) (pa_nil)))))), ?_⟩
    unfold wordS at hz
    rw [Bool.and_eq_true, decide_eq_true_eq, List.all_eq_true] at hz
    obtain ⟨⟨l1, l8⟩, hc⟩ := hz
    refine ⟨_, rfl, .str z, .ty "str", .type "str", .type "str", true, rfl, .ty _, .base (.str z), kit_ty (by decide +kernel), true, rfl, iteF ?_⟩
    have sl : (100 : Nat) ≤ sizeLine := by decide
    have zs : z.cps.size = z.length := rfl
    refine ⟨_, rfl, z, rfl, by omega, _, _, rfl, rfl, _, rfl, ?_⟩
    rw [decide_eq_true (show (1 : Int) ≤ (z.length : Int) by omega)]
    refine iteT ⟨_, _, rfl, rfl, _, rfl, ?_⟩
    rw [decide_eq_true (show (z.length : Int) ≤ 8 by omega)]
    refine iteF ?_
    refine ⟨_, rfl, z, rfl, fun D hD => ?_⟩
    refine lc_sel (n := z.cps.size) (walk_str (z := z)) (fun _ => some (.bl true)) (by omega) hD (fun H2 s2 => trivial) ?_ ?_
    · rintro i v H2 H3 Qy Qn hi sH ⟨rfl, c, hv, rfl⟩ ky kn
      refine ⟨rfl, _, rfl, c, _, rfl, rfl, ky _ _ (Same.refl _) ?_⟩
      have m : c ∈ z.cps.toList := by
        rw [Array.mem_toList_iff]
        exact Array.mem_of_getElem? hv
      have q := of_decide_eq_true (hc c m)
      refine (congrArg (fun b => some (V.bl b)) (decide_eq_true ?_)).symm
      exact q
    · intro H2 s2 hR
      obtain ⟨bs, hB, hb⟩ := all_bits (K := K) hR
      refine ⟨D, bs, rfl, hB, ?_⟩
      rw [hb]
      exact k _ s2
end
end K33
set_option Elab.async false
set_option linter.all false
set_option maxRecDepth 100000
set_option maxHeartbeats 8000000
namespace K33
open PySem PySem.Spec PyProof.Rows L2 KB
def spWords : Sp := fun vs H Q _ => ∃ (t : Addr) (ds : List PyData), vs = [.ref t] ∧ Tr H 5 (.ref t) (.tuple ds) ∧ okWs ds = true ∧ szWs ds ≤ 100 ∧ ∀ H', Same H H' → Q (.bl true) H'
theorem len_sz : ∀ ds : List PyData, ds.length ≤ szWs ds
  | [] => Nat.le_refl _
  | d :: ds => by
    have := szW_pos d
    have := len_sz ds
    rw [List.length_cons, szWs]
    omega
section
variable {P : Program} {w : World} {K : PySem.W.Frag} {mg : Str → Option Value} {base : Heap}
abbrev s_are_words : Stmt := top 19
abbrev N_are_words : List Str := ["value", "ahead", "part"]
theorem sc_are_words : FnScope N_are_words ["value"] (defScope s_are_words) := ⟨rfl, rfl, rfl, by decide +kernel, rfl, by decide +kernel, by decide +kernel⟩
theorem ok_are_words {f : Addr} {fd : FuncData} (F : FnP K "are_words" s_are_words f fd) (Z : FreeS mg)
    {f_is_count : Addr} {d_is_count : FuncData} (g_is_count : mg "is_count" = some (.ref f_is_count)) (F_is_count : FnP K "is_count" s_is_count f_is_count d_is_count) (G_is_count : FnOk P w K mg base CX0 2 f_is_count d_is_count ["value"] spCount)
    {f_is_word : Addr} {d_is_word : FuncData} (g_is_word : mg "is_word" = some (.ref f_is_word)) (F_is_word : FnP K "is_word" s_is_word f_is_word d_is_word) (G_is_word : FnOk P w K mg base CX0 1 f_is_word d_is_word ["value"] spWord) :
    FnOk P w K mg base CX0 3 f fd ["value"] spWords := by
  have b_is_count : Binds K d_is_count ["value"] [] := F_is_count.bindsN fun _ _ _ _ _ _ us hl => match us, hl with | [_], _ => rfl
  have b_is_word : Binds K d_is_word ["value"] [] := F_is_word.bindsN fun _ _ _ _ _ _ us hl => match us, hl with | [_], _ => rfl
  refine F.ok sc_are_words (fun vs H Q E h => ?_) (fun cdv A outer s H vs Q E hr h => ?_)
  · obtain ⟨t, ds, rfl, _⟩ := h
    rfl
  · obtain ⟨t, ds, rfl, ht, ho, hz, k⟩ := h
    have sl : (2000 : Nat) ≤ sizeLine := by decide
    have nd := sc_are_words.nd
    refine ⟨_, PSs.nox (pss_cons (ps_if (pt_not (pt_val (pe_callB call_isi (by rfl) Z.isi (by decide +kernel) (pa_cons (pv 0) (pa_cons (pe_bltn (v := .ty "tuple") (by rfl) Z.ttuple (by decide +kernel) rfl) pa_nil))))) (pss_one (ps_ret (pe_bl))) (pss_nil))
      (pss_cons (ps_set (i := 1) nd rfl (Or.inl rfl) (pe_lst (pa_cons (pv 0) (pa_nil))))
      (pss_cons (ps_while PassesOwn.never (pt_truth (pv 1) (fun _ => rfl)) (pss_cons (ps_set (i := 2) nd rfl (Or.inl rfl) (pe_bm0 PySem.F.plainAttrs_list PySem.F.slot_list_pop PySem.F.type_list_pop mt_pop (pv 1)))
      (pss_one (ps_if (pt_val (pe_callB call_isi (by rfl) Z.isi (by decide +kernel) (pa_cons (pv 2) (pa_cons (pe_bltn (v := .ty "tuple") (by rfl) Z.ttuple (by decide +kernel) rfl) pa_nil)))) (pss_one (ps_expr (pe_bm PySem.F.plainAttrs_list PySem.F.slot_list_extend PySem.F.type_list_extend mt_extend (pv 1) (pa_cons (pe_callTy call_list_of (by rfl) Z.tlist (by decide +kernel) (pa_cons (pv 2) (pa_nil))) (pa_nil))))) (pss_one (ps_if (PW.pt (pw_and (pt_cmpR op_notN (pv 2) (pe_non) (nomark _)) (pw_and (pt_not (pt_val (pe_call G_is_count (hr.mono (by decide)) rfl g_is_count F_is_count.kp b_is_count .nil pass0 (pa_cons (pv 2) (pa_nil))))) (pw_and1 (pt_not (pt_val (pe_call G_is_word (hr.mono (by decide)) rfl g_is_word F_is_word.kp b_is_word .nil pass0 (pa_cons (pv 2) (pa_nil))))))))) (pss_one (ps_ret (pe_bl))) (pss_nil)))))))
      (pss_one (ps_ret (pe_bl)))))), ?_⟩
    obtain ⟨xs0, hx0⟩ : ∃ xs, H t = some (.tup xs) := by
      rcases trW ht (show okW (.tuple ds) = true from ho) with h | ⟨_, _, h⟩ | ⟨_, _, h⟩ | ⟨a, xs, es, h, _, h2, _⟩
      · cases h
      · cases h
      · cases h
      · cases h
        exact ⟨xs, h2⟩
    refine ⟨_, rfl, .ref t, .ty "tuple", .type "tuple", .type "tuple", true, rfl, .ty _, .base (.tup hx0), kit_ty (by decide +kernel), true, rfl, iteF ?_⟩
    refine ⟨_, rfl, (by show 1 ≤ sizeLine; decide), fun q hq => ?_⟩
    refine ⟨fun m σ G => ∃ (xs : List V) (es : List PyData) (v : Option V), m = szWs es ∧ Same H G ∧ G q = some (.lst xs) ∧ xs.length = es.length ∧ (∀ (i : Nat) (u : V) (e : PyData), xs[i]? = some u → es[i]? = some e → Tr H 5 u e) ∧ okWs es = true ∧ szWs es ≤ 101 ∧ xs.length ≤ szWs es ∧ σ = [some (.ref t), some (.ref q), v],
      ⟨szWs [.tuple ds], [.ref t], [.tuple ds], none, rfl, Same.updf hq, upd_same, rfl, tr_cons ht tr_nil, by show (okWs ds && true) = true; rw [ho]; rfl, by simp only [szWs, szW]; omega, by simp only [szWs, szW, List.length_singleton]; omega, rfl⟩, ?_⟩
    rintro m σ G ⟨xs, es, v, rfl, sG, gq, lx, tx, ox, zx, zl, rfl⟩
    refine ⟨_, rfl, !xs.isEmpty, .inl ⟨xs, SqL.of gq, rfl⟩, ?_⟩
    by_cases e0 : xs = []
    · subst e0
      exact k G sG
    · obtain ⟨xs', x, rfl⟩ : ∃ l y, xs = l ++ [y] := ⟨_, _, (List.dropLast_concat_getLast e0).symm⟩
      have n0 : es ≠ [] := fun z => by
        rw [z, List.length_append] at lx
        simp at lx
      obtain ⟨es', d, rfl⟩ : ∃ l y, es = l ++ [y] := ⟨_, _, (List.dropLast_concat_getLast n0).symm⟩
      have lx' : xs'.length = es'.length := by
        rw [List.length_append, List.length_append] at lx
        simp at lx
        exact lx
      have hd : Tr H 5 x d := tx xs'.length x d (by simp) (by rw [lx']; simp)
      have hes : ∀ (i : Nat) (u : V) (e : PyData), xs'[i]? = some u → es'[i]? = some e → Tr H 5 u e := fun i u e h1 h2 =>
        tx i u e (by rw [List.getElem?_append_left (List.getElem?_eq_some_iff.mp h1).1]; exact h1) (by rw [List.getElem?_append_left (List.getElem?_eq_some_iff.mp h2).1]; exact h2)
      have oe : okWs es' = true ∧ okW d = true := ⟨okWs_iff.mpr fun y m => okWs_iff.mp ox y (List.mem_append_left _ m), okWs_iff.mp ox d (List.mem_append_right _ List.mem_cons_self)⟩
      have se : szWs (es' ++ [d]) = szWs es' + szW d := by rw [szWs_app]; rfl
      have sp := szW_pos d
      have ie : (!(xs' ++ [x]).isEmpty) = true := by simp
      rw [ie]
      refine iteT ⟨fun σ' G' => ∃ m', m' < szWs (es' ++ [d]) ∧ ∃ (xs : List V) (es : List PyData) (v : Option V), m' = szWs es ∧ Same H G' ∧ G' q = some (.lst xs) ∧ xs.length = es.length ∧ (∀ (i : Nat) (u : V) (e : PyData), xs[i]? = some u → es[i]? = some e → Tr H 5 u e) ∧ okWs es = true ∧ szWs es ≤ 101 ∧ xs.length ≤ szWs es ∧ σ' = [some (.ref t), some (.ref q), v], fun _ _ h => h, ?_⟩
      refine ⟨_, rfl, .inl ⟨rfl, _, SqL.of gq⟩, q, _, x, rfl, rfl, gq, by simp, ?_⟩
      rw [List.dropLast_concat]
      have sG1 : Same H (upd G q (.lst xs')) := fun b o e => by
        rw [upd_ne (ne_of_none e hq)]
        exact sG _ _ e
      have ll : xs'.length ≤ szWs es' := by
        rw [lx']
        exact len_sz es'
      rcases trW hd oe.2 with rfl | ⟨i, i0, rfl⟩ | ⟨z, hz', rfl⟩ | ⟨a, us, gs, rfl, rfl, ha, lu, og, tg⟩
      · obtain ⟨t', ty', _, k2', _⟩ := FlatD.ty (K := K) (H := upd G q (.lst xs')) FlatD.non
        refine ⟨_, rfl, .non, .ty "tuple", .type t', .type "tuple", false, rfl, .ty _, ty', kit_ty k2', false, rfl, iteF ?_⟩
        refine ⟨_, rfl, rfl, _, rfl, iteF ?_⟩
        exact ⟨szWs es', by omega, xs', es', _, rfl, sG1, upd_same, lx', hes, oe.1, by omega, ll, rfl⟩
      · refine ⟨_, rfl, .int i, .ty "tuple", .type "int", .type "tuple", false, rfl, .ty _, .base (.int i), kit_ty (by decide +kernel), false, rfl, iteF ?_⟩
        refine ⟨_, rfl, rfl, _, rfl, iteT ?_⟩
        refine ⟨_, rfl, .inl ⟨i, rfl, _, rfl, ?_⟩⟩
        rw [decide_eq_true (show i ≥ 0 from i0.1)]
        exact iteF ⟨szWs es', by omega, xs', es', _, rfl, sG1, upd_same, lx', hes, oe.1, by omega, ll, rfl⟩
      · refine ⟨_, rfl, .str z, .ty "tuple", .type "str", .type "tuple", false, rfl, .ty _, .base (.str z), kit_ty (by decide +kernel), false, rfl, iteF ?_⟩
        refine ⟨_, rfl, rfl, _, rfl, iteT ?_⟩
        refine ⟨_, rfl, .inr ⟨z, rfl, _, rfl, iteT ?_⟩⟩
        refine ⟨_, rfl, z, rfl, hz', fun G2 s2 => ⟨_, rfl, iteF ?_⟩⟩
        exact ⟨szWs es', by omega, xs', es', _, rfl, sG1.trans s2, s2 _ _ upd_same, lx', hes, oe.1, by omega, ll, rfl⟩
      · have ha1 := sG1 _ _ ha
        refine ⟨_, rfl, .ref a, .ty "tuple", .type "tuple", .type "tuple", true, rfl, .ty _, .base (.tup ha1), kit_ty (by decide +kernel), true, rfl, iteT ?_⟩
        refine ⟨_, rfl, .inl ⟨rfl, _, SqL.of upd_same⟩, _, rfl, a, us, rfl, Or.inr (SqT.of ha1), fun l hl => ?_⟩
        have nl : q ≠ l := fun z => by
          rw [← z, upd_same] at hl
          cases hl
        have sz2 : szW (.tuple gs) = 1 + szWs gs := rfl
        have lu2 := len_sz gs
        refine ⟨q, l, xs', us, rfl, rfl, by rw [upd_ne nl, upd_same], upd_same, by omega, ?_⟩
        refine ⟨szWs (es' ++ gs), by rw [szWs_app]; omega, xs' ++ us, es' ++ gs, _, rfl, fun b o e => ?_, upd_same, by rw [List.length_append, List.length_append, lx', lu], fun i u e h1 h2 => ?_, ?_, by rw [szWs_app]; omega, by rw [szWs_app, List.length_append]; omega, rfl⟩
        · rw [upd_ne (ne_of_none e hq)]
          exact Same.updf hl _ _ (sG1 _ _ e)
        · by_cases hi : i < xs'.length
          · rw [List.getElem?_append_left hi] at h1
            rw [List.getElem?_append_left (by omega)] at h2
            exact hes i u e h1 h2
          · rw [List.getElem?_append_right (by omega)] at h1 h2
            rw [← lx'] at h2
            exact tg _ u e h1 h2
        · refine okWs_iff.mpr fun y m => ?_
          rcases List.mem_append.mp m with m | m
          · exact okWs_iff.mp oe.1 y m
          · exact okWs_iff.mp og y m
end
end K33
set_option Elab.async false
set_option linter.all false
set_option maxRecDepth 100000
set_option maxHeartbeats 4000000
/-! The pages of a log. -/
namespace K33
open PySem PySem.Spec PyProof.Rows L2 KB
def pB (ds : List Dd) : Nat := (ds.map fun d => d.r.sum).sum + 1
/-- the pages of a log, ascending -/
def pgs (ds : List Dd) : List Nat := (List.range (pB ds)).filter fun p => ds.any fun d => decide (p ∈ d.r)
theorem le_sum : ∀ {l : List Nat} {x : Nat}, x ∈ l → x ≤ l.sum
  | y :: l, x, h => by
    rw [List.sum_cons]
    rcases List.mem_cons.mp h with rfl | h
    · omega
    · have := le_sum h
      omega
theorem pgs_mem {ds : List Dd} {p : Nat} : p ∈ pgs ds ↔ ∃ d ∈ ds, p ∈ d.r := by
  unfold pgs
  rw [List.mem_filter, List.mem_range, List.any_eq_true]
  constructor
  · rintro ⟨_, d, hd, h⟩
    exact ⟨d, hd, of_decide_eq_true h⟩
  · rintro ⟨d, hd, h⟩
    refine ⟨?_, d, hd, decide_eq_true h⟩
    have h1 := le_sum h
    have h2 : d.r.sum ≤ (ds.map fun d => d.r.sum).sum := le_sum (List.mem_map.mpr ⟨d, hd, rfl⟩)
    unfold pB
    omega
theorem pgs_asc (ds : List Dd) : (pgs ds).Pairwise (· < ·) := List.Pairwise.filter _ List.pairwise_lt_range
/-- ascending lists of the same members are alike -/
theorem asc_uniq : ∀ {l m : List Nat}, l.Pairwise (· < ·) → m.Pairwise (· < ·) → (∀ x, x ∈ l ↔ x ∈ m) → l = m
  | [], [], _, _, _ => rfl
  | [], y :: m, _, _, h => by
    have := (h y).mpr List.mem_cons_self
    cases this
  | x :: l, [], _, _, h => by
    have := (h x).mp List.mem_cons_self
    cases this
  | x :: l, y :: m, hl, hm, h => by
    obtain ⟨l1, l2⟩ := List.pairwise_cons.mp hl
    obtain ⟨m1, m2⟩ := List.pairwise_cons.mp hm
    have e : x = y := by
      rcases List.mem_cons.mp ((h x).mp List.mem_cons_self) with e | e
      · exact e
      · rcases List.mem_cons.mp ((h y).mpr List.mem_cons_self) with e' | e'
        · exact e'.symm
        · have a := m1 _ e
          have b := l1 _ e'
          omega
    subst e
    rw [asc_uniq l2 m2 fun z => ?_]
    constructor
    · intro hz
      rcases List.mem_cons.mp ((h z).mp (List.mem_cons_of_mem _ hz)) with e | e
      · have := l1 _ hz
        omega
      · exact e
    · intro hz
      rcases List.mem_cons.mp ((h z).mpr (List.mem_cons_of_mem _ hz)) with e | e
      · have := m1 _ hz
        omega
      · exact e
/-- how many of l are told -/
def cnt (l : List Nat) (S : Int → Bool) : Nat := (l.filter fun (p : Nat) => S (p : Int)).length
theorem cnt_add {l : List Nat} (nd : l.Pairwise (· < ·)) {S : Int → Bool} {k : Nat} (hk : k ∈ l) : cnt l (fun j => S j || decide (j = (k : Int))) = if S (k : Int) = true then cnt l S else cnt l S + 1 := by
  have gen : ∀ (l : List Nat), l.Pairwise (· < ·) → cnt l (fun j => S j || decide (j = (k : Int))) = cnt l S + if S (k : Int) = true then 0 else if k ∈ l then 1 else 0 := by
    intro l
    induction l with
    | nil => intro _; simp [cnt]
    | cons x l ih =>
      intro nd
      obtain ⟨n1, n2⟩ := List.pairwise_cons.mp nd
      have := ih n2
      unfold cnt at this ⊢
      by_cases e : x = k
      · subst e
        have nk : x ∉ l := fun m => Nat.lt_irrefl _ (n1 _ m)
        by_cases sx : S (x : Int) = true
        · simp only [List.filter_cons, sx, Bool.true_or, if_true, List.length_cons] at this ⊢
          omega
        · simp only [List.filter_cons, sx, nk, decide_true, Bool.or_true, if_true, if_false, List.length_cons, List.mem_cons, true_or] at this ⊢
          simp at this ⊢
          omega
      · have ne : ¬ ((x : Int) = (k : Int)) := by omega
        have mk : (k ∈ x :: l) ↔ k ∈ l := by
          rw [List.mem_cons]
          constructor
          · rintro (h | h)
            · exact absurd h.symm e
            · exact h
          · exact Or.inr
        simp only [List.filter_cons, decide_eq_false ne, Bool.or_false, mk] at this ⊢
        split
        · simp only [List.length_cons]
          omega
        · exact this
  rw [gen l nd, if_pos hk]
  by_cases h : S (k : Int) = true
  · rw [if_pos h, if_pos h]
    rfl
  · rw [if_neg h, if_neg h]
theorem cnt_le (l : List Nat) (S : Int → Bool) : cnt l S ≤ l.length := List.length_filter_le _ _
theorem cnt_zero (l : List Nat) : cnt l (fun _ => false) = 0 := by
  unfold cnt
  simp
/-- a right log -/
structure Lg (ds : List Dd) : Prop where
  ok : ∀ d ∈ ds, d.Ok
  asc : ds.Pairwise fun d e => d.n < e.n
  len : ds.length ≤ 60
  pl : (pgs ds).length ≤ 30
end K33
set_option Elab.async false
set_option linter.all false
set_option maxRecDepth 100000
set_option maxHeartbeats 8000000
namespace K33
open PySem PySem.Spec PyProof.Rows L2 KB
def spDeed : Sp := fun vs H Q _ => ∃ (x : V) (d : Dd), vs = [x] ∧ DeedAt H x d ∧ d.Ok ∧ ∀ H', Same H H' → Q (.bl true) H'
theorem inV_nums {ns : List Nat} {p : Nat} (h : p ∈ ns) : inV (.int (p : Int)) (numsV ns) = true := by
  unfold inV numsV
  rw [List.any_eq_true]
  exact ⟨_, List.mem_map.mpr ⟨p, h, rfl⟩, by simp [eqV]⟩
theorem flat_nums (ns : List Nat) : (numsV ns).all flatV = true := by
  unfold numsV
  rw [List.all_eq_true]
  intro x hx
  obtain ⟨i, _, rfl⟩ := List.mem_map.mp hx
  rfl
theorem fm_range {α : Type} (l : List α) (f : α → V) : ((List.range l.length).filterMap fun i => (l[i]?).map f) = l.map f := by
  induction l with
  | nil => rfl
  | cons x l ih =>
    rw [List.length_cons, List.range_succ_eq_map, List.filterMap_cons, List.filterMap_map]
    exact congrArg (f x :: ·) ih
section
variable {P : Program} {w : World} {K : PySem.W.Frag} {mg : Str → Option Value} {base : Heap}
abbrev s_is_deed : Stmt := top 20
abbrev N_is_deed : List Str := ["value", "number", "page", "reads", "words"]
theorem sc_is_deed : FnScope N_is_deed ["value"] (defScope s_is_deed) := ⟨rfl, rfl, rfl, by decide +kernel, rfl, by decide +kernel, by decide +kernel⟩
theorem ok_is_deed {f : Addr} {fd : FuncData} (F : FnP K "is_deed" s_is_deed f fd) (Z : FreeS mg)
    {f_is_tuple_of : Addr} {d_is_tuple_of : FuncData} (g_is_tuple_of : mg "is_tuple_of" = some (.ref f_is_tuple_of)) (F_is_tuple_of : FnP K "is_tuple_of" s_is_tuple_of f_is_tuple_of d_is_tuple_of) (G_is_tuple_of : FnOk P w K mg base CX0 1 f_is_tuple_of d_is_tuple_of ["value", "length"] spTupOf)
    {f_are_ascending_counts : Addr} {d_are_ascending_counts : FuncData} (g_are_ascending_counts : mg "are_ascending_counts" = some (.ref f_are_ascending_counts)) (F_are_ascending_counts : FnP K "are_ascending_counts" s_are_ascending_counts f_are_ascending_counts d_are_ascending_counts) (G_are_ascending_counts : FnOk P w K mg base CX0 3 f_are_ascending_counts d_are_ascending_counts ["value"] spAscC)
    {f_are_words : Addr} {d_are_words : FuncData} (g_are_words : mg "are_words" = some (.ref f_are_words)) (F_are_words : FnP K "are_words" s_are_words f_are_words d_are_words) (G_are_words : FnOk P w K mg base CX0 3 f_are_words d_are_words ["value"] spWords)
    {f_is_count : Addr} {d_is_count : FuncData} (g_is_count : mg "is_count" = some (.ref f_is_count)) (F_is_count : FnP K "is_count" s_is_count f_is_count d_is_count) (G_is_count : FnOk P w K mg base CX0 2 f_is_count d_is_count ["value"] spCount) :
    FnOk P w K mg base CX0 4 f fd ["value"] spDeed := by
  have b_is_tuple_of : Binds K d_is_tuple_of ["value", "length"] [] := F_is_tuple_of.bindsN fun _ _ _ _ _ _ us hl => match us, hl with | [_, _], _ => rfl
  have b_are_ascending_counts : Binds K d_are_ascending_counts ["value"] [] := F_are_ascending_counts.bindsN fun _ _ _ _ _ _ us hl => match us, hl with | [_], _ => rfl
  have b_are_words : Binds K d_are_words ["value"] [] := F_are_words.bindsN fun _ _ _ _ _ _ us hl => match us, hl with | [_], _ => rfl
  have b_is_count : Binds K d_is_count ["value"] [] := F_is_count.bindsN fun _ _ _ _ _ _ us hl => match us, hl with | [_], _ => rfl
  refine F.ok sc_is_deed (fun vs H Q E h => ?_) (fun cdv A outer s H vs Q E hr h => ?_)
  · obtain ⟨x, d, rfl, _⟩ := h
    rfl
  · obtain ⟨x, d, rfl, ⟨t, rd, tw, rfl, ht, hr1, hw⟩, ok, k⟩ := h
    have nd := sc_is_deed.nd
    refine ⟨_, PSs.nox (pss_cons (ps_if (pt_not (pt_val (pe_call G_is_tuple_of (hr.mono (by decide)) rfl g_is_tuple_of F_is_tuple_of.kp b_is_tuple_of .nil pass0 (pa_cons (pv 0) (pa_cons (pe_int) (pa_nil)))))) (pss_one (ps_ret (pe_bl))) (pss_nil))
      (pss_cons (ps_asg (pv 0) (pg_tup rfl (pgs_cons (pg_name (i := 1) nd rfl (Or.inl rfl)) (pgs_cons (pg_name (i := 2) nd rfl (Or.inl rfl)) (pgs_cons (pg_name (i := 3) nd rfl (Or.inl rfl)) (pgs_cons (pg_name (i := 4) nd rfl (Or.inl rfl)) (pgs_nil)))))))
      (pss_cons (ps_if (PW.pt (pw_or (pt_not (pt_val (pe_call G_is_count (hr.mono (by decide)) rfl g_is_count F_is_count.kp b_is_count .nil pass0 (pa_cons (pv 1) (pa_nil))))) (pw_or (pt_cmpR op_lt (pv 1) (pe_int) (nomark _)) (pw_or1 (pt_not (pt_val (pe_call G_is_count (hr.mono (by decide)) rfl g_is_count F_is_count.kp b_is_count .nil pass0 (pa_cons (pv 2) (pa_nil))))))))) (pss_one (ps_ret (pe_bl))) (pss_nil))
      (pss_one (ps_ret (pe_and (pe_call G_are_ascending_counts (hr.mono (by decide)) rfl g_are_ascending_counts F_are_ascending_counts.kp b_are_ascending_counts .nil pass0 (pa_cons (pv 3) (pa_nil))) (pe_and (pe_cmpR op_in_seq (pv 2) (pv 3) (by rfl)) (pe_one (pe_call G_are_words (hr.mono (by decide)) rfl g_are_words F_are_words.kp b_are_words .nil pass0 (pa_cons (pv 4) (pa_nil))))))))))), ?_⟩
    refine ⟨_, rfl, t, _, 4, rfl, ht, _, rfl, iteF ?_⟩
    refine ⟨_, rfl, t, [_, _, _, _], rfl, .inl (.inl ht), rfl, _, [_, _, _], rfl, _, [_, _], rfl, _, [_], rfl, _, [], rfl, rfl, ?_⟩
    refine ⟨_, rfl, .inl ⟨_, rfl, _, rfl, ?_⟩⟩
    rw [decide_eq_true (show (d.n : Int) ≥ 0 by omega)]
    refine iteF ⟨_, rfl, _, _, rfl, rfl, _, rfl, ?_⟩
    have n1 := ok.n1
    rw [decide_eq_false (show ¬ (d.n : Int) < 1 by omega)]
    refine iteF ⟨_, rfl, .inl ⟨_, rfl, _, rfl, ?_⟩⟩
    rw [decide_eq_true (show (d.p : Int) ≥ 0 by omega)]
    refine iteF ⟨_, rfl, rd, d.r, rfl, hr1, by have := ok.len; omega, ok.asc, fun G1 s1 => ⟨true, rfl, iteT ?_⟩⟩
    refine ⟨_, rfl, _, rfl, rd, _, rfl, Or.inl (SqL.of (s1 _ _ hr1)), rfl, flat_nums _, ?_⟩
    rw [inV_nums ok.own]
    refine ⟨true, rfl, iteT ?_⟩
    exact ⟨_, rfl, tw, d.w, rfl, hw.same s1, ok.w, by have := ok.sz; omega, fun G2 s2 => k G2 (s1.trans s2)⟩
end
end K33
set_option Elab.async false
set_option linter.all false
set_option maxRecDepth 100000
set_option maxHeartbeats 4000000
/-! enumerate(tuple) -/
namespace PySem
open Sem (wp)
open AutoSeq1 (wpAny_loadPart')
theorem kent_new (l : Addr) (items : Array Value) (n : Nat) (dct : Option Addr) (sl : Array (Option Value)) :
    Meets (Builtin.«enumerate.__new__» ⟨[.type "enumerate", .ref l], []⟩) (fun _ R s => s.heap.get? l = some { cls := .type "tuple", dict := dct, data := .seq items n, slots := sl } ∧
      R (.ok (.ret (.ref (s.heap.push { cls := .type "tuple_iterator", data := .fields #[.ref l, .int 0 0] }).objs.size)))
        { s with heap := (s.heap.push { cls := .type "tuple_iterator", data := .fields #[.ref l, .int 0 0] }).push { cls := .type "enumerate", data := .fields #[.none, .bool false, .ref s.heap.objs.size, rawInt 0, .none, .none] } }) :=
  .of_wp fun prog w A R s h => by
    obtain ⟨hp, g, d, tk, os⟩ := s; obtain ⟨hl, h⟩ := h
    have hsub := sub_enumerate
    have hL : Heap.IsTuple (Shared.heap ⟨hp, g, d, tk, os⟩) l items := ⟨_, hl, rfl, n, rfl⟩
    wp_walk using wpAny_loadPart' hl
    refine wpAny_stack_any fun st => wpAny_pure ?_
    split
    · rename_i c _ _ _ _ _
      cases (c == Value.type "enumerate")
      · wp_walk using wpAny_loadPart' hl, wpAny_pyIter_tuple hL
        exact ⟨_, rfl, h⟩
      · wp_walk using wpAny_loadPart' hl, wpAny_pyIter_tuple hL
        exact ⟨_, rfl, h⟩
    · wp_walk using wpAny_loadPart' hl, wpAny_pyIter_tuple hL
      exact ⟨_, rfl, h⟩
section
variable {prog : Program} {w : World} {A : Around} {E : Value → Shared → Prop} {s : Shared}
theorem kent_call {l : Addr} {items : Array Value} {Q : Value → Shared → Prop} (hL : s.heap.IsTuple l items)
    (h : ∀ h', IsEnum h' (s.heap.objs.size + 1) s.heap.objs.size 0 .none → h'.IsTupleIter s.heap.objs.size l 0 → h'.objs.size = s.heap.objs.size + 2 →
      (∀ b o, s.heap.get? b = some o → h'.get? b = some o) → Q (.ref (s.heap.objs.size + 1)) { s with heap := h' }) :
    wpAny (model prog w) A (call (.type "enumerate") [.ref l]) Q E s := by
  obtain ⟨⟨c, dct, dt, sl⟩, hl, hc, n, hd⟩ := hL
  replace hc : c = .type "tuple" := hc
  replace hd : dt = .seq items n := hd
  subst hc hd
  refine callType_new F.called_enumerate (by decide) (F.typeCall_enumerate_1 _) (F.newCall_enumerate_1 _) (fun obj => F.args_object_init_2 obj _) F.entry_enumerate_new
    (kent_new l items n dct sl) ⟨hl, ?_⟩
  have hz : (s.heap.push { cls := .type "tuple_iterator", data := .fields #[.ref l, .int 0 0] }).objs.size = s.heap.objs.size + 1 := Heap.size_push ..
  show _ ∧ _
  rw [hz]
  have he : IsEnum ((s.heap.push { cls := .type "tuple_iterator", data := .fields #[.ref l, .int 0 0] }).push
      { cls := .type "enumerate", data := .fields #[.none, .bool false, .ref s.heap.objs.size, rawInt 0, .none, .none] }) (s.heap.objs.size + 1) s.heap.objs.size 0 .none := by
    have := Heap.get?_push_size (s.heap.push { cls := .type "tuple_iterator", data := .fields #[.ref l, .int 0 0] })
      (o := { cls := .type "enumerate", data := .fields #[.none, .bool false, .ref s.heap.objs.size, rawInt 0, .none, .none] }) rfl
    rw [hz] at this; exact this
  refine ⟨⟨_, he, rfl⟩, h _ he ⟨_, Heap.get?_push_of_some _ (Heap.get?_push_size _ rfl), rfl, rfl⟩ (by rw [Heap.size_push, hz]) fun b o x => Heap.get?_push_of_some _ (Heap.get?_push_of_some _ x)⟩
end
end PySem
namespace L2
open PySem PySem.Spec PyProof.Rows
def ItT (K : PySem.W.Frag) (a : Addr) : It :=
  ⟨fun i H => ∃ (xs : List V) (x : V), SqT K H a xs ∧ xs[i]? = some x, fun i H v H' => ∃ T x, v = .ref T ∧ H T = none ∧ H' = upd H T (.tup [.int (i : Nat), x]) ∧ ∀ xs, SqT K H a xs → xs[i]? = some x, fun i H => ∃ xs : List V, SqT K H a xs ∧ xs.length = i⟩
theorem turn_enumT {P : Program} {w : World} {K : PySem.W.Frag} {elts : List Expr} {kk : Nat} {tpos : Pos} (a e it : Addr) :
    Turn P w K (.Tuple elts kk tpos) (ItT K a) [e, it] e (fun i h => (∃ old, IsEnum h e it ((i : Nat) : Int) old) ∧ h.IsTupleIter it a i ∧ e ≠ it ∧ a ≠ it ∧ e ≠ a) where
  mem := by simp
  obj := fun i h st b hb => by
    obtain ⟨⟨old, he⟩, ⟨o, ho, hc, hd⟩, _⟩ := st
    have e' : b = e ∨ b = it := by simpa using hb
    rcases e' with z | z
    · rw [z]; exact ⟨_, he, fun v q => nomatch q⟩
    · rw [z]; exact ⟨o, ho, fun v q => by rw [hd] at q; cases q⟩
  keep := fun i h h' st k => let ⟨⟨old, he⟩, hi, hne⟩ := st; ⟨⟨old, k e (by simp) _ he⟩, hi.at fun o q => k it (by simp) o q, hne⟩
  item := by
    intro X hP hw hK hc i pins s σ H E I hf st hg
    subst hP hw hK
    obtain ⟨⟨old, he⟩, hit, hne, hai, hea⟩ := st
    obtain ⟨xs, x, hq, hx⟩ := hg
    obtain ⟨its, rv, p, hz⟩ := I.tuple hq
    obtain ⟨u, hu, ru⟩ := rv.get hx
    have hel : e < s.heap.objs.size := Heap.lt_size he
    have hil : it < s.heap.objs.size := by obtain ⟨_, q, _⟩ := hit; exact Heap.lt_size q
    have hlen : i < its.toArray.size := by
      obtain ⟨h1, _⟩ := List.getElem?_eq_some_iff.mp hu
      simpa using h1
    refine wpAny_pyNext_enum_itemD (Draws.tuple (A := X.A.in1) (show X.A.in1.handled = none from I.ok.hd hc) it a hai its.toArray) he ⟨hit, p⟩ hlen hne (by simp [hne, hea]) fun x' h' tk hx' ho hit' hT hsz hk => ?_
    have ex : x' = u := by
      have h1 : its.toArray[i]? = some u := by simpa using hu
      rw [h1] at hx'
      exact (Option.some.inj hx').symm
    subst ex
    refine ⟨_, rfl, wpAny_letOwnedTupleGo_enum (s := { s with heap := h', toks := tk + 1 }) ho fun h'' he' sb => ?_⟩
    have hT2 : h''.get? s.heap.objs.size = some { cls := .type "tuple", data := .seq #[.int i tk, x'] } := (sb.2 _ (Nat.ne_of_gt hel)).trans hT
    have new : ObjOk X.prog X.w (upd H s.heap.objs.size (.tup [.int (i : Nat), x])) h'' s.heap.objs.size (.tup [.int (i : Nat), x]) :=
      ⟨by show 2 ≤ sizeLine; decide, [.int i tk, x'], .cons ⟨_, rfl⟩ (.cons ru .nil), ⟨_, hT2, rfl, _, rfl⟩⟩
    have I1 : Inv X pins σ (upd H s.heap.objs.size (.tup [.int (i : Nat), x])) { s with heap := h'', toks := tk + 1 } :=
      I.turnedNew (ch := [e, it]) (fun b ob hb q => (sb.2 b (fun z => hb (by simp [z]))).trans (hk b ob (fun z => hb (by simp [z])) (fun z => hb (by simp [z])) q)) hf (Nat.le_refl _) new
    refine ⟨.ref s.heap.objs.size, _, I1, rfl, ⟨_, x, rfl, I.hok.fresh (Nat.le_refl _), rfl, fun ys hy => by rw [I.tuple_inj hy hq]; exact hx⟩, ⟨⟨x', ?_⟩, hit'.1.at fun o q => (sb.2 it (Ne.symm hne)).trans q, hne, hai, hea⟩, fun b hb => ?_⟩
    · have e1 : ((i + 1 : Nat) : Int) = (i : Int) + 1 := by omega
      rw [e1]; exact he'
    · have hb' : b < s.heap.objs.size := by
        have e' : b = e ∨ b = it := by simpa using hb
        rcases e' with z | z
        · rw [z]; exact hel
        · rw [z]; exact hil
      rw [upd_ne (Nat.ne_of_lt hb')]
      exact (hf b hb).1
  done := by
    intro X hP hw hK hc i pins s σ H E I hf st hg
    subst hP hw hK
    obtain ⟨⟨old, he⟩, hit, hne, hai, hea⟩ := st
    obtain ⟨xs, hq, hx⟩ := hg
    obtain ⟨its, rv, p, hz⟩ := I.tuple hq
    obtain ⟨f0, f1, f2, f3, f4, f5⟩ := hf it (by simp)
    have hl := rv.length
    have hn : i = its.toArray.size := by simp; omega
    have hit2 : s.heap.IsTupleIter it a its.toArray.size := hn ▸ hit
    exact wpAny_pyNext_enum_endD (Draws.tuple (A := X.A.in1) (show X.A.in1.handled = none from I.ok.hd hc) it a hai its.toArray) he ⟨hit2, p⟩ fun h' eb => ⟨rfl, I.turned (t' := s.toks) (fun b o hb q => eb b o hb q) f0 f1 f3 f4 f5⟩
  self := fun A i s Q E st h => let ⟨⟨_, he⟩, _⟩ := st; wpAny_pyIter_enum he h
def iEnumT (K : PySem.W.Frag) (ta : TA) : TI := fun σ H R => ta σ H fun vs H1 => ∃ a xs, vs = [.ref a] ∧ SqT K H1 a xs ∧ R (ItT K a) H1
theorem pi_enumT {X : Cx} {e : Expr} {ta : TA} {p pos tpos : Pos} {elts : List Expr} {kk : Nat} (hg : Gl X "enumerate") (hm : X.mg "enumerate" = none) (ha : PA X [e] ta) (hs : starEach [e] X.env = [(false, eval e X.env)] := by rfl) :
    PI X (.Tuple elts kk tpos) (.Call (.Name "enumerate" p) [e] [] pos) (iEnumT X.K ta) := by
  refine ⟨fun pins s σ H R I h => ?_⟩
  refine Call_ (ld_blt I hg hm boot_enumerate (PyProof.Rows.callWith_type1 (thn (ha.run pos pins s σ H _ I h) fun us s1 ⟨vs, H1, I1, r1, q1⟩ => ?_) hs rfl))
  obtain ⟨a, xs, ex, hq, q⟩ := q1
  subst ex
  cases r1 with
  | cons r rr =>
    cases rr
    cases r
    obtain ⟨its, rv, p', hz⟩ := I1.tuple hq
    have hal : a < s1.heap.objs.size := by
      obtain ⟨_, y, _⟩ := p'
      exact Heap.lt_size y
    refine kent_call p' fun h' he hit hsz hk => wpAny_pyIter_enum he ?_
    have I2 : Inv X pins σ H1 { s1 with heap := h' } := I1.kept (t' := s1.toks) hk
    refine ⟨s1.heap.objs.size + 1, [s1.heap.objs.size + 1, s1.heap.objs.size], _, _, H1, rfl, I2, turn_enumT a (s1.heap.objs.size + 1) s1.heap.objs.size, ⟨⟨.none, he⟩, hit, Nat.succ_ne_self _, Nat.ne_of_lt hal, (Nat.ne_of_lt (Nat.lt_succ_of_lt hal)).symm⟩, fun b hb => ?_, q⟩
    have e' : b = s1.heap.objs.size + 1 ∨ b = s1.heap.objs.size := by simpa using hb
    have hle : s1.heap.objs.size ≤ b := by
      rcases e' with z | z
      · rw [z]; exact Nat.le_add_right _ _
      · rw [z]; exact Nat.le_refl _
    exact I1.fpOk hle (I1.hok.fresh hle)
theorem walk_enumT {K : PySem.W.Frag} {a : Addr} {xs : List V} : Walk (ItT K a) xs.length (fun H => SqT K H a xs) (YPair (fun i => some (.int (i : Nat))) (fun i => xs[i]?)) := by
  refine ⟨fun i _ hi q => ⟨xs, xs[i], q, by simp [hi]⟩, fun _ q => ⟨xs, q, rfl⟩, fun i H v H' _ q y => ?_⟩
  obtain ⟨T, x, h1, h2, h3, h4⟩ := y
  exact ⟨T, .int (i : Nat), x, h1, h2, h3, rfl, h4 xs q⟩
end L2
set_option Elab.async false
set_option linter.all false
set_option maxRecDepth 100000
set_option maxHeartbeats 8000000
namespace K33
open PySem PySem.Spec PyProof.Rows L2 KB
/-! The text of a deed: how long it may be. -/
theorem joinL_le (S : List Nat) : ∀ ls : List (List Nat), (TL.joinL S ls).length ≤ (ls.map (·.length)).sum + ls.length * S.length
  | [] => Nat.zero_le _
  | [p] => by
    show p.length ≤ _
    simp
  | p :: q :: r => by
    have := joinL_le S (q :: r)
    rw [TL.joinL, List.length_append, List.length_append, List.map_cons, List.sum_cons, List.length_cons]
    have e : ((q :: r).length + 1) * S.length = (q :: r).length * S.length + S.length := Nat.succ_mul _ _
    rw [e]
    omega
theorem join_len (a : Str) (ys : List Str) : (Txt.join a ys).length ≤ (ys.map (·.length)).sum + ys.length * a.length := by
  have h := TL.tl_join a ys
  rw [← TL.join_eq] at h
  have e : ∀ z : Str, (TL.tl z).length = z.length := fun z => Array.length_toList
  have l := joinL_le (TL.tl a) (ys.map TL.tl)
  rw [← h, e, e, List.map_map, List.length_map] at l
  have e2 : ((fun z : List Nat => z.length) ∘ TL.tl) = fun z : Str => z.length := funext e
  rw [e2] at l
  exact l
theorem fig_len {i k : Nat} (hk : 0 < k) (h : i < 10 ^ k) : (toString (i : Int) : Str).length ≤ k + 1 := by
  have := int_text_length_le10 (a := (i : Int)) hk (by simpa using h)
  show (Str.ofString (toString (i : Int))).length ≤ k + 1
  rw [PySem.ofString_length]
  exact this
mutual
/-- how long the text of words is at most -/
def tl : PyData → Nat
  | .none => 1
  | .int _ => 9
  | .str z => z.length
  | .tuple ds => 2 + tls ds
  | _ => 0
def tls : List PyData → Nat
  | [] => 0
  | d :: ds => tl d + 1 + tls ds
end
mutual
/-- how often a thing of the row ahead is taken -/
def cw : PyData → Nat
  | .tuple ds => 3 + cws ds
  | _ => 1
def cws : List PyData → Nat
  | [] => 0
  | d :: ds => cw d + 1 + cws ds
end
mutual
def okT : PyData → Bool
  | .none => true
  | .int i => decide (0 ≤ i ∧ i < 100000000)
  | .str _ => true
  | .tuple ds => okTs ds
  | _ => false
def okTs : List PyData → Bool
  | [] => true
  | d :: ds => okT d && okTs ds
end
theorem okTs_iff : ∀ {ds : List PyData}, okTs ds = true ↔ ∀ d ∈ ds, okT d = true
  | [] => by simp [okTs]
  | d :: ds => by
    rw [okTs, Bool.and_eq_true, okTs_iff, List.forall_mem_cons]
mutual
theorem okT_of : ∀ {d : PyData}, okW d = true → okT d = true
  | .none, _ => rfl
  | .int i, h => h
  | .str _, _ => rfl
  | .tuple ds, h => okTs_of (ds := ds) h
  | .bool _, h => absurd h Bool.false_ne_true
  | .list _, h => absurd h Bool.false_ne_true
  | .dict _, h => absurd h Bool.false_ne_true
theorem okTs_of : ∀ {ds : List PyData}, okWs ds = true → okTs ds = true
  | [], _ => rfl
  | d :: ds, h => by
    rw [okWs, Bool.and_eq_true] at h
    rw [okTs, okT_of h.1, okTs_of h.2]
    rfl
end
mutual
theorem tl_sz : ∀ {d : PyData}, okW d = true → tl d + 1 ≤ 10 * szW d
  | .none, _ => by simp [tl, szW]
  | .int i, _ => by simp [tl, szW]
  | .str z, h => by
    have h : wordS z = true := h
    unfold wordS at h
    rw [Bool.and_eq_true, decide_eq_true_eq] at h
    show z.length + 1 ≤ 10 * 1
    omega
  | .tuple ds, h => by
    have := tls_sz (ds := ds) h
    show 2 + tls ds + 1 ≤ 10 * (1 + szWs ds)
    omega
  | .bool _, h => absurd h Bool.false_ne_true
  | .list _, h => absurd h Bool.false_ne_true
  | .dict _, h => absurd h Bool.false_ne_true
theorem tls_sz : ∀ {ds : List PyData}, okWs ds = true → tls ds ≤ 10 * szWs ds
  | [], _ => Nat.le_refl _
  | d :: ds, h => by
    rw [okWs, Bool.and_eq_true] at h
    have h1 := tl_sz h.1
    have h2 := tls_sz h.2
    show tl d + 1 + tls ds ≤ 10 * (szW d + szWs ds)
    omega
end
def sumT (es : List PyData) : Nat := (es.map tl).sum
def sumC (es : List PyData) : Nat := (es.map cw).sum
/-- a row with its closing -/
def wcD (ds : List PyData) : List PyData := ds.foldl (fun acc x => (if 1 < acc.length then acc ++ [.str (Str.ofString " ")] else acc) ++ [x]) [.str (Str.ofString "(")]
def wcV (xs : List V) : List V := xs.foldl (fun acc x => (if 1 < acc.length then acc ++ [.str (Str.ofString " ")] else acc) ++ [x]) [.str (Str.ofString "(")]
theorem wcD_snoc (ds : List PyData) (d : PyData) : wcD (ds ++ [d]) = (if 1 < (wcD ds).length then wcD ds ++ [.str (Str.ofString " ")] else wcD ds) ++ [d] := List.foldl_append ..
theorem wcV_snoc (ds : List V) (d : V) : wcV (ds ++ [d]) = (if 1 < (wcV ds).length then wcV ds ++ [.str (Str.ofString " ")] else wcV ds) ++ [d] := List.foldl_append ..
theorem tls_snoc : ∀ (ds : List PyData) (d : PyData), tls (ds ++ [d]) = tls ds + (tl d + 1)
  | [], d => by show tl d + 1 + 0 = 0 + (tl d + 1); omega
  | e :: ds, d => by
    show tl e + 1 + tls (ds ++ [d]) = tl e + 1 + tls ds + (tl d + 1)
    rw [tls_snoc]
    omega
theorem cws_snoc : ∀ (ds : List PyData) (d : PyData), cws (ds ++ [d]) = cws ds + (cw d + 1)
  | [], d => by show cw d + 1 + 0 = 0 + (cw d + 1); omega
  | e :: ds, d => by
    show cw e + 1 + cws (ds ++ [d]) = cw e + 1 + cws ds + (cw d + 1)
    rw [cws_snoc]
    omega
theorem snoc_rec {α : Type} {P : List α → Prop} (h0 : P []) (h1 : ∀ l x, P l → P (l ++ [x])) (l : List α) : P l := by
  rw [← List.reverse_reverse l]
  induction l.reverse with
  | nil => exact h0
  | cons x l ih =>
    rw [List.reverse_cons]
    exact h1 _ _ ih
theorem wcV_len (xs : List V) : 1 ≤ (wcV xs).length ∧ (wcV xs).length ≤ 1 + 2 * xs.length ∧ (1 < (wcV xs).length ↔ xs ≠ []) := by
  induction xs using snoc_rec with
  | h0 => exact ⟨Nat.le_refl _, Nat.le_refl _, ⟨fun h => absurd h (by decide), fun h => absurd rfl h⟩⟩
  | h1 l x ih =>
    rw [wcV_snoc, List.length_append, List.length_append]
    refine ⟨by simp, ?_, fun _ => by simp, fun _ => ?_⟩
    · split
      · rw [List.length_append]
        simp
        omega
      · simp
        omega
    · split
      · rw [List.length_append]
        simp
      · have := ih.1
        simp
        omega
structure WcR (H : Hp) (xs : List V) (ds : List PyData) : Prop where
  len : (wcV xs).length = (wcD ds).length
  tr : ∀ (i : Nat) (u : V) (e : PyData), (wcV xs)[i]? = some u → (wcD ds)[i]? = some e → Tr H 5 u e
  ok : ∀ e ∈ wcD ds, okT e = true
  st : sumT (wcD ds) ≤ 1 + tls ds
  sc : sumC (wcD ds) ≤ 1 + cws ds
theorem wc_rel {H : Hp} (xs : List V) : ∀ (ds : List PyData), xs.length = ds.length → (∀ (i : Nat) (u : V) (e : PyData), xs[i]? = some u → ds[i]? = some e → Tr H 5 u e) → okTs ds = true → WcR H xs ds := by
  induction xs using snoc_rec with
  | h0 =>
    intro ds l c o
    rw [List.length_eq_zero_iff.mp l.symm]
    exact ⟨rfl, tr_cons (Tr.flat (.str _)) tr_nil, fun e m => by rw [List.mem_singleton.mp m]; rfl, by decide +kernel, by decide +kernel⟩
  | h1 l x ih =>
    intro ds lx c o
    have n0 : ds ≠ [] := fun z => by
      rw [z, List.length_append] at lx
      simp at lx
    obtain ⟨es, d, rfl⟩ : ∃ l y, ds = l ++ [y] := ⟨_, _, (List.dropLast_concat_getLast n0).symm⟩
    have lx' : l.length = es.length := by
      rw [List.length_append, List.length_append] at lx
      simp at lx
      exact lx
    have hd : Tr H 5 x d := c l.length x d (by simp) (by rw [lx']; simp)
    have hes : ∀ (i : Nat) (u : V) (e : PyData), l[i]? = some u → es[i]? = some e → Tr H 5 u e := fun i u e h1 h2 =>
      c i u e (by rw [List.getElem?_append_left (List.getElem?_eq_some_iff.mp h1).1]; exact h1) (by rw [List.getElem?_append_left (List.getElem?_eq_some_iff.mp h2).1]; exact h2)
    have oe := okTs_iff.mp o
    have r := ih es lx' hes (okTs_iff.mpr fun e m => oe e (List.mem_append_left _ m))
    have od := oe d (List.mem_append_right _ List.mem_cons_self)
    have e1 : ∀ (ys : List PyData) (y : PyData), sumT (ys ++ [y]) = sumT ys + tl y := fun ys y => by
      unfold sumT
      rw [List.map_append, List.sum_append]
      simp
    have e2 : ∀ (ys : List PyData) (y : PyData), sumC (ys ++ [y]) = sumC ys + cw y := fun ys y => by
      unfold sumC
      rw [List.map_append, List.sum_append]
      simp
    have r3 := r.st
    have r4 := r.sc
    by_cases b : 1 < (wcV l).length
    · have b' : 1 < (wcD es).length := r.len ▸ b
      have q1 : wcV (l ++ [x]) = (wcV l ++ [.str (Str.ofString " ")]) ++ [x] := by rw [wcV_snoc, if_pos b]
      have q2 : wcD (es ++ [d]) = (wcD es ++ [.str (Str.ofString " ")]) ++ [d] := by rw [wcD_snoc, if_pos b']
      have ll : (wcV l ++ [V.str (Str.ofString " ")]).length = (wcD es ++ [PyData.str (Str.ofString " ")]).length := by rw [List.length_append, List.length_append, r.len]; rfl
      refine ⟨by rw [q1, q2, List.length_append (bs := [x]), List.length_append (bs := [d]), ll]; rfl, ?_, ?_, ?_, ?_⟩
      · rw [q1, q2]
        exact tr_snoc ll (tr_snoc r.len r.tr (Tr.flat (.str _))) hd
      · rw [q2]
        intro e m
        rcases List.mem_append.mp m with m | m
        · rcases List.mem_append.mp m with m | m
          · exact r.ok e m
          · rw [List.mem_singleton.mp m]
            rfl
        · rw [List.mem_singleton.mp m]
          exact od
      · rw [q2, e1, e1, tls_snoc]
        have : tl (.str (Str.ofString " ")) = 1 := by decide +kernel
        omega
      · rw [q2, e2, e2, cws_snoc]
        have : cw (.str (Str.ofString " ")) = 1 := rfl
        omega
    · have b' : ¬ 1 < (wcD es).length := r.len ▸ b
      have q1 : wcV (l ++ [x]) = wcV l ++ [x] := by rw [wcV_snoc, if_neg b]
      have q2 : wcD (es ++ [d]) = wcD es ++ [d] := by rw [wcD_snoc, if_neg b']
      refine ⟨by rw [q1, q2, List.length_append, List.length_append, r.len]; rfl, ?_, ?_, ?_, ?_⟩
      · rw [q1, q2]
        exact tr_snoc r.len r.tr hd
      · rw [q2]
        intro e m
        rcases List.mem_append.mp m with m | m
        · exact r.ok e m
        · rw [List.mem_singleton.mp m]
          exact od
      · rw [q2, e1, tls_snoc]
        omega
      · rw [q2, e2, cws_snoc]
        omega
def spWithoutC : Sp := fun vs H Q _ => ∃ (t : Addr) (xs : List V), vs = [.ref t] ∧ H t = some (.tup xs) ∧ xs.length ≤ 20 ∧ ∀ q H', Same H H' → H q = none → H' q = some (.lst (wcV xs ++ [V.str (Str.ofString ")")]).reverse) → Q (.ref q) H'
theorem tr_rev {H : Hp} {n : Nat} {xs : List V} {ds : List PyData} (l : xs.length = ds.length) (k : ∀ (i : Nat) (u : V) (e : PyData), xs[i]? = some u → ds[i]? = some e → Tr H n u e) : ∀ (i : Nat) (u : V) (e : PyData), xs.reverse[i]? = some u → ds.reverse[i]? = some e → Tr H n u e := fun i u e h1 h2 => by
  have hi : i < xs.length := by
    have := (List.getElem?_eq_some_iff.mp h1).1
    rw [List.length_reverse] at this
    exact this
  rw [List.getElem?_reverse hi] at h1
  rw [List.getElem?_reverse (by omega)] at h2
  rw [l] at h1
  exact k _ u e h1 h2
theorem tr_app {H : Hp} {n : Nat} {xs us : List V} {ds gs : List PyData} (l : xs.length = ds.length) (k : ∀ (i : Nat) (u : V) (e : PyData), xs[i]? = some u → ds[i]? = some e → Tr H n u e) (k2 : ∀ (i : Nat) (u : V) (e : PyData), us[i]? = some u → gs[i]? = some e → Tr H n u e) : ∀ (i : Nat) (u : V) (e : PyData), (xs ++ us)[i]? = some u → (ds ++ gs)[i]? = some e → Tr H n u e := fun i u e h1 h2 => by
  by_cases hi : i < xs.length
  · rw [List.getElem?_append_left hi] at h1
    rw [List.getElem?_append_left (by omega)] at h2
    exact k i u e h1 h2
  · rw [List.getElem?_append_right (by omega)] at h1 h2
    rw [← l] at h2
    exact k2 _ u e h1 h2
theorem sum_rev : ∀ l : List Nat, l.reverse.sum = l.sum
  | [] => rfl
  | x :: l => by
    rw [List.reverse_cons, List.sum_append, sum_rev l, List.sum_cons]
    simp
    omega
theorem sumT_app (xs ys : List PyData) : sumT (xs ++ ys) = sumT xs + sumT ys := by
  unfold sumT
  rw [List.map_append, List.sum_append]
theorem sumC_app (xs ys : List PyData) : sumC (xs ++ ys) = sumC xs + sumC ys := by
  unfold sumC
  rw [List.map_append, List.sum_append]
theorem sumT_rev (xs : List PyData) : sumT xs.reverse = sumT xs := by
  unfold sumT
  rw [List.map_reverse, sum_rev]
theorem sumC_rev (xs : List PyData) : sumC xs.reverse = sumC xs := by
  unfold sumC
  rw [List.map_reverse, sum_rev]
theorem cw_pos (d : PyData) : 1 ≤ cw d := by
  cases d <;> simp [cw] <;> omega
theorem sumC_len : ∀ es : List PyData, es.length ≤ sumC es
  | [] => Nat.le_refl _
  | d :: es => by
    have h1 := sumC_len es
    have h2 := cw_pos d
    have e : sumC (d :: es) = cw d + sumC es := rfl
    rw [e, List.length_cons]
    omega
theorem cws_len : ∀ es : List PyData, 2 * es.length ≤ cws es
  | [] => Nat.le_refl _
  | d :: es => by
    have h1 := cws_len es
    have h2 := cw_pos d
    show 2 * (es.length + 1) ≤ cw d + 1 + cws es
    omega
mutual
theorem cw_sz : ∀ {d : PyData}, okW d = true → cw d + 1 ≤ 4 * szW d
  | .none, _ => by simp [cw, szW]
  | .int i, _ => by simp [cw, szW]
  | .str z, _ => by simp [cw, szW]
  | .tuple ds, h => by
    have := cws_sz (ds := ds) h
    show 3 + cws ds + 1 ≤ 4 * (1 + szWs ds)
    omega
  | .bool _, h => absurd h Bool.false_ne_true
  | .list _, h => absurd h Bool.false_ne_true
  | .dict _, h => absurd h Bool.false_ne_true
theorem cws_sz : ∀ {ds : List PyData}, okWs ds = true → cws ds ≤ 4 * szWs ds
  | [], _ => Nat.le_refl _
  | d :: ds, h => by
    rw [okWs, Bool.and_eq_true] at h
    have h1 := cw_sz h.1
    have h2 := cws_sz h.2
    show cw d + 1 + cws ds ≤ 4 * (szW d + szWs ds)
    omega
end
theorem trT {H : Hp} {x : V} {d : PyData} (h : Tr H 5 x d) (k : okT d = true) : (x = .non ∧ d = .none) ∨ (∃ i : Int, (0 ≤ i ∧ i < 100000000) ∧ x = .int i ∧ d = .int i) ∨ (∃ z : Str, x = .str z ∧ d = .str z) ∨
    ∃ (a : Addr) (xs : List V) (ds : List PyData), x = .ref a ∧ d = .tuple ds ∧ H a = some (.tup xs) ∧ xs.length = ds.length ∧ okTs ds = true ∧ ∀ (i : Nat) (u : V) (e : PyData), xs[i]? = some u → ds[i]? = some e → Tr H 5 u e := by
  rcases h with h | ⟨a, xs, ds, rfl, l, _, t, c⟩
  · cases h with
    | non => exact .inl ⟨rfl, rfl⟩
    | bl b => exact absurd k Bool.false_ne_true
    | int i => exact .inr (.inl ⟨i, of_decide_eq_true k, rfl, rfl⟩)
    | str z => exact .inr (.inr (.inl ⟨z, rfl, rfl⟩))
  · rcases t with ⟨_, rfl⟩ | ⟨ha, rfl⟩
    · exact absurd k Bool.false_ne_true
    · exact .inr (.inr (.inr ⟨a, xs, ds, rfl, rfl, ha, l, k, fun i u e h1 h2 => (c i u e h1 h2).up⟩))
def lenS (ps : List Str) : Nat := (ps.map (·.length)).sum
theorem lenS_snoc (ps : List Str) (z : Str) : lenS (ps ++ [z]) = lenS ps + z.length := by
  unfold lenS
  rw [List.map_append, List.sum_append]
  simp
def spWText : Sp := fun vs H Q _ => ∃ (t : Addr) (ds : List PyData), vs = [.ref t] ∧ Tr H 5 (.ref t) (.tuple ds) ∧ okWs ds = true ∧ szWs ds ≤ 7 ∧ ∀ z H', Same H H' → Str.length z ≤ 72 → Q (.str z) H'
def spFig : Sp := fun vs H Q _ => ∃ (i k : Nat), vs = [.int (i : Int)] ∧ 0 < k ∧ k ≤ 8 ∧ i < 10 ^ k ∧ ∀ z H', Same H H' → Str.length z ≤ k + 1 → Q (.str z) H'
section
variable {P : Program} {w : World} {K : PySem.W.Frag} {mg : Str → Option Value} {base : Heap}
abbrev s_figures_of : Stmt := top 23
abbrev N_figures_of : List Str := ["number", "bound", "pieces", "low"]
theorem sc_figures_of : FnScope N_figures_of ["number"] (defScope s_figures_of) := ⟨rfl, rfl, rfl, by decide +kernel, rfl, by decide +kernel, by decide +kernel⟩
theorem ok_figures_of {f : Addr} {fd : FuncData} (F : FnP K "figures_of" s_figures_of f fd) (Z : FreeS mg) :
    FnOk P w K mg base CX0 1 f fd ["number"] spFig := by
  refine F.ok sc_figures_of (fun vs H Q E h => ?_) (fun cdv A outer s H vs Q E hr h => ?_)
  · obtain ⟨i, k, rfl, _⟩ := h
    rfl
  · obtain ⟨i, j, rfl, j0, j8, lj, k⟩ := h
    have sl : (3000 : Nat) ≤ sizeLine := by decide
    have nd := sc_figures_of.nd
    refine ⟨_, PSs.nox (pss_cons (ps_set (i := 1) nd rfl (Or.inl rfl) (pe_op op_pow (pe_int) (pe_int)))
      (pss_cons (ps_set (i := 2) nd rfl (Or.inl rfl) (pe_lst (pa_nil)))
      (pss_cons (ps_while PassesOwn.never (pt_cmpR op_ge (pv 0) (pv 1) (nomark _)) (pss_cons ps_dead (pss_one ps_dead)))
      (pss_cons (ps_expr (pe_bm PySem.F.plainAttrs_list PySem.F.slot_list_append PySem.F.type_list_append mt_append (pv 2) (pa_cons (pe_callTy call_str_int (by rfl) Z.tstr (by decide +kernel) (pa_cons (pv 0) pa_nil)) (pa_nil))))
      (pss_one (ps_ret (pe_join pe_str (pe_revL (pv 2))))))))), ?_⟩
    refine ⟨10, 64, rfl, rfl, ⟨by decide, by decide, by decide⟩, ?_⟩
    refine ⟨Nat.zero_le _, fun q hq => ?_⟩
    have s1 := Same.updf (o := .lst []) hq
    have hq1 := upd_same (H := H) (a := q) (o := .lst [])
    generalize upd H q (.lst []) = G1 at *
    have i64 : (i : Int) < 10 ^ 64 := by
      have h1 : 10 ^ j ≤ 10 ^ 8 := Nat.pow_le_pow_right (by decide) j8
      have h2 : (10 : Nat) ^ 8 = 100000000 := by decide
      have h3 : (10 : Int) ^ 64 > 100000000 := by decide
      omega
    refine ⟨fun m σ G => σ = [some (.int (i : Int)), some (.int (10 ^ (64 : Int).toNat)), some (.ref q), none] ∧ G = G1, ⟨0, rfl, rfl⟩, ?_⟩
    rintro m σ G ⟨rfl, rfl⟩
    refine ⟨_, rfl, _, rfl, _, _, rfl, rfl, _, rfl, ?_⟩
    have e64 : (10 : Int) ^ (64 : Int).toNat = 10 ^ 64 := rfl
    rw [e64, decide_eq_false (show ¬ (10 : Int) ^ 64 ≤ (i : Int) by omega)]
    refine iteF ?_
    have lg : (i : Int).natAbs.log2 < 1920 := by
      have h1 : 10 ^ j ≤ 10 ^ 8 := Nat.pow_le_pow_right (by decide) j8
      have h2 : (10 : Nat) ^ 8 = 100000000 := by decide
      have h4 : (i : Int).natAbs = i := rfl
      rw [h4]
      by_cases z : i = 0
      · rw [z]
        decide
      · exact (Nat.log2_lt z).mpr (Nat.lt_of_lt_of_le (by omega : i < 2 ^ 27) (Nat.pow_le_pow_right (by decide) (by decide)))
    have fl := fig_len j0 lj
    refine ⟨_, rfl, .inl ⟨rfl, _, SqL.of hq1⟩, _, rfl, (i : Int), rfl, lg, q, [], _, rfl, rfl, hq1, (by show 0 < sizeLine; omega), ?_⟩
    have hq2 := upd_same (H := G) (a := q) (o := .lst ([] ++ [V.str (Str.ofString (toString (i : Int)))]))
    refine ⟨⟨_, rfl⟩, _, rfl, q, _, rfl, SqL.of hq2, fun R hR => ⟨_, R, [Str.ofString (toString (i : Int))], rfl, rfl, .inl (SqL.of upd_same), ?_, ?_⟩⟩
    · show Str.length (Str.ofString (toString (i : Int))) + 0 + 1 * 0 ≤ 16777216
      have : Str.length (Str.ofString (toString (i : Int))) ≤ j + 1 := fl
      omega
    · refine k _ _ ?_ (Nat.le_trans (join_len _ _) ?_)
      · refine (fun c o e => ?_ : Same H _)
        rw [upd_ne (ne_of_none (show (upd G q _) c = some o by rw [upd_ne (ne_of_none e hq)]; exact s1 _ _ e) hR), upd_ne (ne_of_none e hq)]
        exact s1 _ _ e
      · show Str.length (Str.ofString (toString (i : Int))) + 0 + 1 * 0 ≤ j + 1
        have : Str.length (Str.ofString (toString (i : Int))) ≤ j + 1 := fl
        omega
abbrev s_without_closing : Stmt := top 27
abbrev N_without_closing : List Str := ["part", "row", "at", "each"]
theorem sc_without_closing : FnScope N_without_closing ["part"] (defScope s_without_closing) := ⟨rfl, rfl, rfl, by decide +kernel, rfl, by decide +kernel, by decide +kernel⟩
theorem ok_without_closing {f : Addr} {fd : FuncData} (F : FnP K "without_closing" s_without_closing f fd) (Z : FreeS mg) :
    FnOk P w K mg base CX0 1 f fd ["part"] spWithoutC := by
  refine F.ok sc_without_closing (fun vs H Q E h => ?_) (fun cdv A outer s H vs Q E hr h => ?_)
  · obtain ⟨t, xs, rfl, _⟩ := h
    rfl
  · obtain ⟨t, xs, rfl, ht, l20, k⟩ := h
    have sl : (3000 : Nat) ≤ sizeLine := by decide
    have nd := sc_without_closing.nd
    refine ⟨_, PSs.nox (pss_cons (ps_set (i := 1) nd rfl (Or.inl rfl) (pe_lst (pa_cons (pe_str) (pa_nil))))
      (pss_cons (ps_for PassesOwn.never rfl (pi_enumT (by rfl) Z.enumerate (pa_cons (pv 0) pa_nil)) (pg_tup rfl (pgs_cons (pg_name (i := 2) nd rfl (Or.inl rfl)) (pgs_cons (pg_name (i := 3) nd rfl (Or.inl rfl)) (pgs_nil))))
        (pss_cons (ps_if (pt_cmpR op_gt (pv 2) (pe_int) (nomark _)) (pss_one (ps_expr (pe_bm PySem.F.plainAttrs_list PySem.F.slot_list_append PySem.F.type_list_append mt_append (pv 1) (pa_cons (pe_str) (pa_nil))))) (pss_nil))
      (pss_one (ps_expr (pe_bm PySem.F.plainAttrs_list PySem.F.slot_list_append PySem.F.type_list_append mt_append (pv 1) (pa_cons (pv 3) (pa_nil)))))))
      (pss_cons (ps_expr (pe_bm PySem.F.plainAttrs_list PySem.F.slot_list_append PySem.F.type_list_append mt_append (pv 1) (pa_cons (pe_str) (pa_nil))))
      (pss_one (ps_ret (pe_revL (pv 1))))))), ?_⟩
    refine ⟨(by show 1 ≤ sizeLine; omega), fun q hq => ?_⟩
    have s1 := Same.updf (o := .lst [V.str (Str.ofString "(")]) hq
    refine ⟨_, rfl, t, xs, rfl, SqT.of (s1 _ _ ht), ?_⟩
    refine for_it (walk_enumT (K := K) (a := t) (xs := xs)) (fun i σ G => Same H G ∧ G q = some (.lst (wcV (xs.take i))) ∧ ∃ v2 v3, σ = [some (.ref t), some (.ref q), v2, v3]) ⟨s1, upd_same, _, _, rfl⟩ (fun i σ G _ hh => SqT.of (hh.1 _ _ ht)) ?_ ?_
    · rintro i v σ G G2 hi ⟨sG, hqG, v2, v3, rfl⟩ ⟨T, x1, x2, rfl, nT, rfl, g1, g2⟩
      dsimp only at g1 g2
      obtain rfl := Option.some.inj g1
      have sT := Same.updf (o := .tup [V.int (i : Nat), x2]) nT
      have tk : xs.take (i + 1) = xs.take i ++ [x2] := by
        rw [List.take_succ, g2]
        rfl
      have wl := wcV_len (xs.take i)
      rw [List.length_take] at wl
      have nTq : T ≠ q := fun z => by
        rw [z, hqG] at nT
        cases nT
      refine ⟨T, [_, _], rfl, .inl (.inl upd_same), rfl, _, [_], rfl, _, [], rfl, rfl, ?_⟩
      refine ⟨_, rfl, _, _, rfl, rfl, _, rfl, ?_⟩
      have hq2 := sT _ _ hqG
      have sH2 := sG.trans sT
      generalize upd G T (.tup [V.int (i : Nat), x2]) = G3 at *
      rw [tk, wcV_snoc]
      by_cases i0 : i = 0
      · subst i0
        rw [if_neg (by rw [List.take_zero]; decide)]
        refine iteF ⟨_, rfl, .inl ⟨rfl, _, SqL.of hq2⟩, _, rfl, q, _, x2, rfl, rfl, hq2, by omega, ?_⟩
        refine ⟨fun c o e => ?_, upd_same, _, _, rfl⟩
        rw [upd_ne (ne_of_none e hq)]
        exact sH2 _ _ e
      · have b : 1 < (wcV (xs.take i)).length := wl.2.2.mpr fun z => by
          have z2 : min i xs.length = 0 := by
            rw [← List.length_take, z]
            rfl
          omega
        rw [if_pos b]
        rw [decide_eq_true (show (0 : Int) < ((i : Nat) : Int) by omega)]
        refine iteT ⟨_, rfl, .inl ⟨rfl, _, SqL.of hq2⟩, q, _, _, rfl, rfl, hq2, by omega, ?_⟩
        refine ⟨_, rfl, .inl ⟨rfl, _, SqL.of upd_same⟩, _, rfl, q, _, x2, rfl, rfl, upd_same, by rw [List.length_append]; show _ + 1 < sizeLine; omega, ?_⟩
        refine ⟨fun c o e => ?_, upd_same, _, _, rfl⟩
        rw [upd_ne (ne_of_none e hq), upd_ne (ne_of_none e hq)]
        exact sH2 _ _ e
    · rintro σ G ⟨sG, hqG, v2, v3, rfl⟩
      rw [List.take_length] at hqG
      have wl := wcV_len xs
      refine ⟨_, rfl, .inl ⟨rfl, _, SqL.of hqG⟩, q, _, _, rfl, rfl, hqG, by omega, ?_⟩
      refine ⟨_, rfl, q, _, rfl, SqL.of upd_same, fun R hR => k R _ ?_ ?_ upd_same⟩
      · refine (fun c o e => ?_ : Same H _)
        have nq := ne_of_none e hq
        have hc := sG _ _ e
        rw [upd_ne (ne_of_none (show (upd G q _) c = some o by rw [upd_ne nq]; exact hc) hR), upd_ne nq]
        exact hc
      · refine none_back sG ?_
        by_cases z : R = q
        · rw [z, upd_same] at hR
          cases hR
        · rw [upd_ne z] at hR
          exact hR
abbrev s_words_text : Stmt := top 28
abbrev N_words_text : List Str := ["words", "pieces", "ahead", "part"]
theorem sc_words_text : FnScope N_words_text ["words"] (defScope s_words_text) := ⟨rfl, rfl, rfl, by decide +kernel, rfl, by decide +kernel, by decide +kernel⟩
theorem ok_words_text {f : Addr} {fd : FuncData} (F : FnP K "words_text" s_words_text f fd) (Z : FreeS mg)
    {f_without_closing : Addr} {d_without_closing : FuncData} (g_without_closing : mg "without_closing" = some (.ref f_without_closing)) (F_without_closing : FnP K "without_closing" s_without_closing f_without_closing d_without_closing) (G_without_closing : FnOk P w K mg base CX0 1 f_without_closing d_without_closing ["part"] spWithoutC)
    {f_figures_of : Addr} {d_figures_of : FuncData} (g_figures_of : mg "figures_of" = some (.ref f_figures_of)) (F_figures_of : FnP K "figures_of" s_figures_of f_figures_of d_figures_of) (G_figures_of : FnOk P w K mg base CX0 1 f_figures_of d_figures_of ["number"] spFig) (C : Cn mg) :
    FnOk P w K mg base CX0 2 f fd ["words"] spWText := by
  have b_without_closing : Binds K d_without_closing ["part"] [] := F_without_closing.bindsN fun _ _ _ _ _ _ us hl => match us, hl with | [_], _ => rfl
  have b_figures_of : Binds K d_figures_of ["number"] [] := F_figures_of.bindsN fun _ _ _ _ _ _ us hl => match us, hl with | [_], _ => rfl
  refine F.ok sc_words_text (fun vs H Q E h => ?_) (fun cdv A outer s H vs Q E hr h => ?_)
  · obtain ⟨t, ds, rfl, _⟩ := h
    rfl
  · obtain ⟨t, ds, rfl, ht, ho, hz, k⟩ := h
    have sl : (3000 : Nat) ≤ sizeLine := by decide
    have nd := sc_words_text.nd
    refine ⟨_, PSs.nox (pss_cons (ps_set (i := 1) nd rfl (Or.inl rfl) (pe_lst (pa_nil)))
      (pss_cons (ps_set (i := 2) nd rfl (Or.inl rfl) (pe_lst (pa_cons (pv 0) (pa_nil))))
      (pss_cons (ps_while PassesOwn.never (pt_truth (pv 2) (fun _ => rfl)) (pss_cons (ps_set (i := 3) nd rfl (Or.inl rfl) (pe_bm0 PySem.F.plainAttrs_list PySem.F.slot_list_pop PySem.F.type_list_pop mt_pop (pv 2)))
      (pss_one (ps_if (pt_val (pe_callB call_isi (by rfl) Z.isi (by decide +kernel) (pa_cons (pv 3) (pa_cons (pe_bltn (v := .ty "tuple") (by rfl) Z.ttuple (by decide +kernel) rfl) pa_nil)))) (pss_one (ps_expr (pe_bm PySem.F.plainAttrs_list PySem.F.slot_list_extend PySem.F.type_list_extend mt_extend (pv 2) (pa_cons (pe_call G_without_closing (hr.mono (by decide)) rfl g_without_closing F_without_closing.kp b_without_closing .nil pass0 (pa_cons (pv 3) (pa_nil))) (pa_nil))))) (pss_one (ps_if (pt_cmpR op_isN (pv 3) (pe_non) (nomark _)) (pss_one (ps_expr (pe_bm PySem.F.plainAttrs_list PySem.F.slot_list_append PySem.F.type_list_append mt_append (pv 1) (pa_cons (pe_glob (v := .str "-") (by rfl) C.gN.choose_spec ⟨_, rfl⟩) (pa_nil))))) (pss_one (ps_if (pt_val (pe_callB call_isi (by rfl) Z.isi (by decide +kernel) (pa_cons (pv 3) (pa_cons (pe_bltn (v := .ty "str") (by rfl) Z.tstr (by decide +kernel) rfl) pa_nil)))) (pss_one (ps_expr (pe_bm PySem.F.plainAttrs_list PySem.F.slot_list_append PySem.F.type_list_append mt_append (pv 1) (pa_cons (pv 3) (pa_nil))))) (pss_one (ps_expr (pe_bm PySem.F.plainAttrs_list PySem.F.slot_list_append PySem.F.type_list_append mt_append (pv 1) (pa_cons (pe_call G_figures_of (hr.mono (by decide)) rfl g_figures_of F_figures_of.kp b_figures_of .nil pass0 (pa_cons (pv 3) (pa_nil))) (pa_nil)))))))))))))
      (pss_one (ps_ret (pe_join pe_str (pv 1))))))), ?_⟩
    refine ⟨Nat.zero_le _, fun pq hpq => ⟨_, rfl, (by show 1 ≤ sizeLine; omega), fun aq haq => ?_⟩⟩
    have s1 := Same.updf (o := .lst []) hpq
    have s2 := s1.trans (Same.updf (o := .lst [V.ref t]) haq)
    have npa : pq ≠ aq := ne_of_none upd_same haq
    have naH : H aq = none := none_back s1 haq
    have c31 : cws ds ≤ 28 := by
      have := cws_sz ho
      omega
    have t70 : tls ds ≤ 70 := by
      have := tls_sz ho
      omega
    have hp2 : upd (upd H pq (.lst [])) aq (.lst [V.ref t]) pq = some (.lst []) := by rw [upd_ne npa, upd_same]
    refine ⟨fun m σ G => ∃ (ps : List Str) (xs : List V) (es : List PyData) (v : Option V), m = sumC es ∧ Same H G ∧ G pq = some (.lst (ps.map V.str)) ∧ G aq = some (.lst xs) ∧ xs.length = es.length ∧ (∀ (i : Nat) (u : V) (e : PyData), xs[i]? = some u → es[i]? = some e → Tr H 5 u e) ∧ (∀ e ∈ es, okT e = true) ∧ lenS ps + sumT es ≤ 72 ∧ ps.length + sumC es ≤ 31 ∧ σ = [some (.ref t), some (.ref pq), some (.ref aq), v],
      ⟨sumC [.tuple ds], [], [.ref t], [.tuple ds], none, rfl, s2, hp2, upd_same, rfl, tr_cons ht tr_nil, fun e m => by rw [List.mem_singleton.mp m]; exact okTs_of ho, by show 0 + (2 + tls ds + 0) ≤ 72; omega, by show 0 + (3 + cws ds + 0) ≤ 31; omega, rfl⟩, ?_⟩
    rintro m σ G ⟨ps, xs, es, v, rfl, sG, gp, ga, lx, tx, ox, lt, lc, rfl⟩
    refine ⟨_, rfl, !xs.isEmpty, .inl ⟨xs, SqL.of ga, rfl⟩, ?_⟩
    by_cases e0 : xs = []
    · subst e0
      refine iteF ⟨⟨_, rfl⟩, _, rfl, _, pq, ps, rfl, rfl, .inl (SqL.of gp), ?_, ?_⟩
      · show lenS ps + ps.length * 0 ≤ 16777216
        omega
      · refine k _ G sG (Nat.le_trans (join_len _ _) ?_)
        show lenS ps + ps.length * 0 ≤ 72
        omega
    · obtain ⟨xs', x, rfl⟩ : ∃ l y, xs = l ++ [y] := ⟨_, _, (List.dropLast_concat_getLast e0).symm⟩
      have n0 : es ≠ [] := fun z => by
        rw [z, List.length_append] at lx
        simp at lx
      obtain ⟨es', d, rfl⟩ : ∃ l y, es = l ++ [y] := ⟨_, _, (List.dropLast_concat_getLast n0).symm⟩
      have lx' : xs'.length = es'.length := by
        rw [List.length_append, List.length_append] at lx
        simp at lx
        exact lx
      have hd : Tr H 5 x d := tx xs'.length x d (by simp) (by rw [lx']; simp)
      have hes : ∀ (i : Nat) (u : V) (e : PyData), xs'[i]? = some u → es'[i]? = some e → Tr H 5 u e := fun i u e h1 h2 =>
        tx i u e (by rw [List.getElem?_append_left (List.getElem?_eq_some_iff.mp h1).1]; exact h1) (by rw [List.getElem?_append_left (List.getElem?_eq_some_iff.mp h2).1]; exact h2)
      have oe : ∀ e ∈ es', okT e = true := fun e m => ox e (List.mem_append_left _ m)
      have od : okT d = true := ox d (List.mem_append_right _ List.mem_cons_self)
      have sT : sumT (es' ++ [d]) = sumT es' + tl d := by rw [sumT_app]; show _ + (tl d + 0) = _; omega
      have sC : sumC (es' ++ [d]) = sumC es' + cw d := by rw [sumC_app]; show _ + (cw d + 0) = _; omega
      have cl := sumC_len es'
      have cp := cw_pos d
      rw [sT] at lt
      rw [sC] at lc
      have ie : (!(xs' ++ [x]).isEmpty) = true := by simp
      rw [ie]
      refine iteT ⟨fun σ' G' => ∃ m', m' < sumC (es' ++ [d]) ∧ ∃ (ps : List Str) (xs : List V) (es : List PyData) (v : Option V), m' = sumC es ∧ Same H G' ∧ G' pq = some (.lst (ps.map V.str)) ∧ G' aq = some (.lst xs) ∧ xs.length = es.length ∧ (∀ (i : Nat) (u : V) (e : PyData), xs[i]? = some u → es[i]? = some e → Tr H 5 u e) ∧ (∀ e ∈ es, okT e = true) ∧ lenS ps + sumT es ≤ 72 ∧ ps.length + sumC es ≤ 31 ∧ σ' = [some (.ref t), some (.ref pq), some (.ref aq), v], fun _ _ h => h, ?_⟩
      refine ⟨_, rfl, .inl ⟨rfl, _, SqL.of ga⟩, aq, _, x, rfl, rfl, ga, by simp, ?_⟩
      rw [List.dropLast_concat]
      have sG1 : Same H (upd G aq (.lst xs')) := fun b o e => by
        rw [upd_ne (ne_of_none e naH)]
        exact sG _ _ e
      have ga1 := upd_same (H := G) (a := aq) (o := .lst xs')
      have gp1 : upd G aq (.lst xs') pq = some (.lst (ps.map V.str)) := (upd_ne npa).trans gp
      generalize upd G aq (.lst xs') = G1 at *
      rw [sC]
      have app : ∀ (z : Str) (G2 : Hp), Same G1 G2 → Same H (upd G2 pq (.lst (ps.map V.str ++ [V.str z]))) ∧ upd G2 pq (.lst (ps.map V.str ++ [V.str z])) pq = some (.lst ((ps ++ [z]).map V.str)) ∧ upd G2 pq (.lst (ps.map V.str ++ [V.str z])) aq = some (.lst xs') := fun z G2 s =>
        ⟨fun b o e => by rw [upd_ne (ne_of_none e hpq)]; exact s _ _ (sG1 _ _ e), by rw [upd_same, List.map_append]; rfl, (upd_ne npa.symm).trans (s _ _ ga1)⟩
      have lpm : (ps.map V.str).length = ps.length := List.length_map _
      rcases trT hd od with ⟨rfl, rfl⟩ | ⟨i, i0, rfl, rfl⟩ | ⟨z, rfl, rfl⟩ | ⟨a, us, gs, rfl, rfl, ha, lu, og, tg⟩
      · refine ⟨_, rfl, .non, .ty "tuple", .type "NoneType", .type "tuple", false, rfl, .ty _, .base .non, kit_ty (by decide +kernel), false, rfl, iteF ?_⟩
        refine ⟨_, rfl, rfl, _, rfl, iteT ?_⟩
        obtain ⟨a1, a2, a3⟩ := app (Str.ofString "-") G1 (Same.refl _)
        refine ⟨_, rfl, .inl ⟨rfl, _, SqL.of gp1⟩, pq, _, _, rfl, rfl, gp1, by omega, ?_⟩
        refine ⟨sumC es', by omega, ps ++ [Str.ofString "-"], xs', es', _, rfl, a1, a2, a3, lx', hes, oe, ?_, by rw [List.length_append]; show ps.length + 1 + _ ≤ _; omega, rfl⟩
        rw [lenS_snoc]
        have e1 : (Str.ofString "-").length = 1 := rfl
        have e2 : tl .none = 1 := rfl
        omega
      · refine ⟨_, rfl, .int i, .ty "tuple", .type "int", .type "tuple", false, rfl, .ty _, .base (.int i), kit_ty (by decide +kernel), false, rfl, iteF ?_⟩
        refine ⟨_, rfl, rfl, _, rfl, iteF ?_⟩
        refine ⟨_, rfl, .int i, .ty "str", .type "int", .type "str", false, rfl, .ty _, .base (.int i), kit_ty (by decide +kernel), false, rfl, iteF ?_⟩
        obtain ⟨n, rfl⟩ : ∃ n : Nat, i = (n : Int) := ⟨i.toNat, by omega⟩
        have n8 : n < 10 ^ 8 := by
          have e8 : (10 : Nat) ^ 8 = 100000000 := by decide
          omega
        refine ⟨_, rfl, .inl ⟨rfl, _, SqL.of gp1⟩, _, rfl, n, 8, rfl, by decide, by decide, n8, fun z G2 s2 lz => ?_⟩
        obtain ⟨a1, a2, a3⟩ := app z G2 s2
        refine ⟨pq, _, _, rfl, rfl, s2 _ _ gp1, by omega, ?_⟩
        refine ⟨sumC es', by omega, ps ++ [z], xs', es', _, rfl, a1, a2, a3, lx', hes, oe, ?_, by rw [List.length_append]; show ps.length + 1 + _ ≤ _; omega, rfl⟩
        rw [lenS_snoc]
        have e2 : tl (.int (n : Int)) = 9 := rfl
        omega
      · refine ⟨_, rfl, .str z, .ty "tuple", .type "str", .type "tuple", false, rfl, .ty _, .base (.str z), kit_ty (by decide +kernel), false, rfl, iteF ?_⟩
        refine ⟨_, rfl, rfl, _, rfl, iteF ?_⟩
        refine ⟨_, rfl, .str z, .ty "str", .type "str", .type "str", true, rfl, .ty _, .base (.str z), kit_ty (by decide +kernel), true, rfl, iteT ?_⟩
        obtain ⟨a1, a2, a3⟩ := app z G1 (Same.refl _)
        refine ⟨_, rfl, .inl ⟨rfl, _, SqL.of gp1⟩, _, rfl, pq, _, _, rfl, rfl, gp1, by omega, ?_⟩
        refine ⟨sumC es', by omega, ps ++ [z], xs', es', _, rfl, a1, a2, a3, lx', hes, oe, ?_, by rw [List.length_append]; show ps.length + 1 + _ ≤ _; omega, rfl⟩
        rw [lenS_snoc]
        have e2 : tl (.str z) = z.length := rfl
        omega
      · have ha1 := sG1 _ _ ha
        have cg := cws_len gs
        have ct : cw (.tuple gs) = 3 + cws gs := rfl
        have tt : tl (.tuple gs) = 2 + tls gs := rfl
        refine ⟨_, rfl, .ref a, .ty "tuple", .type "tuple", .type "tuple", true, rfl, .ty _, .base (.tup ha1), kit_ty (by decide +kernel), true, rfl, iteT ?_⟩
        refine ⟨_, rfl, .inl ⟨rfl, _, SqL.of ga1⟩, _, rfl, a, us, rfl, ha1, by omega, fun l G2 s2 nl hl => ?_⟩
        have R := wc_rel us gs lu tg og
        have wl := wcV_len us
        have sc1 : sumC [PyData.str (Str.ofString ")")] = 1 := rfl
        have st1 : sumT [PyData.str (Str.ofString ")")] = 1 := rfl
        have eC : sumC (es' ++ (wcD gs ++ [PyData.str (Str.ofString ")")]).reverse) = sumC es' + (sumC (wcD gs) + 1) := by rw [sumC_app, sumC_rev, sumC_app, sc1]
        have eT : sumT (es' ++ (wcD gs ++ [PyData.str (Str.ofString ")")]).reverse) = sumT es' + (sumT (wcD gs) + 1) := by rw [sumT_app, sumT_rev, sumT_app, st1]
        have r1 := R.st
        have r2 := R.sc
        have lw : (wcV us ++ [V.str (Str.ofString ")")]).length = (wcD gs ++ [PyData.str (Str.ofString ")")]).length := by rw [List.length_append, List.length_append, R.len]; rfl
        refine ⟨aq, l, xs', _, rfl, rfl, s2 _ _ ga1, hl, by rw [List.length_reverse, List.length_append]; show _ + (_ + 1) ≤ sizeLine; omega, ?_⟩
        refine ⟨_, ?_, ps, xs' ++ (wcV us ++ [V.str (Str.ofString ")")]).reverse, es' ++ (wcD gs ++ [PyData.str (Str.ofString ")")]).reverse, _, rfl, fun b o e => ?_, (upd_ne npa).trans (s2 _ _ gp1), upd_same, by rw [List.length_append, List.length_append, List.length_reverse, List.length_reverse, lx', lw], tr_app lx' hes (tr_rev lw (tr_snoc R.len R.tr (Tr.flat (.str _)))), ?_, by rw [eT]; omega, by rw [eC]; omega, rfl⟩
        · rw [eC]
          omega
        · rw [upd_ne (ne_of_none e naH)]
          exact s2 _ _ (sG1 _ _ e)
        · intro e m
          rcases List.mem_append.mp m with m | m
          · exact oe e m
          · rcases List.mem_append.mp (List.mem_reverse.mp m) with m | m
            · exact R.ok e m
            · rw [List.mem_singleton.mp m]
              rfl
end
end K33
set_option Elab.async false
set_option linter.all false
namespace KB
open PySem PySem.Spec PyProof.Rows L2
/-- all but what stands at D -/
def off (H : Hp) (D : Addr) : Hp := fun b => if b = D then none else H b
theorem off_at {H : Hp} {D b : Addr} (n : b ≠ D) : off H D b = H b := if_neg n
theorem off_same {H H' : Hp} (D : Addr) (k : Same H H') : Same (off H D) (off H' D) := fun b o e => by
  by_cases n : b = D
  · unfold off at e
    rw [if_pos n] at e
    cases e
  · rw [off_at n] at e ⊢
    exact k _ _ e
theorem off_le (H : Hp) (D : Addr) : Same (off H D) H := fun b o e => by
  by_cases n : b = D
  · unfold off at e
    rw [if_pos n] at e
    cases e
  · rw [off_at n] at e
    exact e
theorem off_upd (H : Hp) (D : Addr) (o : HO) : off (upd H D o) D = off H D := by
  funext b
  unfold off
  by_cases n : b = D
  · rw [if_pos n, if_pos n]
  · rw [if_neg n, if_neg n, upd_ne n]
theorem off_in {H G : Hp} {D : Addr} (k : Same H G) (n : H D = none) : Same H (off G D) := fun b o e => by
  rw [off_at (ne_of_none e n)]
  exact k b o e
end KB
set_option Elab.async false
set_option linter.all false
set_option maxRecDepth 100000
set_option maxHeartbeats 4000000
/-! x in l, l a list of dictionaries from keys to ints, x such a one. -/
namespace PySem.SeqAt
open AutoSeq1 (wpAny_loadPart')
open MeetsSeq MeetsSeq2 MeetsSeq3 SeqRoads2
section
variable {prog : Program} {w : World}
theorem kim_loop (l : Addr) (items : Array Value) (n : Nat) (dd : Option Addr) (sl : Array (Option Value)) (x : Value) (e : Nat → Bool) (k : Nat) :
    ∀ i : Nat, items.size - i = k → MeetsIn prog w (Builtin.«list.__contains__.loop» ⟨[.ref l, x, rawInt i], []⟩)
      (fun A R s => s.heap.get? l = some { cls := .type "list", dict := dd, data := .seq items n, slots := sl } ∧ (∀ j (h : j < items.size), EqP prog w A.in1 s items[j] x (e j)) ∧ R (.ok (.ret (.bool (((List.range items.size).drop i).any e)))) s) := by
  induction k with
  | zero =>
    intro i hk A R s h
    obtain ⟨hp, g, d, tk, os⟩ := s; obtain ⟨hl, he, h⟩ := h
    wp_walk using wpAny_loadPart' hl
    have hi : items[((i : Nat) : Int).toNat]? = none := by simp; omega
    have hd : (List.range items.size).drop i = [] := by simp; omega
    rw [hd] at h
    rw [hi]
    wp_walk
    exact h
  | succ k ih =>
    intro i hk A R s h
    obtain ⟨hp, g, d, tk, os⟩ := s; obtain ⟨hl, he, h⟩ := h
    wp_walk using wpAny_loadPart' hl
    have hlt : i < items.size := by omega
    have hi : items[((i : Nat) : Int).toNat]? = some items[i] := by simp [hlt]
    have hd : (List.range items.size).drop i = i :: (List.range items.size).drop (i + 1) := by simp [List.drop_eq_getElem_cons, hlt]
    rw [hd, List.any_cons] at h
    rw [hi]
    refine wpAny_bind (he i hlt _ _ ?_)
    cases hb : e i with
    | true =>
      rw [hb] at h
      wp_walk
      exact h
    | false =>
      rw [hb] at h
      have hc : ((i : Int) + 1) = ((i + 1 : Nat) : Int) := by push_cast; rfl
      wp_walk
      rw [hc]
      exact ⟨plainId_quiet plain_contains_loop _, codeAny_builtin entry_contains_loop (by
        rw [Around.under_plainId plain_contains_loop _]
        exact ih (i + 1) (by omega) A R _ ⟨hl, he, by simpa using h⟩)⟩
theorem kim_contains (l : Addr) (items : Array Value) (n : Nat) (dd : Option Addr) (sl : Array (Option Value)) (x : Value) (e : Nat → Bool) :
    MeetsIn prog w (Builtin.«list.__contains__» ⟨[.ref l, x], []⟩)
      (fun A R s => s.heap.get? l = some { cls := .type "list", dict := dd, data := .seq items n, slots := sl } ∧ (∀ j (h : j < items.size), EqP prog w A.in1 s items[j] x (e j)) ∧ R (.ok (.ret (.bool ((List.range items.size).any e)))) s) := by
  intro A R s h
  obtain ⟨hp, g, d, tk, os⟩ := s; obtain ⟨hl, he, h⟩ := h
  wp_walk using wpAny_loadPart' hl
  exact ⟨plainId_quiet plain_contains_loop _, codeAny_builtin entry_contains_loop (by
    rw [Around.under_plainId plain_contains_loop _]
    exact kim_loop l items n dd sl x e _ 0 rfl A R _ ⟨hl, he, by simpa using h⟩)⟩
theorem kim_in {A : Around} {E : Value → Shared → Prop} {s : Shared} {l : Addr} {items : Array Value} {x : Value} {Q : Value → Shared → Prop} (e : Nat → Bool) (hl : s.heap.IsList l items) (he : ∀ j (h : j < items.size), EqP prog w A.in1 s items[j] x (e j))
    (h : Q (.bool ((List.range items.size).any e)) s) : wpAny (model prog w) A (compareOp .In x (.ref l)) Q E s := by
  obtain ⟨⟨cls, dd, data, sl⟩, ho, hc, n, hd⟩ := id hl
  simp only at hc hd
  subst hc hd
  have hT : s.TypeIs (.ref l) "list" := ⟨_, ho, rfl⟩
  show wpAny _ A (do return .bool (← contains (.ref l) x)) Q E s
  refine wpAny_bind (wpAny_contains_slot hT F.slot_list_contains (wpAny_mono (call_meetsIn F.slot_list_contains hT F.entry_list_contains (F.args_list_contains_2 _ _) (kim_contains l items n dd sl x e) ⟨ho, he, (show wants (fun v s' => ∃ b, v = .bool b ∧ Q (.bool b) s') E _ s from ⟨_, rfl, h⟩)⟩) (fun v s' hv => ?_) fun _ _ e => e))
  obtain ⟨b, rfl, hq⟩ := hv
  exact wpAny_truthy_bool (wpAny_pure hq)
theorem kim_notIn {A : Around} {E : Value → Shared → Prop} {s : Shared} {l : Addr} {items : Array Value} {x : Value} {Q : Value → Shared → Prop} (e : Nat → Bool) (hl : s.heap.IsList l items) (he : ∀ j (h : j < items.size), EqP prog w A.in1 s items[j] x (e j))
    (h : Q (.bool (!(List.range items.size).any e)) s) : wpAny (model prog w) A (compareOp .NotIn x (.ref l)) Q E s := by
  obtain ⟨⟨cls, dd, data, sl⟩, ho, hc, n, hd⟩ := id hl
  simp only at hc hd
  subst hc hd
  have hT : s.TypeIs (.ref l) "list" := ⟨_, ho, rfl⟩
  show wpAny _ A (do return .bool (!(← contains (.ref l) x))) Q E s
  refine wpAny_bind (wpAny_contains_slot hT F.slot_list_contains (wpAny_mono (call_meetsIn F.slot_list_contains hT F.entry_list_contains (F.args_list_contains_2 _ _) (kim_contains l items n dd sl x e) ⟨ho, he, (show wants (fun v s' => ∃ b, v = .bool b ∧ Q (.bool (!b)) s') E _ s from ⟨_, rfl, h⟩)⟩) (fun v s' hv => ?_) fun _ _ e => e))
  obtain ⟨b, rfl, hq⟩ := hv
  exact wpAny_truthy_bool (wpAny_pure hq)
end
end PySem.SeqAt
namespace L2
open PySem PySem.Spec PyProof.Rows
theorem kim_hits {A : Around} {s : Shared} {kvs : List (Key × V)} {vb : List (Key × Value)} (rb : KV kvs vb) {ks : List (Key × V)} {va : List (Key × Value)} (ra : KV ks va) {P : Program} {w : World} :
    (∀ p ∈ ks, ∃ i j : Int, p.2 = .int i ∧ valV kvs p.1 = some (.int j)) → PySem.W.KeqHitsP P w A s vb va (ks.all fun p => decide (valV kvs p.1 = some p.2)) := by
  unfold KV at ra
  induction ra with
  | nil => intro _; exact .nil
  | @cons p q ps qs h t ih =>
    intro hp
    obtain ⟨h1, h2⟩ := h
    obtain ⟨i, j, e1, e2⟩ := hp p List.mem_cons_self
    have rr : RelO (some (V.int j)) (valueAt vb p.1) := by rw [← e2]; exact rb.val p.1
    obtain ⟨y, hy, ry⟩ := rr.some_of
    obtain ⟨k, v⟩ := q
    have h1' : p.1 = k := h1
    rw [h1'] at hy
    rw [List.all_cons]
    have h2' : RelV p.2 v := h2
    rw [e1] at h2'
    obtain ⟨t1, rfl⟩ := h2'
    obtain ⟨t2, rfl⟩ := ry
    have eb : decide (valV kvs p.1 = some p.2) = (i == j) := by
      rw [e1, e2, Bool.eq_iff_iff]
      simp
      exact eq_comm
    rw [eb]
    exact .hit hy ((MeetsSeq.EqGives.int i j t1 t2).at A s).eqP (ih fun p' hm => hp p' (List.mem_cons_of_mem _ hm))
/-- e i: whether the i-th of xs is equal to the dictionary ls -/
def EqMs (H : Hp) (a : Addr) (ls : List (Key × V)) (xs : List V) (e : Nat → Bool) : Prop :=
  ∀ (i : Nat) (v : V), xs[i]? = some v → ∃ (c : Addr) (ks : List (Key × V)), v = .ref c ∧ c ≠ a ∧ H c = some (.dK ks) ∧ ks.length = ls.length ∧ (∀ p ∈ ks, ∃ i j : Int, p.2 = .int i ∧ valV ls p.1 = some (.int j)) ∧ e i = ks.all fun p => decide (valV ls p.1 = some p.2)
section
variable {X : Cx} {pins : List (Addr × Obj)} {σ : St} {H : Hp} {s : Shared}
theorem kim_eqs (I : Inv X pins σ H s) {A : Around} (hu : A.units < cLine) {a : Addr} {ls : List (Key × V)} {xs : List V} {its : List Value} (ea : H a = some (.dK ls)) (hx : Vals xs its) {e : Nat → Bool} (h : EqMs H a ls xs e) :
    ∀ j (hj : j < its.toArray.size), SeqAt.EqP X.prog X.w A s its.toArray[j] (.ref a) (e j) := by
  intro j hj
  have lj : j < its.length := by simpa using hj
  have lx : j < xs.length := by
    have := hx.length
    omega
  obtain ⟨c, ks, ev, ne, ec, len, hp, eb⟩ := h j _ (List.getElem?_eq_getElem lx)
  obtain ⟨u0, eu, rj⟩ := hx.get (List.getElem?_eq_getElem lx)
  rw [List.getElem?_eq_getElem lj] at eu
  cases eu
  rw [ev] at rj
  have rj' : its[j] = Value.ref c := rj
  have e0 : its.toArray[j] = Value.ref c := by simpa using rj'
  rw [e0]
  obtain ⟨_, ya, va, ra, da⟩ := (show ObjOk X.prog X.w H s.heap a (.dK ls) from I.hok a _ ea)
  obtain ⟨_, yc, vc, rc, dc⟩ := (show ObjOk X.prog X.w H s.heap c (.dK ks) from I.hok c _ ec)
  have hl : vc.length = va.length := by rw [← ra.length, ← rc.length]; exact len
  refine SeqAt.eqP_refs ne fun E Q q => PySem.W.rcP_dicts (knd := mixKind X.prog X.w) (r := e j) yc ya dc da hu (fun _ => by rw [eb]; exact kim_hits ra rc hp) E Q ?_
  rw [show (vc.length == va.length) = true by simpa using hl, Bool.true_and]
  exact q
def rInM (K : PySem.W.Frag) (neg : Bool) : R2 := fun x y H Q => ∃ (a L : Addr) (ls : List (Key × V)) (xs : List V) (e : Nat → Bool), x = .ref a ∧ y = .ref L ∧ H a = some (.dK ls) ∧ SqL K H L xs ∧ EqMs H a ls xs e ∧ Q (.bl (((List.range xs.length).any e) != neg)) H
theorem op_notInM (hu : X.A.units + 1 < cLine) : OpR X (compareOp .NotIn) (rInM X.K true) := by
  intro pins s σ H x y v u Q I rx ry h
  obtain ⟨a, L, ls, xs, e, rfl, rfl, ea, hs, he, q⟩ := h
  obtain rfl : v = Value.ref a := rx
  obtain rfl : u = Value.ref L := ry
  obtain ⟨its, rv, ho, hlen⟩ := I.list hs
  obtain ⟨⟨cls, dd, data, sls⟩, n, ho, hc, hdn, hdt⟩ := ho
  have hL : s.heap.IsList L its.toArray := ⟨_, ho, hc, n, hdt⟩
  refine SeqAt.kim_notIn e hL (kim_eqs I (show X.A.in1.units < cLine from hu) ea rv he) ⟨.bl _, H, I, rfl, ?_⟩
  have l := rv.length
  have es : its.toArray.size = xs.length := by simp [l]
  rw [es]
  have z : ∀ b : Bool, (b != true) = !b := by decide
  rw [z] at q
  exact q
theorem op_inM (hu : X.A.units + 1 < cLine) : OpR X (compareOp .In) (rInM X.K false) := by
  intro pins s σ H x y v u Q I rx ry h
  obtain ⟨a, L, ls, xs, e, rfl, rfl, ea, hs, he, q⟩ := h
  obtain rfl : v = Value.ref a := rx
  obtain rfl : u = Value.ref L := ry
  obtain ⟨its, rv, ho, hlen⟩ := I.list hs
  obtain ⟨⟨cls, dd, data, sls⟩, n, ho, hc, hdn, hdt⟩ := ho
  have hL : s.heap.IsList L its.toArray := ⟨_, ho, hc, n, hdt⟩
  refine SeqAt.kim_in e hL (kim_eqs I (show X.A.in1.units < cLine from hu) ea rv he) ⟨.bl _, H, I, rfl, ?_⟩
  have l := rv.length
  have es : its.toArray.size = xs.length := by simp [l]
  rw [es]
  have z : ∀ b : Bool, (b != false) = b := by decide
  rw [z] at q
  exact q
end
end L2
set_option Elab.async false
set_option linter.all false
set_option maxRecDepth 100000
set_option maxHeartbeats 4000000
/-! Comprehensions whose items are new objects: a relation for each turn. -/
namespace L2
open PySem PySem.Spec PyProof.Rows KB
theorem paired_snoc {α β : Type} {F : α → β → Prop} : ∀ {xs : List α} {ys : List β} {x : α} {y : β}, Paired F xs ys → F x y → Paired F (xs ++ [x]) (ys ++ [y])
  | _, _, _, _, .nil, h => .cons h .nil
  | _, _, _, _, .cons r t, h => .cons r (paired_snoc t h)
theorem paired_mono {α β : Type} {F G : α → β → Prop} : ∀ {xs : List α} {ys : List β}, (∀ x y, F x y → G x y) → Paired F xs ys → Paired G xs ys
  | _, _, _, .nil => .nil
  | _, _, k, .cons r t => .cons (k _ _ r) (paired_mono k t)
theorem off_upd_le {H : Hp} {D : Addr} {o : HO} : Same (off H D) (upd H D o) := fun b u e => by
  by_cases n : b = D
  · unfold off at e
    rw [if_pos n] at e
    cases e
  · rw [off_at n] at e
    rw [upd_ne n]
    exact e
/-- turn i gives, if c i, an item y with R i y; what stood stays -/
theorem lc_rel {J : It} {n : Nat} {G : Hp → Prop} {Y : Nat → Hp → V → Hp → Prop} (w : Walk J n G Y) {g : TG} {tt : TT} {te : TE} {vs : List Nat} {σ : St} {H1 : Hp} {D : Addr} {Qd : Hp → Prop} (c : Nat → Bool) (R : Nat → V → Hp → Prop)
    (hR : ∀ i y H H', Same H H' → R i y H → R i y H') (hn : n ≤ 100000) (hD : H1 D = none) (hG : ∀ H, Same H1 H → G H)
    (hs : ∀ i x H H' (Qy : V → Hp → Prop) (Qn : Hp → Prop), i < n → Same H1 H → (∃ acc, H D = some (.lst acc)) → Y i H x H' → (∀ y H4, c i = true → Same H H4 → R i y (off H4 D) → Qy y H4) → (∀ H4, c i = false → Same H H4 → Qn H4) →
      g x (wipe σ vs) H' fun σ2 H2 => wipe σ2 vs = wipe σ vs ∧ tt σ2 H2 fun b H3 => if b = true then te σ2 H3 Qy else Qn H3)
    (hd : ∀ H ys, Same H1 H → H D = some (.lst ys) → Paired (fun i y => R i y (off H D)) ((List.range n).filter c) ys → Qd H) :
    ∃ W : Nat → Nat → Hp → Prop, (∃ m, W 0 m (upd H1 D (.lst []))) ∧ ∀ i m H, W i m H →
      (J.stop i H ∧ Qd H) ∨ (J.go i H ∧ ∃ Nx : Hp → Prop, (∀ H', Nx H' → ∃ m', m' < m ∧ W (i + 1) m' H') ∧ ∀ x H', J.yld i H x H' → g x (wipe σ vs) H' fun σ2 H2 => wipe σ2 vs = wipe σ vs ∧ tt σ2 H2 fun b H3 =>
        if b = true then te σ2 H3 fun y H4 => ∃ acc, H4 D = some (.lst acc) ∧ acc.length < sizeLine ∧ Nx (upd H4 D (.lst (acc ++ [y]))) else Nx H3) := by
  refine lc_it w (fun i H => Same H1 H ∧ ∃ ys, H D = some (.lst ys) ∧ ys.length ≤ i ∧ Paired (fun i y => R i y (off H D)) ((List.range i).filter c) ys) ⟨Same.updf hD, [], upd_same, Nat.le_refl _, .nil⟩ (fun i H _ h => hG H h.1) (fun i x H H' hi hP hy => ?_) (fun H h => ?_)
  · obtain ⟨s1, ys, hD', ly, py⟩ := hP
    refine hs i x H H' _ _ hi s1 ⟨ys, hD'⟩ hy (fun y H4 e s4 r => ?_) (fun H4 e s4 => ?_)
    · have l2 : (100000 : Nat) < sizeLine := by decide
      refine ⟨ys, s4 _ _ hD', by omega, fun b o eb => ?_, ys ++ [y], upd_same, by rw [List.length_append]; exact Nat.succ_le_succ ly, ?_⟩
      · rw [upd_ne (ne_of_none eb hD)]
        exact s4 _ _ (s1 _ _ eb)
      · rw [List.range_succ, List.filter_append, List.filter_cons, if_pos e, List.filter_nil, off_upd]
        exact paired_snoc (paired_mono (fun i y h => hR i y _ _ (off_same D s4) h) py) r
    · refine ⟨s1.trans s4, ys, s4 _ _ hD', by omega, ?_⟩
      rw [List.range_succ, List.filter_append, List.filter_cons, if_neg (by rw [e]; exact Bool.false_ne_true), List.filter_nil, List.append_nil]
      exact paired_mono (fun i y h => hR i y _ _ (off_same D s4) h) py
  · obtain ⟨s1, ys, hD', ly, py⟩ := h
    exact hd H ys s1 hD' py
/-- pairs on the heap, taken for a dictionary's -/
theorem pairs_addr {K : PySem.W.Frag} {H : Hp} : ∀ {is : List Nat} {ys : List V} {f : Nat → Key × V}, Paired (fun i y => ∃ T, y = .ref T ∧ H T = some (.tup [kV (f i).1, (f i).2])) is ys →
    ∃ ps : List Addr, ys = ps.map V.ref ∧ Paired (fun p kv => SqT K H p [kV kv.1, kv.2]) ps (is.map f)
  | _, _, _, .nil => ⟨[], rfl, .nil⟩
  | _, _, _, .cons r t => by
    obtain ⟨T, rfl, h⟩ := r
    obtain ⟨ps, rfl, p⟩ := pairs_addr t
    exact ⟨T :: ps, rfl, .cons (SqT.of h) p⟩
end L2
namespace KB
open PySem PySem.Spec PyProof.Rows L2
def rDictP (K : PySem.W.Frag) : List V → Hp → VK → Prop := fun xs H Q => ∃ (a : Addr) (ps : List Addr) (kvs : List (Key × V)), xs = [.ref a] ∧ SqL K H a (ps.map V.ref) ∧ Paired (fun p kv => SqT K H p [kV kv.1, kv.2]) ps kvs ∧
    ∀ p, H p = none → Q (.ref p) (upd H p (.dK (mergeK [] kvs)))
theorem call_dictPR {X : Cx} (hc : X.calm = true) : CallR X (.type "dict") (rDictP X.K) := call_dictP hc
def rDictD : List V → Hp → VK → Prop := fun xs H Q => ∃ (a : Addr) (kvs : List (Key × V)), xs = [V.ref a] ∧ Rd H a (.dK kvs) ∧ ∀ p, H p = none → Q (.ref p) (upd H p (.dK kvs))
theorem call_dictDR {X : Cx} : CallR X (.type "dict") rDictD := call_dictD
end KB
namespace KB
open PySem PySem.Spec PyProof.Rows L2
def rSortDI : List V → Hp → VK → Prop := fun xs H Q => ∃ (a : Addr) (kvs : List (Key × V)) (ks : List Int), xs = [V.ref a] ∧ Rd H a (.dK kvs) ∧ kvs.map (·.1) = ks.map Sum.inl ∧ ks.length < 64 ∧
    ∀ (ys : List Int) (p : Addr), ys.Perm ks → ys.Pairwise (· ≤ ·) → H p = none → Q (.ref p) (upd H p (.lst (ys.map V.int)))
theorem cr_sortedDI {X : Cx} (hc : X.calm = true) : CallR X (.builtin "sorted") rSortDI := call_sortedDI hc
end KB
set_option Elab.async false
set_option linter.all false
set_option maxRecDepth 100000
set_option maxHeartbeats 4000000
/-! Dictionaries from pages to things, and logs as functions. -/
namespace K33
open PySem PySem.Spec PyProof.Rows L2 KB
/-- a dictionary made over what a Walk tells -/
theorem dc_walk {J : It} {n : Nat} {G0 : Hp → Prop} {Y : Nat → Hp → V → Hp → Prop} {g : TG} {tt : TT} {tk tv : TE} {vs : List Nat} {σ : L2.St} {H1 : Hp} {D : Addr} {Z : Hp → Prop} (w : Walk J n G0 Y) (I : Nat → Hp → Prop) (h0 : I 0 (upd H1 D (.dK []))) (hp : ∀ i G, i ≤ n → I i G → G0 G)
    (turn : ∀ (i : Nat) (x : V) (G G' : Hp), i < n → I i G → Y i G x G' → g x (wipe σ vs) G' fun σ2 H2 => wipe σ2 vs = wipe σ vs ∧ tt σ2 H2 fun b H3 =>
      if b = true then tk σ2 H3 fun y H4 => tv σ2 H4 fun z H5 => ∃ kvs k, y = kV k ∧ H5 D = some (.dK kvs) ∧ kvs.length < sizeLine ∧ I (i + 1) (upd H5 D (.dK (putK kvs k z))) else I (i + 1) H3) (fin : ∀ G, I n G → Z G) :
    ∃ W : Nat → Nat → Hp → Prop, (∃ m, W 0 m (upd H1 D (.dK []))) ∧ ∀ i m H, W i m H → (J.stop i H ∧ Z H) ∨ (J.go i H ∧ ∃ Nx : Hp → Prop, (∀ H', Nx H' → ∃ m', m' < m ∧ W (i + 1) m' H') ∧ ∀ x H', J.yld i H x H' → g x (wipe σ vs) H' fun σ2 H2 => wipe σ2 vs = wipe σ vs ∧ tt σ2 H2 fun b H3 =>
      if b = true then tk σ2 H3 fun y H4 => tv σ2 H4 fun z H5 => ∃ kvs k, y = kV k ∧ H5 D = some (.dK kvs) ∧ kvs.length < sizeLine ∧ Nx (upd H5 D (.dK (putK kvs k z))) else Nx H3) := by
  refine ⟨fun i m G => m = n - i ∧ i ≤ n ∧ I i G, ⟨n, by simp, Nat.zero_le _, h0⟩, ?_⟩
  rintro i m G ⟨rfl, hi, z⟩
  by_cases lt : i < n
  · exact .inr ⟨w.goes i G lt (hp i G hi z), I (i + 1), fun G' z' => ⟨n - (i + 1), by omega, rfl, lt, z'⟩, fun x G' y => turn i x G G' lt z (w.yields i G x G' lt (hp i G hi z) y)⟩
  · obtain rfl : i = n := by omega
    exact .inl ⟨w.stops G (hp i G hi z), fin G z⟩
abbrev ky (p : Nat) : Key := Sum.inl (p : Int)
def dV (ps : List Nat) (f : Nat → V) : List (Key × V) := ps.map fun p => (ky p, f p)
theorem ky_inj {p q : Nat} : ky p = ky q ↔ p = q := by
  constructor
  · intro h
    have := Sum.inl.inj h
    omega
  · exact fun h => h ▸ rfl
theorem dV_len (ps : List Nat) (f : Nat → V) : (dV ps f).length = ps.length := List.length_map _
theorem dV_val {ps : List Nat} {f : Nat → V} {p : Nat} (h : p ∈ ps) : valV (dV ps f) (ky p) = some (f p) := by
  induction ps with
  | nil => cases h
  | cons q ps ih =>
    by_cases e : q = p
    · subst e
      exact valV_pos rfl
    · have h' : p ∈ ps := by
        rcases List.mem_cons.mp h with h | h
        · exact absurd h.symm e
        · exact h
      unfold valV at ih ⊢
      have ne : ¬ (ky q = ky p) := fun z => e (ky_inj.mp z)
      show ((dV (q :: ps) f).find? _).map _ = _
      unfold dV
      rw [List.map_cons, List.find?_cons_of_neg (by simpa using ne)]
      exact ih h'
theorem dV_none {ps : List Nat} {f : Nat → V} {p : Nat} (h : p ∉ ps) : valV (dV ps f) (ky p) = none := by
  unfold valV dV
  rw [Option.map_eq_none_iff, List.find?_eq_none]
  intro kv hkv
  obtain ⟨q, hq, rfl⟩ := List.mem_map.mp hkv
  intro z
  exact h (ky_inj.mp (of_decide_eq_true z) ▸ hq)
def put (f : Nat → V) (p : Nat) (v : V) : Nat → V := fun q => if q = p then v else f q
theorem dV_any {ps : List Nat} {f : Nat → V} {p : Nat} : ((dV ps f).any fun kv => decide (kv.1 = ky p)) = decide (p ∈ ps) := by
  unfold dV
  rw [List.any_map]
  by_cases h : p ∈ ps
  · rw [decide_eq_true h, List.any_eq_true]
    exact ⟨p, h, decide_eq_true rfl⟩
  · rw [decide_eq_false h, List.any_eq_false]
    intro q hq z
    exact h (ky_inj.mp (of_decide_eq_true z) ▸ hq)
theorem dV_put {ps : List Nat} {f : Nat → V} {p : Nat} {v : V} (h : p ∈ ps) : putK (dV ps f) (ky p) v = dV ps (put f p v) := by
  unfold putK
  rw [dV_any, decide_eq_true h, if_pos rfl]
  unfold dV
  rw [List.map_map]
  refine List.map_congr_left fun q hq => ?_
  show (if ky q = ky p then (ky q, v) else (ky q, f q)) = (ky q, put f p v q)
  unfold put
  by_cases e : q = p
  · rw [if_pos e, if_pos (ky_inj.mpr e)]
  · rw [if_neg e, if_neg fun z => e (ky_inj.mp z)]
theorem dV_new {ps : List Nat} {f : Nat → V} {p : Nat} {v : V} (h : p ∉ ps) : putK (dV ps f) (ky p) v = dV (ps ++ [p]) (put f p v) := by
  unfold putK
  rw [dV_any, decide_eq_false h, if_neg Bool.false_ne_true]
  unfold dV
  rw [List.map_append]
  refine congr (congrArg _ (List.map_congr_left fun q hq => ?_)) ?_
  · unfold put
    rw [if_neg (fun e : q = p => h (e ▸ hq))]
  · simp [put]
theorem dV_congr {ps : List Nat} {f g : Nat → V} (h : ∀ p ∈ ps, f p = g p) : dV ps f = dV ps g := List.map_congr_left fun p hp => by rw [h p hp]
/-- marks: a number for each page -/
abbrev mV (ps : List Nat) (m : Nat → Nat) : List (Key × V) := dV ps fun p => .int (m p : Int)
def putN (m : Nat → Nat) (p n : Nat) : Nat → Nat := fun q => if q = p then n else m q
theorem mV_put {ps : List Nat} {m : Nat → Nat} {p n : Nat} (h : p ∈ ps) : putK (mV ps m) (ky p) (.int (n : Int)) = mV ps (putN m p n) := by
  rw [dV_put h]
  refine dV_congr fun q _ => ?_
  unfold put putN
  by_cases e : q = p
  · rw [if_pos e, if_pos e]
  · rw [if_neg e, if_neg e]
/-- 0 and the numbers of the deeds that wrote a page -/
def nbp (ds : List Dd) (p : Nat) : List Nat := 0 :: (ds.filter fun d => decide (d.p = p)).map (·.n)
/-- what of a log is read wrong by marks: deeds and pages -/
def wr (ds : List Dd) (m : Nat → Nat) : List (Dd × Nat) := ds.flatMap fun d => if m d.p < d.n then (d.r.filter fun p => decide (d.n ≤ m p)).map fun p => (d, p) else []
theorem wr_mem {ds : List Dd} {m : Nat → Nat} {d : Dd} {p : Nat} : (d, p) ∈ wr ds m ↔ d ∈ ds ∧ m d.p < d.n ∧ p ∈ d.r ∧ d.n ≤ m p := by
  unfold wr
  rw [List.mem_flatMap]
  constructor
  · rintro ⟨e, he, h⟩
    by_cases c : m e.p < e.n
    · rw [if_pos c] at h
      obtain ⟨q, hq, z⟩ := List.mem_map.mp h
      obtain ⟨h1, h2⟩ := List.mem_filter.mp hq
      cases z
      exact ⟨he, c, h1, of_decide_eq_true h2⟩
    · rw [if_neg c] at h
      cases h
  · rintro ⟨hd, c, hp, h⟩
    refine ⟨d, hd, ?_⟩
    rw [if_pos c]
    exact List.mem_map.mpr ⟨p, List.mem_filter.mpr ⟨hp, decide_eq_true h⟩, rfl⟩
/-- right marks -/
def Rt (ds : List Dd) (m : Nat → Nat) : Prop := wr ds m = []
theorem rt_iff {ds : List Dd} {m : Nat → Nat} : Rt ds m ↔ ∀ d ∈ ds, m d.p < d.n → ∀ p ∈ d.r, m p < d.n := by
  unfold Rt
  rw [List.eq_nil_iff_forall_not_mem]
  constructor
  · intro h d hd c p hp
    have := h (d, p)
    rw [wr_mem] at this
    rcases Nat.lt_or_ge (m p) d.n with q | q
    · exact q
    · exact absurd ⟨hd, c, hp, q⟩ this
  · rintro h ⟨d, p⟩ z
    obtain ⟨hd, c, hp, q⟩ := wr_mem.mp z
    have := h d hd c p hp
    omega
/-- marks that pages can show -/
def Mk (ds : List Dd) (m : Nat → Nat) : Prop := ∀ p ∈ pgs ds, m p ∈ nbp ds p
end K33
set_option Elab.async false
set_option linter.all false
set_option maxRecDepth 100000
set_option maxHeartbeats 8000000
namespace K33
open PySem PySem.Spec PyProof.Rows L2 KB
theorem inV_iff {ns : List Nat} {p : Nat} : inV (.int (p : Int)) (numsV ns) = decide (p ∈ ns) := by
  by_cases h : p ∈ ns
  · rw [inV_nums h, decide_eq_true h]
  · rw [decide_eq_false h]
    unfold inV numsV
    rw [List.any_eq_false]
    intro x hx z
    obtain ⟨i, hi, rfl⟩ := List.mem_map.mp hx
    have : i = p := by
      have q : (i : Int) = (p : Int) := by simpa [eqV] using z
      omega
    exact h (this ▸ hi)
/-- marks at b: a number for each of the pages ks -/
def MkAt (H : Hp) (b : Addr) (ks : List Nat) (m : Nat → Nat) : Prop := H b = some (.dK (mV ks m))
/-- what of one deed is read wrong, of its first j pages -/
def wr1 (d : Dd) (m : Nat → Nat) (j : Nat) : List (Dd × Nat) := ((d.r.take j).filter fun p => decide (d.n ≤ m p)).map fun p => (d, p)
theorem wr1_len (d : Dd) (m : Nat → Nat) (j : Nat) : (wr1 d m j).length ≤ d.r.length := by
  unfold wr1
  rw [List.length_map]
  refine Nat.le_trans (List.length_filter_le _ _) ?_
  rw [List.length_take]
  omega
theorem wr_take {ds : List Dd} {m : Nat → Nat} {i : Nat} {d : Dd} (h : ds[i]? = some d) : wr (ds.take (i + 1)) m = wr (ds.take i) m ++ if m d.p < d.n then wr1 d m d.r.length else [] := by
  rw [List.take_succ, h]
  unfold wr
  rw [List.flatMap_append]
  simp [wr1]
theorem wr_len {ds : List Dd} (h : ∀ d ∈ ds, d.r.length ≤ 20) (m : Nat → Nat) : (wr ds m).length ≤ 20 * ds.length := by
  induction ds with
  | nil => simp [wr]
  | cons d ds ih =>
    have h1 := ih fun e he => h e (List.mem_cons_of_mem _ he)
    have h2 := h d List.mem_cons_self
    have h3 := wr1_len d m d.r.length
    have e : wr (d :: ds) m = (if m d.p < d.n then wr1 d m d.r.length else []) ++ wr ds m := by
      unfold wr wr1
      rw [List.flatMap_cons, List.take_length]
    rw [e, List.length_append, List.length_cons]
    split
    · omega
    · rw [List.length_nil]
      omega
theorem own_pg {ds : List Dd} (hG : Lg ds) {d : Dd} (hd : d ∈ ds) : d.p ∈ pgs ds := pgs_mem.mpr ⟨d, hd, (hG.ok d hd).own⟩
theorem nbp_len (es : List Dd) (p : Nat) : (nbp es p).length ≤ es.length + 1 := by
  unfold nbp
  rw [List.length_cons, List.length_map]
  have := List.length_filter_le (fun d : Dd => decide (d.p = p)) es
  omega
theorem tk_notin {ds : List Dd} {i : Nat} (h : i < (pgs ds).length) : (pgs ds)[i] ∉ (pgs ds).take i := fun m => by
  obtain ⟨j, lj, e⟩ := List.getElem_of_mem m
  rw [List.getElem_take] at e
  rw [List.length_take] at lj
  have := List.pairwise_iff_getElem.mp (pgs_asc ds) j i (by omega) h (by omega)
  omega
theorem tk_snoc {ds : List Dd} {i : Nat} (h : i < (pgs ds).length) : (pgs ds).take (i + 1) = (pgs ds).take i ++ [(pgs ds)[i]] := by
  rw [List.take_succ, List.getElem?_eq_getElem h]
  rfl
end K33
set_option Elab.async false
set_option linter.all false
set_option maxRecDepth 100000
set_option maxHeartbeats 8000000
namespace K33
open PySem PySem.Spec PyProof.Rows L2 KB RZ
abbrev s_exact : Stmt := top 51
abbrev N_exact : List Str := ["_law_mine", "_law_theirs", "_law_alike", "_law_a", "_law_b", "_law_key"]
theorem sc_exact : FnScope N_exact ["_law_mine", "_law_theirs"] (defScope s_exact) := ⟨rfl, rfl, rfl, by decide +kernel, rfl, by decide +kernel, by decide +kernel⟩
/-- as Tr, with dictionaries of marks -/
def TD (H : Hp) : Nat → V → PyData → Prop
  | 0, x, d => FlatD x d
  | n + 1, x, d => FlatD x d ∨ (∃ (a : Addr) (xs : List V) (ds : List PyData), x = .ref a ∧ xs.length = ds.length ∧ ds.length ≤ 1000 ∧ ((H a = some (.lst xs) ∧ d = .list ds) ∨ (H a = some (.tup xs) ∧ d = .tuple ds)) ∧
      ∀ (i : Nat) (u : V) (e : PyData), xs[i]? = some u → ds[i]? = some e → TD H n u e) ∨ ∃ (a : Addr) (ps : List Nat) (fv : Nat → V) (g : Nat → PyData), x = .ref a ∧ (1 ≤ n ∧ ps.length ≤ 1000) ∧ H a = some (.dK (dV ps fv)) ∧ d = .dict (ps.map fun p : Nat => (.int (p : Int), g p)) ∧ ∀ p ∈ ps, Tr H n (fv p) (g p)
theorem TD.same {H H' : Hp} (k : Same H H') : ∀ {n : Nat} {x : V} {d : PyData}, TD H n x d → TD H' n x d
  | 0, _, _, h => h
  | n + 1, _, _, h => by
    rcases h with h | ⟨a, xs, ds, e, l, l1, t, c⟩ | ⟨a, ps, fv, g, e, n1, ha, ed, kf⟩
    · exact .inl h
    · refine .inr (.inl ⟨a, xs, ds, e, l, l1, ?_, fun i u v e1 e2 => TD.same k (c i u v e1 e2)⟩)
      rcases t with ⟨t1, t2⟩ | ⟨t1, t2⟩
      · exact .inl ⟨k _ _ t1, t2⟩
      · exact .inr ⟨k _ _ t1, t2⟩
    · exact .inr (.inr ⟨a, ps, fv, g, e, n1, k _ _ ha, ed, fun p hp => (kf p hp).same k⟩)
theorem TD.of {H : Hp} : ∀ {n : Nat} {x : V} {d : PyData}, Tr H n x d → TD H n x d
  | 0, _, _, h => h
  | n + 1, _, _, h => by
    rcases h with h | ⟨a, xs, ds, e, l, l1, t, c⟩
    · exact .inl h
    · exact .inr (.inl ⟨a, xs, ds, e, l, l1, t, fun i u v e1 e2 => TD.of (c i u v e1 e2)⟩)
theorem TD.up {H : Hp} : ∀ {n : Nat} {x : V} {d : PyData}, TD H n x d → TD H (n + 1) x d
  | 0, _, _, h => .inl h
  | n + 1, _, _, h => by
    rcases h with h | ⟨a, xs, ds, e, l, l1, t, c⟩ | h
    · exact .inl h
    · exact .inr (.inl ⟨a, xs, ds, e, l, l1, t, fun i u v e1 e2 => TD.up (c i u v e1 e2)⟩)
    · obtain ⟨a, ps, fv, g, e, n1, ha, ed, kf⟩ := h
      exact .inr (.inr ⟨a, ps, fv, g, e, ⟨by omega, n1.2⟩, ha, ed, fun p hp => (kf p hp).up⟩)
theorem TD.lst {H : Hp} {n : Nat} {a : Addr} {xs : List V} {ds : List PyData} (h : H a = some (.lst xs)) (l : xs.length = ds.length) (s : ds.length ≤ 1000) (k : ∀ (i : Nat) (u : V) (e : PyData), xs[i]? = some u → ds[i]? = some e → TD H n u e) : TD H (n + 1) (.ref a) (.list ds) :=
  .inr (.inl ⟨a, xs, ds, rfl, l, s, .inl ⟨h, rfl⟩, k⟩)
theorem TD.dct {H : Hp} {n : Nat} {a : Addr} {ps : List Nat} {m : Nat → Nat} (h : H a = some (.dK (mV ps m))) (l : ps.length ≤ 1000) : TD H (n + 2) (.ref a) (.dict (ps.map fun p : Nat => (.int (p : Int), .int (m p : Int)))) := .inr (.inr ⟨a, ps, _, fun p => .int (m p : Int), rfl, ⟨by omega, l⟩, h, rfl, fun p _ => Tr.flat (.int _)⟩)
theorem TD.dctV {H : Hp} {n : Nat} {a : Addr} {ps : List Nat} {fv : Nat → V} {g : Nat → PyData} (h : H a = some (.dK (dV ps fv))) (l : ps.length ≤ 1000) (k : ∀ p ∈ ps, Tr H (n + 1) (fv p) (g p)) : TD H (n + 2) (.ref a) (.dict (ps.map fun p : Nat => (.int (p : Int), g p))) := .inr (.inr ⟨a, ps, _, g, rfl, ⟨by omega, l⟩, h, rfl, k⟩)
theorem TD.flat {H : Hp} {n : Nat} {x : V} {d : PyData} (h : FlatD x d) : TD H n x d := by
  cases n with
  | zero => exact h
  | succ n => exact .inl h
theorem td_cons {H : Hp} {n : Nat} {x : V} {xs : List V} {d : PyData} {ds : List PyData} (h : TD H n x d) (k : ∀ (i : Nat) (u : V) (e : PyData), xs[i]? = some u → ds[i]? = some e → TD H n u e) : ∀ (i : Nat) (u : V) (e : PyData), (x :: xs)[i]? = some u → (d :: ds)[i]? = some e → TD H n u e := fun i u e h1 h2 => by
  cases i with
  | zero =>
    cases h1
    cases h2
    exact h
  | succ i => exact k i u e h1 h2
theorem td_nil {H : Hp} {n : Nat} : ∀ (i : Nat) (u : V) (e : PyData), ([] : List V)[i]? = some u → ([] : List PyData)[i]? = some e → TD H n u e := fun i u e h1 h2 => by simp at h1
theorem dict_inj : ∀ {ps qs : List Nat} {g g' : Nat → PyData}, (ps.map fun p : Nat => (PyData.int (p : Int), g p)) = (qs.map fun p : Nat => (PyData.int (p : Int), g' p)) → ps = qs ∧ ∀ p ∈ ps, g p = g' p
  | [], [], _, _, _ => ⟨rfl, fun p h => nomatch h⟩
  | [], q :: qs, _, _, e => by cases e
  | p :: ps, [], _, _, e => by cases e
  | p :: ps, q :: qs, g, g', e => by
    rw [List.map_cons, List.map_cons] at e
    obtain ⟨e1, e2⟩ := List.cons.inj e
    have h1 := PyData.int.inj (congrArg Prod.fst e1)
    have h2 := congrArg Prod.snd e1
    have hp : p = q := by omega
    subst hp
    obtain ⟨h3, h4⟩ := dict_inj e2
    refine ⟨by rw [h3], fun r hr => ?_⟩
    rcases List.mem_cons.mp hr with rfl | hr
    · exact h2
    · exact h4 r hr
/-- lists and tuples stay -/
def KeepLT (H H' : Hp) : Prop := ∀ c xs, (H c = some (.lst xs) → H' c = some (.lst xs)) ∧ (H c = some (.tup xs) → H' c = some (.tup xs))
theorem Tr.keep {H H' : Hp} (k : KeepLT H H') : ∀ {n : Nat} {x : V} {d : PyData}, Tr H n x d → Tr H' n x d
  | 0, _, _, h => h
  | n + 1, _, _, h => by
    rcases h with h | ⟨a, xs, ds, e1, e2, e3, e4, e5⟩
    · exact .inl h
    · exact .inr ⟨a, xs, ds, e1, e2, e3, e4.elim (fun z => .inl ⟨(k a xs).1 z.1, z.2⟩) (fun z => .inr ⟨(k a xs).2 z.1, z.2⟩), fun i u e h1 h2 => Tr.keep k (e5 i u e h1 h2)⟩
theorem keep_dict {B : Hp} {b : Addr} {kvs : List (Key × V)} {o : HO} (hb : B b = some (.dK kvs)) : KeepLT B (upd B b o) := fun c xs => ⟨fun e => by
  rw [upd_ne (fun z => by
    rw [z, hb] at e
    cases e)]
  exact e, fun e => by
  rw [upd_ne (fun z => by
    rw [z, hb] at e
    cases e)]
  exact e⟩
theorem Same.keep {H H' : Hp} (s : Same H H') : KeepLT H H' := fun c xs => ⟨fun e => s _ _ e, fun e => s _ _ e⟩
theorem KeepLT.trans {H H' H'' : Hp} (k : KeepLT H H') (l : KeepLT H' H'') : KeepLT H H'' := fun c xs => ⟨fun e => (l c xs).1 ((k c xs).1 e), fun e => (l c xs).2 ((k c xs).2 e)⟩
theorem mV_val {ps : List Nat} {m : Nat → Nat} {p : Nat} (h : p ∈ ps) : valV (mV ps m) (ky p) = some (.int (m p : Int)) := dV_val h
def spExactD (n : Nat) : Sp := fun vs H Q _ => ∃ (x y : V) (d : PyData), vs = [x, y] ∧ TD H n x d ∧ TD H n y d ∧ ∀ H', Same H H' → Q (.bl true) H'
section
variable {P : Program} {w : World} {K : PySem.W.Frag} {mg : Str → Option Value} {base : Heap} {f : Addr} {fd : FuncData}
theorem ok_exact (F : FnP K "_law_exact" s_exact f fd) (Z : FreeS mg) (gE : mg "_law_exact" = some (.ref f)) : ∀ n : Nat, FnOk P w K mg base CX0 (n + 1) f fd ["_law_mine", "_law_theirs"] (spExactD n) := by
  have bE : Binds K fd ["_law_mine", "_law_theirs"] [] := F.bindsN fun _ _ _ _ _ _ us hl => match us, hl with | [_, _], _ => rfl
  have kitF : ∀ {t : String}, kitB t "list" = some false → kitB t "tuple" = some false → PySem.W.kitAny K (.type t) [.type "list", .type "tuple"] = some false := fun h1 h2 =>
    kitAny_cons (kit_ty h1) (fun _ => kitAny_cons (kit_ty h2) (fun _ => kitAny_nil) (fun z => nomatch z)) (fun z => nomatch z)
  have la : kitB "list" "list" = some true := by decide +kernel
  have lt : kitB "list" "tuple" = some false := by decide +kernel
  have ta : kitB "tuple" "tuple" = some true := by decide +kernel
  have tl : kitB "tuple" "list" = some false := by decide +kernel
  intro n
  induction n with
  | zero =>
    refine F.ok sc_exact (fun vs H Q E h => ?_) (fun cdv A outer s H vs Q E hr h => ?_)
    · obtain ⟨x, y, d, rfl, _⟩ := h
      rfl
    · obtain ⟨x, y, d, rfl, hx, hy, k⟩ := h
      have hx : FlatD x d := hx
      obtain rfl : y = x := FlatD.eq hy hx
      have nd := sc_exact.nd
      refine ⟨_, PSs.nox (pss_cons (ps_if (pt_val (pe_callB call_isiT (by rfl) Z.isi (by decide +kernel) (pa_cons (pv 0) (pa_cons (pe_tup (pa_cons (pe_bltn (v := .ty "list") (by rfl) Z.tlist (by decide +kernel) rfl) (pa_cons (pe_bltn (v := .ty "tuple") (by rfl) Z.ttuple (by decide +kernel) rfl) (pa_nil)))) pa_nil)))) (pss_cons ps_dead (pss_one ps_dead)) (pss_nil))
      (pss_cons (ps_if (pt_val (pe_callB call_isi (by rfl) Z.isi (by decide +kernel) (pa_cons (pv 0) (pa_cons (pe_bltn (v := .ty "dict") (by rfl) Z.tdict (by decide +kernel) rfl) pa_nil)))) (pss_cons ps_dead (pss_one ps_dead)) (pss_nil))
      (pss_cons (ps_set (i := 2) nd rfl (Or.inl rfl) (pe_cmpR op_eq (pe_callB call_isi (by rfl) Z.isi (by decide +kernel) (pa_cons (pv 0) (pa_cons (pe_bltn (v := .ty "int") (by rfl) Z.int (by decide +kernel) rfl) pa_nil))) (pe_callB call_isi (by rfl) Z.isi (by decide +kernel) (pa_cons (pv 1) (pa_cons (pe_bltn (v := .ty "int") (by rfl) Z.int (by decide +kernel) rfl) pa_nil))) (nomark _)))
      (pss_one (ps_ret (pe_and (pv 2) (pe_and (pe_cmpR op_eq (pe_callB call_isi (by rfl) Z.isi (by decide +kernel) (pa_cons (pv 0) (pa_cons (pe_bltn (v := .ty "bool") (by rfl) Z.tbool (by decide +kernel) rfl) pa_nil))) (pe_callB call_isi (by rfl) Z.isi (by decide +kernel) (pa_cons (pv 1) (pa_cons (pe_bltn (v := .ty "bool") (by rfl) Z.tbool (by decide +kernel) rfl) pa_nil))) (nomark _)) (pe_one (pe_cmpR op_eq (pv 0) (pv 1) (nomark _)))))))))), ?_⟩
      refine ⟨_, rfl, (by show 2 ≤ sizeLine; decide), fun T hT => ?_⟩
      have s1 : Same H (upd H T (.tup [.ty "list", .ty "tuple"])) := Same.updf hT
      obtain ⟨t', ty', k1', k2', k3', i', b', k4', k5'⟩ := FlatD.ty (K := K) (H := upd H T (.tup [.ty "list", .ty "tuple"])) hx
      refine ⟨y, T, [.ty "list", .ty "tuple"], .type t', [.type "list", .type "tuple"], false, rfl, upd_same, .cons (.ty _) (.cons (.ty _) .nil), ty', kitF k1' k2', false, rfl, iteF ?_⟩
      refine ⟨_, rfl, y, .ty "dict", .type t', .type "dict", false, rfl, .ty _, ty', kit_ty k3', false, rfl, iteF ?_⟩
      refine ⟨_, rfl, y, .ty "int", .type t', .type "int", i', rfl, .ty _, ty', kit_ty k4', _, rfl, y, .ty "int", .type t', .type "int", i', rfl, .ty _, ty', kit_ty k4', rfl, ?_⟩
      rw [decide_eq_true (rfl : V.bl i' = V.bl i')]
      refine ⟨_, rfl, true, rfl, iteT ?_⟩
      refine ⟨_, rfl, y, .ty "bool", .type t', .type "bool", b', rfl, .ty _, ty', kit_ty k5', _, rfl, y, .ty "bool", .type t', .type "bool", b', rfl, .ty _, ty', kit_ty k5', rfl, ?_⟩
      rw [decide_eq_true (rfl : V.bl b' = V.bl b')]
      refine ⟨true, rfl, iteT ?_⟩
      refine ⟨_, rfl, _, rfl, FlatD.scal hx, ?_⟩
      rw [decide_eq_true (rfl : y = y)]
      exact k _ s1
  | succ n ih =>
    refine F.ok sc_exact (fun vs H Q E h => ?_) (fun cdv A outer s H vs Q E hr h => ?_)
    · obtain ⟨x, y, d, rfl, _⟩ := h
      rfl
    · obtain ⟨x, y, d, rfl, hx, hy, k⟩ := h
      have hu : (A.deeper (envOfC "_law_exact" (defScope s_exact) s.heap.objs.size f cdv)).units + 1 < cLine := by
        have := hr.units
        omega
      have nd := sc_exact.nd
      refine ⟨_, PSs.nox (pss_cons (ps_if (pt_val (pe_callB call_isiT (by rfl) Z.isi (by decide +kernel) (pa_cons (pv 0) (pa_cons (pe_tup (pa_cons (pe_bltn (v := .ty "list") (by rfl) Z.tlist (by decide +kernel) rfl) (pa_cons (pe_bltn (v := .ty "tuple") (by rfl) Z.ttuple (by decide +kernel) rfl) (pa_nil)))) pa_nil)))) (pss_cons (ps_set (i := 2) nd rfl (Or.inl rfl) (pe_and (pe_cmpR op_eq (pe_callB call_isi (by rfl) Z.isi (by decide +kernel) (pa_cons (pv 1) (pa_cons (pe_bltn (v := .ty "list") (by rfl) Z.tlist (by decide +kernel) rfl) pa_nil))) (pe_callB call_isi (by rfl) Z.isi (by decide +kernel) (pa_cons (pv 0) (pa_cons (pe_bltn (v := .ty "list") (by rfl) Z.tlist (by decide +kernel) rfl) pa_nil))) (nomark _)) (pe_one (pe_cmpR op_eq (pe_callB call_isi (by rfl) Z.isi (by decide +kernel) (pa_cons (pv 1) (pa_cons (pe_bltn (v := .ty "tuple") (by rfl) Z.ttuple (by decide +kernel) rfl) pa_nil))) (pe_callB call_isi (by rfl) Z.isi (by decide +kernel) (pa_cons (pv 0) (pa_cons (pe_bltn (v := .ty "tuple") (by rfl) Z.ttuple (by decide +kernel) rfl) pa_nil))) (nomark _)))))
      (pss_one (ps_ret (pe_and (pv 2) (pe_and (pe_cmpR op_eq (pe_callB call_len_seq (by rfl) Z.len (by decide +kernel) (pa_cons (pv 0) (pa_nil))) (pe_callB call_len_seq (by rfl) Z.len (by decide +kernel) (pa_cons (pv 1) (pa_nil))) (nomark _)) (pe_one (pe_callB (cr_all rfl) (by rfl) Z.all (by decide +kernel) (pa_cons (pe_lc (own := [("_law_a", 3), ("_law_b", 4)]) (g := gTup K 2 (gCons (gName 3) (gCons (gName 4) (gNil)))) (tt := tYes) (te := tCall (spExactD n) [] E0 (tCons (tVar 3) (tCons (tVar 4) tNil))) (by rfl) nd (pi_zipA (by rfl) Z.zip (pa_cons (pv 0) (pa_cons (pv 1) pa_nil)))
          (blkOk_by (own := [("_law_a", 3), ("_law_b", 4)]) (N := N_exact) (sc := defScope s_exact) (by decide +kernel)) (fun _ _ _ _ _ => pg_tup rfl (pgs_cons (pg_name (i := 3) nd rfl (Or.inl rfl)) (pgs_cons (pg_name (i := 4) nd rfl (Or.inl rfl)) (pgs_nil)))) (fun _ _ _ _ _ => pts_nil)
          (fun _ _ _ _ _ => pe_call ih hr rfl gE F.kp bE .nil pass0 (pa_cons (pv 3) (pa_cons (pv 4) pa_nil)))) (pa_nil))))))))) (pss_nil))
      (pss_cons (ps_if (pt_val (pe_callB call_isi (by rfl) Z.isi (by decide +kernel) (pa_cons (pv 0) (pa_cons (pe_bltn (v := .ty "dict") (by rfl) Z.tdict (by decide +kernel) rfl) pa_nil)))) (pss_cons (ps_set (i := 2) nd rfl (Or.inl rfl) (pe_and (pe_callB call_isi (by rfl) Z.isi (by decide +kernel) (pa_cons (pv 1) (pa_cons (pe_bltn (v := .ty "dict") (by rfl) Z.tdict (by decide +kernel) rfl) pa_nil))) (pe_one (pe_call ih hr rfl gE F.kp bE .nil pass0 (pa_cons (pe_callTy (call_list_dK rfl) (by rfl) Z.tlist (by decide +kernel) (pa_cons (pv 0) pa_nil)) (pa_cons (pe_callTy (call_list_dK rfl) (by rfl) Z.tlist (by decide +kernel) (pa_cons (pv 1) pa_nil)) pa_nil))))))
      (pss_one (ps_ret (pe_and (pv 2) (pe_one (pe_callB (cr_all rfl) (by rfl) Z.all (by decide +kernel) (pa_cons (pe_lock (pe_lc (own := [("_law_key", 5)]) (g := gName 5) (tt := tYes) (te := tCall (spExactD n) [] E0 (tCons (tDGet (tVar 0) (tVar 5)) (tCons (tDGet (tVar 1) (tVar 5)) tNil))) (by rfl) nd (pi_keys (pv 0))
          (blkOk_by (own := [("_law_key", 5)]) (N := N_exact) (sc := defScope s_exact) (by decide +kernel)) (fun _ _ _ _ _ => pg_name (i := 5) nd rfl (Or.inl rfl)) (fun _ _ _ _ _ => pts_nil)
          (fun _ _ _ _ _ => pe_call ih hr rfl gE F.kp bE .nil pass0 (pa_cons (pe_dget hu (pv 0) (pv 5) (fun _ _ => rfl)) (pa_cons (pe_dget hu (pv 1) (pv 5) (fun _ _ => rfl)) pa_nil))))) (pa_nil)))))))) (pss_nil))
      (pss_cons (ps_set (i := 2) nd rfl (Or.inl rfl) (pe_cmpR op_eq (pe_callB call_isi (by rfl) Z.isi (by decide +kernel) (pa_cons (pv 0) (pa_cons (pe_bltn (v := .ty "int") (by rfl) Z.int (by decide +kernel) rfl) pa_nil))) (pe_callB call_isi (by rfl) Z.isi (by decide +kernel) (pa_cons (pv 1) (pa_cons (pe_bltn (v := .ty "int") (by rfl) Z.int (by decide +kernel) rfl) pa_nil))) (nomark _)))
      (pss_one (ps_ret (pe_and (pv 2) (pe_and (pe_cmpR op_eq (pe_callB call_isi (by rfl) Z.isi (by decide +kernel) (pa_cons (pv 0) (pa_cons (pe_bltn (v := .ty "bool") (by rfl) Z.tbool (by decide +kernel) rfl) pa_nil))) (pe_callB call_isi (by rfl) Z.isi (by decide +kernel) (pa_cons (pv 1) (pa_cons (pe_bltn (v := .ty "bool") (by rfl) Z.tbool (by decide +kernel) rfl) pa_nil))) (nomark _)) (pe_one (pe_cmpR op_eq (pv 0) (pv 1) (nomark _)))))))))), ?_⟩
      rcases hx with hx | ⟨a, xs, ds, rfl, lx, l1, tx, kx⟩ | ⟨a, ps, fv, g, rfl, n1, ha, rfl, kf⟩
      · have hy : FlatD y d := by
          rcases hy with hy | ⟨b, ys, es, rfl, ly, l2, ty, ky⟩ | ⟨b, qs, fv', g', rfl, _, hb, rfl, kf'⟩
          · exact hy
          · rcases ty with ⟨_, rfl⟩ | ⟨_, rfl⟩
            · exact (FlatD.noL hx).elim
            · exact (FlatD.noT hx).elim
          · cases hx
        obtain rfl : y = x := FlatD.eq hy hx
        refine ⟨_, rfl, (by show 2 ≤ sizeLine; decide), fun T hT => ?_⟩
        have s1 : Same H (upd H T (.tup [.ty "list", .ty "tuple"])) := Same.updf hT
        obtain ⟨t', ty', k1', k2', k3', i', b', k4', k5'⟩ := FlatD.ty (K := K) (H := upd H T (.tup [.ty "list", .ty "tuple"])) hx
        refine ⟨y, T, [.ty "list", .ty "tuple"], .type t', [.type "list", .type "tuple"], false, rfl, upd_same, .cons (.ty _) (.cons (.ty _) .nil), ty', kitF k1' k2', false, rfl, iteF ?_⟩
        refine ⟨_, rfl, y, .ty "dict", .type t', .type "dict", false, rfl, .ty _, ty', kit_ty k3', false, rfl, iteF ?_⟩
        refine ⟨_, rfl, y, .ty "int", .type t', .type "int", i', rfl, .ty _, ty', kit_ty k4', _, rfl, y, .ty "int", .type t', .type "int", i', rfl, .ty _, ty', kit_ty k4', rfl, ?_⟩
        rw [decide_eq_true (rfl : V.bl i' = V.bl i')]
        refine ⟨_, rfl, true, rfl, iteT ?_⟩
        refine ⟨_, rfl, y, .ty "bool", .type t', .type "bool", b', rfl, .ty _, ty', kit_ty k5', _, rfl, y, .ty "bool", .type t', .type "bool", b', rfl, .ty _, ty', kit_ty k5', rfl, ?_⟩
        rw [decide_eq_true (rfl : V.bl b' = V.bl b')]
        refine ⟨true, rfl, iteT ?_⟩
        refine ⟨_, rfl, _, rfl, FlatD.scal hx, ?_⟩
        rw [decide_eq_true (rfl : y = y)]
        exact k _ s1
      · rcases hy with hy | ⟨b, ys, es, rfl, ly, l2, ty, ky⟩ | ⟨b, qs, fv', g', rfl, _, hb, e, kf'⟩
        · rcases tx with ⟨_, rfl⟩ | ⟨_, rfl⟩
          · exact (FlatD.noL hy).elim
          · exact (FlatD.noT hy).elim
        rotate_left
        · rcases tx with ⟨_, rfl⟩ | ⟨_, rfl⟩ <;> cases e
        refine ⟨_, rfl, (by show 2 ≤ sizeLine; decide), fun T hT => ?_⟩
        have s1 : Same H (upd H T (.tup [.ty "list", .ty "tuple"])) := Same.updf hT
        have ll : (1000 : Nat) ≤ 100000 := by decide
        have fin : ∀ (H2 : Hp), Same H H2 → ∀ (D : Addr), H2 D = some (.lst ((List.range xs.length).filterMap fun _ => some (V.bl true))) → ∃ (a : Addr) (bs : List Bool), [V.ref D] = [V.ref a] ∧ SqL K H2 a (bs.map V.bl) ∧ Q (.bl (bs.all id)) H2 := fun H2 s2 D hR => by
          obtain ⟨bs, hB, hb'⟩ := all_bits (K := K) hR
          refine ⟨D, bs, rfl, hB, ?_⟩
          rw [hb']
          exact k H2 s2
        rcases tx with ⟨ha, rfl⟩ | ⟨ha, rfl⟩
        · rcases ty with ⟨hb, e⟩ | ⟨hb, e⟩
          · cases e
            have ha1 := s1 _ _ ha
            have hb1 := s1 _ _ hb
            refine ⟨.ref a, T, [.ty "list", .ty "tuple"], .type "list", [.type "list", .type "tuple"], true, rfl, upd_same, .cons (.ty _) (.cons (.ty _) .nil), .base (.lst ha1), kitAny_cons (kit_ty la) (fun z => nomatch z) (fun _ => rfl), true, rfl, iteT ?_⟩
            refine ⟨_, rfl, .ref b, .ty "list", .type "list", .type "list", true, rfl, .ty _, .base (.lst hb1), kit_ty la, _, rfl, .ref a, .ty "list", .type "list", .type "list", true, rfl, .ty _, .base (.lst ha1), kit_ty la, rfl, true, rfl, iteT ?_⟩
            refine ⟨_, rfl, .ref b, .ty "tuple", .type "list", .type "tuple", false, rfl, .ty _, .base (.lst hb1), kit_ty lt, _, rfl, .ref a, .ty "tuple", .type "list", .type "tuple", false, rfl, .ty _, .base (.lst ha1), kit_ty lt, rfl, ?_⟩
            refine ⟨_, rfl, true, rfl, iteT ?_⟩
            refine ⟨_, rfl, a, xs, rfl, Or.inl (SqL.of ha1), _, rfl, b, ys, rfl, Or.inl (SqL.of hb1), rfl, ?_⟩
            rw [decide_eq_true (show V.int (xs.length : Int) = V.int (ys.length : Int) by rw [lx, ly])]
            refine ⟨true, rfl, iteT ?_⟩
            refine ⟨_, rfl, _, rfl, a, b, xs, ys, rfl, Or.inl ⟨SqL.of ha1, SqL.of hb1, fun D hD => ?_⟩⟩
            refine lc_sel (n := xs.length) (walk_zip (K := K) (a := a) (b := b) (xs := xs) (ys := ys) (by omega)) (fun _ => some (.bl true)) (by omega) hD (fun H2 s2 => ⟨SqL.of (s2 _ _ ha1), SqL.of (s2 _ _ hb1)⟩) ?_ ?_
            · rintro i v H2 H3 Qy Qn hi sH ⟨T2, x1, x2, rfl, nT, rfl, g1, g2⟩ ky' kn
              dsimp only at g1 g2
              refine ⟨T2, [_, _], rfl, .inl (.inl upd_same), rfl, _, [_], rfl, _, [], rfl, rfl, ?_⟩
              have sT : Same H2 (upd H2 T2 (.tup [x1, x2])) := Same.updf nT
              have gd : ds[i]? = some (ds[i]'(by omega)) := List.getElem?_eq_getElem _
              exact ⟨rfl, _, rfl, _, rfl, x1, x2, _, rfl, (kx i x1 _ g1 gd).same (s1.trans (sH.trans sT)), (ky i x2 _ g2 gd).same (s1.trans (sH.trans sT)), fun H5 s5 => ky' _ _ (sT.trans s5) rfl⟩
            · intro H2 s2 hR
              exact fin H2 (s1.trans s2) D hR
          · cases e
        · rcases ty with ⟨hb, e⟩ | ⟨hb, e⟩
          · cases e
          · cases e
            have ha1 := s1 _ _ ha
            have hb1 := s1 _ _ hb
            refine ⟨.ref a, T, [.ty "list", .ty "tuple"], .type "tuple", [.type "list", .type "tuple"], true, rfl, upd_same, .cons (.ty _) (.cons (.ty _) .nil), .base (.tup ha1), kitAny_cons (kit_ty tl) (fun _ => kitAny_cons (kit_ty ta) (fun z => nomatch z) (fun _ => rfl)) (fun z => nomatch z), true, rfl, iteT ?_⟩
            refine ⟨_, rfl, .ref b, .ty "list", .type "tuple", .type "list", false, rfl, .ty _, .base (.tup hb1), kit_ty tl, _, rfl, .ref a, .ty "list", .type "tuple", .type "list", false, rfl, .ty _, .base (.tup ha1), kit_ty tl, rfl, true, rfl, iteT ?_⟩
            refine ⟨_, rfl, .ref b, .ty "tuple", .type "tuple", .type "tuple", true, rfl, .ty _, .base (.tup hb1), kit_ty ta, _, rfl, .ref a, .ty "tuple", .type "tuple", .type "tuple", true, rfl, .ty _, .base (.tup ha1), kit_ty ta, rfl, ?_⟩
            refine ⟨_, rfl, true, rfl, iteT ?_⟩
            refine ⟨_, rfl, a, xs, rfl, Or.inr (Or.inl (.inl ha1)), _, rfl, b, ys, rfl, Or.inr (Or.inl (.inl hb1)), rfl, ?_⟩
            rw [decide_eq_true (show V.int (xs.length : Int) = V.int (ys.length : Int) by rw [lx, ly])]
            refine ⟨true, rfl, iteT ?_⟩
            refine ⟨_, rfl, _, rfl, a, b, xs, ys, rfl, Or.inr ⟨SqT.of ha1, SqT.of hb1, fun D hD => ?_⟩⟩
            refine lc_sel (n := xs.length) (walk_zipT (K := K) (a := a) (b := b) (xs := xs) (ys := ys) (by omega)) (fun _ => some (.bl true)) (by omega) hD (fun H2 s2 => ⟨SqT.of (s2 _ _ ha1), SqT.of (s2 _ _ hb1)⟩) ?_ ?_
            · rintro i v H2 H3 Qy Qn hi sH ⟨T2, x1, x2, rfl, nT, rfl, g1, g2⟩ ky' kn
              dsimp only at g1 g2
              refine ⟨T2, [_, _], rfl, .inl (.inl upd_same), rfl, _, [_], rfl, _, [], rfl, rfl, ?_⟩
              have sT : Same H2 (upd H2 T2 (.tup [x1, x2])) := Same.updf nT
              have gd : ds[i]? = some (ds[i]'(by omega)) := List.getElem?_eq_getElem _
              exact ⟨rfl, _, rfl, _, rfl, x1, x2, _, rfl, (kx i x1 _ g1 gd).same (s1.trans (sH.trans sT)), (ky i x2 _ g2 gd).same (s1.trans (sH.trans sT)), fun H5 s5 => ky' _ _ (sT.trans s5) rfl⟩
            · intro H2 s2 hR
              exact fin H2 (s1.trans s2) D hR
      · rcases hy with hy | ⟨b, ys, es, rfl, ly, l2, ty, ky⟩ | ⟨b, qs, fv', g', rfl, _, hb, e, kf'⟩
        · cases hy
        · rcases ty with ⟨_, e⟩ | ⟨_, e⟩ <;> cases e
        obtain ⟨rfl, em⟩ := dict_inj (PyData.dict.inj e)
        refine ⟨_, rfl, (by show 2 ≤ sizeLine; decide), fun T hT => ?_⟩
        have s1 : Same H (upd H T (.tup [.ty "list", .ty "tuple"])) := Same.updf hT
        have ha1 := s1 _ _ ha
        have hb1 := s1 _ _ hb
        have dl : kitB "dict" "list" = some false := by decide +kernel
        have dt : kitB "dict" "tuple" = some false := by decide +kernel
        refine ⟨.ref a, T, [.ty "list", .ty "tuple"], .type "dict", [.type "list", .type "tuple"], false, rfl, upd_same, .cons (.ty _) (.cons (.ty _) .nil), .base (.dK ha1), kitF dl dt, false, rfl, iteF ?_⟩
        refine ⟨_, rfl, .ref a, .ty "dict", .type "dict", .type "dict", true, rfl, .ty _, .base (.dK ha1), kit_ty (by decide +kernel), true, rfl, iteT ?_⟩
        refine ⟨_, rfl, .ref b, .ty "dict", .type "dict", .type "dict", true, rfl, .ty _, .base (.dK hb1), kit_ty (by decide +kernel), true, rfl, iteT ?_⟩
        have kl : ∀ f : Nat → V, ((dV ps f).map fun kv => kV kv.1) = numsV ps := fun f => by
          unfold dV numsV
          rw [List.map_map]
          rfl
        refine ⟨_, rfl, a, _, rfl, ha1, fun l1 hl1 => ?_⟩
        rw [kl]
        have s2 := Same.updf (o := .lst (numsV ps)) hl1
        refine ⟨_, rfl, b, _, rfl, s2 _ _ hb1, fun l2 hl2 => ?_⟩
        rw [kl]
        have s3 := Same.updf (o := .lst (numsV ps)) hl2
        have tdl : ∀ (G : Hp) (l : Addr), G l = some (.lst (numsV ps)) → TD G n (.ref l) (.list (ps.map fun p : Nat => .int (p : Int))) := fun G l e => by
          obtain ⟨n', rfl⟩ : ∃ n', n = n' + 1 := ⟨n - 1, by omega⟩
          refine TD.lst e (by unfold numsV; rw [List.length_map, List.length_map]) (by rw [List.length_map]; exact n1.2) fun i u v e1 e2 => ?_
          unfold numsV at e1
          rw [List.getElem?_map] at e1 e2
          obtain ⟨p, q1, rfl⟩ := Option.map_eq_some_iff.mp e1
          rw [q1] at e2
          cases e2
          exact TD.flat (.int _)
        refine ⟨.ref l1, .ref l2, _, rfl, tdl _ _ (s3 _ _ upd_same), tdl _ _ upd_same, fun G s4 => ?_⟩
        have s14 := s1.trans ((s2.trans s3).trans s4)
        have haG := s14 _ _ ha
        have hbG := s14 _ _ hb
        refine ⟨_, rfl, true, rfl, iteT ?_⟩
        refine ⟨a, _, haG, trivial, fun od => ?_⟩
        refine ⟨_, rfl, a, od, rfl, .inl ⟨_, upd_same, fun D hD => ?_⟩⟩
        have nDa : D ≠ a := fun z => by
          rw [z, upd_same] at hD
          cases hD
        have hDG : G D = none := by
          rw [upd_ne nDa] at hD
          exact hD
        refine lc_sel (n := ps.length) (by have := walk_keys (d := a) (o := od) (kvs := dV ps fv); rw [dV_len] at this; exact this) (fun _ => some (.bl true)) (by have := n1.2; omega) hD (fun H2 q2 => q2 _ _ upd_same) ?_ ?_
        · rintro i v H2 H3 Qy Qn hi sH ⟨rfl, k', v', ek, rfl⟩ ky' kn
          have ei : (dV ps fv)[i]? = some (ky ps[i], fv ps[i]) := by
            unfold dV
            rw [List.getElem?_map, List.getElem?_eq_getElem hi]
            rfl
          rw [ei] at ek
          cases ek
          have mp := List.getElem_mem hi
          have fa := sH _ _ upd_same
          have da : DGet H3 a (.int (ps[i] : Int)) (some (fv ps[i])) := .inl ⟨_, ky ps[i], .inr ⟨od, fa⟩, rfl, (dV_val mp).symm⟩
          have kG : KeepLT H (upd G a (.frz od (.dK (dV ps fv)))) := (Same.keep s14).trans (keep_dict haG)
          have k3 : KeepLT H H3 := kG.trans (Same.keep sH)
          have db : ∃ y, DGet H3 b (.int (ps[i] : Int)) (some y) ∧ Tr H n y (g' ps[i]) := by
            by_cases z : b = a
            · subst z
              exact ⟨_, da, by rw [← em _ mp]; exact kf _ mp⟩
            · exact ⟨fv' ps[i], .inl ⟨_, ky ps[i], .inl (sH _ _ (by rw [upd_ne z]; exact hbG)), rfl, (dV_val mp).symm⟩, kf' _ mp⟩
          obtain ⟨y, db, ty⟩ := db
          refine ⟨rfl, _, rfl, _, rfl, a, _, rfl, da, _, rfl, _, rfl, b, _, rfl, db, ?_⟩
          rw [← em _ mp] at ty
          exact ⟨_, _, _, rfl, TD.of (Tr.keep k3 (kf _ mp)), TD.of (Tr.keep k3 ty), fun H5 s5 => ky' _ _ s5 rfl⟩
        · intro H2 q2 hR
          refine ⟨q2 _ _ upd_same, ?_⟩
          obtain ⟨bs, hB, hb'⟩ := all_bits (K := K) hR
          have hR2 : (upd H2 a (.dK (dV ps fv))) D = some (.lst ((List.range ps.length).filterMap fun _ => some (V.bl true))) := by
            rw [upd_ne nDa]
            exact hR
          obtain ⟨bs, hB, hb'⟩ := all_bits (K := K) hR2
          refine ⟨D, bs, rfl, hB, ?_⟩
          rw [hb']
          refine k _ fun c o e => ?_
          by_cases z : c = a
          · rw [z, ha] at e
            cases e
            rw [z, upd_same]
          · rw [upd_ne z]
            exact q2 _ _ (by rw [upd_ne z]; exact s14 _ _ e)
end
end K33
set_option Elab.async false
set_option linter.all false
set_option maxRecDepth 100000
set_option maxHeartbeats 8000000
namespace K33
open PySem PySem.Spec PyProof.Rows L2 KB
theorem pe_dead {X : Cx} {e : Expr} : PE X e (fun _ _ _ => False) := ⟨fun _ _ _ _ _ _ h => h.elim⟩
/-- what is new in H' -/
def nw (H H' : Hp) : Hp := fun b => match H b with
  | none => H' b
  | some _ => none
theorem nw_at {H H' : Hp} {b : Addr} (h : H b = none) : nw H H' b = H' b := by
  unfold nw
  rw [h]
theorem nw_le (H H' : Hp) : Same (nw H H') H' := fun b o e => by
  unfold nw at e
  split at e
  · exact e
  · cases e
theorem nw_none {H H' : Hp} {b : Addr} {o : HO} (h : nw H H' b = some o) : H b = none := by
  unfold nw at h
  split at h
  · assumption
  · cases h
theorem nw_same {H G G2 : Hp} (k : Same G G2) : Same (nw H G) (nw H G2) := fun b o e => by
  rw [nw_at (nw_none e)]
  exact k _ _ (nw_le _ _ _ _ e)
theorem nw_sub {H G G2 : Hp} (k : Same H G) : Same (nw G G2) (nw H G2) := fun b o e => by
  rw [nw_at (none_back k (nw_none e))]
  exact nw_le _ _ _ _ e
def spSame (n : Nat) : Sp := fun vs H Q _ => ∃ (x : V) (d : PyData), vs = [x] ∧ Tr H n x d ∧ ∀ y H', Same H H' → Tr (nw H H') n y d → Q y H'
abbrev s_same : Stmt := top 50
abbrev N_same : List Str := ["_law_thing", "_law_item", "_law_key"]
theorem sc_same : FnScope N_same ["_law_thing"] (defScope s_same) := ⟨rfl, rfl, rfl, by decide +kernel, rfl, by decide +kernel, by decide +kernel⟩
section
variable {P : Program} {w : World} {K : PySem.W.Frag} {mg : Str → Option Value} {base : Heap} {f : Addr} {fd : FuncData}
theorem ok_same (F : FnP K "_law_same" s_same f fd) (Z : FreeS mg) (gS : mg "_law_same" = some (.ref f)) : ∀ n : Nat, FnOk P w K mg base CX0 (n + 1) f fd ["_law_thing"] (spSame n) := by
  have bS : Binds K fd ["_law_thing"] [] := F.bindsN fun _ _ _ _ _ _ us hl => match us, hl with | [_], _ => rfl
  intro n
  induction n with
  | zero =>
    refine F.ok sc_same (fun vs H Q E h => ?_) (fun cdv A outer s H vs Q E hr h => ?_)
    · obtain ⟨x, d, rfl, _⟩ := h
      rfl
    · obtain ⟨x, d, rfl, hx, k⟩ := h
      have hx : FlatD x d := hx
      have nd := sc_same.nd
      refine ⟨_, PSs.nox (pss_cons (ps_if (pt_val (pe_callB call_isi (by rfl) Z.isi (by decide +kernel) (pa_cons (pv 0) (pa_cons (pe_bltn (v := .ty "dict") (by rfl) Z.tdict (by decide +kernel) rfl) pa_nil)))) (pss_one ps_dead) (pss_nil))
      (pss_cons (ps_if (pt_val (pe_callB call_isi (by rfl) Z.isi (by decide +kernel) (pa_cons (pv 0) (pa_cons (pe_bltn (v := .ty "list") (by rfl) Z.tlist (by decide +kernel) rfl) pa_nil)))) (pss_one ps_dead) (pss_nil))
      (pss_one (ps_ret (pe_ifExp (pt_val (pe_callB call_isi (by rfl) Z.isi (by decide +kernel) (pa_cons (pv 0) (pa_cons (pe_bltn (v := .ty "tuple") (by rfl) Z.ttuple (by decide +kernel) rfl) pa_nil)))) (pe_dead) (pv 0)))))), ?_⟩
      obtain ⟨t', ty', k1', k2', k3', i', b', k4', k5'⟩ := FlatD.ty (K := K) (H := H) hx
      refine ⟨_, rfl, x, .ty "dict", .type t', .type "dict", false, rfl, .ty _, ty', kit_ty k3', false, rfl, iteF ?_⟩
      refine ⟨_, rfl, x, .ty "list", .type t', .type "list", false, rfl, .ty _, ty', kit_ty k1', false, rfl, iteF ?_⟩
      refine ⟨_, rfl, x, .ty "tuple", .type t', .type "tuple", false, rfl, .ty _, ty', kit_ty k2', false, rfl, iteF ?_⟩
      exact ⟨_, rfl, k x H (Same.refl H) (Tr.flat hx)⟩
  | succ n ih =>
    refine F.ok sc_same (fun vs H Q E h => ?_) (fun cdv A outer s H vs Q E hr h => ?_)
    · obtain ⟨x, d, rfl, _⟩ := h
      rfl
    · obtain ⟨x, d, rfl, hx, k⟩ := h
      have nd := sc_same.nd
      have sl : (2000 : Nat) ≤ sizeLine := by decide
      refine ⟨_, PSs.nox (pss_cons (ps_if (pt_val (pe_callB call_isi (by rfl) Z.isi (by decide +kernel) (pa_cons (pv 0) (pa_cons (pe_bltn (v := .ty "dict") (by rfl) Z.tdict (by decide +kernel) rfl) pa_nil)))) (pss_one ps_dead) (pss_nil))
      (pss_cons (ps_if (pt_val (pe_callB call_isi (by rfl) Z.isi (by decide +kernel) (pa_cons (pv 0) (pa_cons (pe_bltn (v := .ty "list") (by rfl) Z.tlist (by decide +kernel) rfl) pa_nil)))) (pss_one (ps_ret (pe_lc (own := [("_law_item", 1)]) (g := gName 1) (tt := tYes) (te := tCall (spSame n) [] E0 (tCons (tVar 1) tNil)) (by rfl) nd (pi_list (pv 0))
          (blkOk_by (own := [("_law_item", 1)]) (N := N_same) (sc := defScope s_same) (by decide +kernel)) (fun _ _ _ _ _ => pg_name (i := 1) nd rfl (Or.inl rfl)) (fun _ _ _ _ _ => pts_nil)
          (fun _ _ _ _ _ => pe_call ih hr rfl gS F.kp bS .nil pass0 (pa_cons (pv 1) pa_nil))))) (pss_nil))
      (pss_one (ps_ret (pe_ifExp (pt_val (pe_callB call_isi (by rfl) Z.isi (by decide +kernel) (pa_cons (pv 0) (pa_cons (pe_bltn (v := .ty "tuple") (by rfl) Z.ttuple (by decide +kernel) rfl) pa_nil)))) (pe_callTy call_tuple_of (by rfl) Z.ttuple (by decide +kernel) (pa_cons (pe_lc (own := [("_law_item", 1)]) (g := gName 1) (tt := tYes) (te := tCall (spSame n) [] E0 (tCons (tVar 1) tNil)) (by rfl) nd (pi_tup (pv 0))
          (blkOk_by (own := [("_law_item", 1)]) (N := N_same) (sc := defScope s_same) (by decide +kernel)) (fun _ _ _ _ _ => pg_name (i := 1) nd rfl (Or.inl rfl)) (fun _ _ _ _ _ => pts_nil)
          (fun _ _ _ _ _ => pe_call ih hr rfl gS F.kp bS .nil pass0 (pa_cons (pv 1) pa_nil))) pa_nil)) (pv 0)))))), ?_⟩
      rcases hx with hx | ⟨a, xs, ds, rfl, lx, l1, tx, kx⟩
      · skip
        obtain ⟨t', ty', k1', k2', k3', i', b', k4', k5'⟩ := FlatD.ty (K := K) (H := H) hx
        refine ⟨_, rfl, x, .ty "dict", .type t', .type "dict", false, rfl, .ty _, ty', kit_ty k3', false, rfl, iteF ?_⟩
        refine ⟨_, rfl, x, .ty "list", .type t', .type "list", false, rfl, .ty _, ty', kit_ty k1', false, rfl, iteF ?_⟩
        refine ⟨_, rfl, x, .ty "tuple", .type t', .type "tuple", false, rfl, .ty _, ty', kit_ty k2', false, rfl, iteF ?_⟩
        exact ⟨_, rfl, k x H (Same.refl H) (Tr.flat hx)⟩
      · rcases tx with ⟨ha, rfl⟩ | ⟨ha, rfl⟩
        · refine ⟨_, rfl, .ref a, .ty "dict", .type "list", .type "dict", false, rfl, .ty _, .base (.lst ha), kit_ty (by decide +kernel), false, rfl, iteF ?_⟩
          refine ⟨_, rfl, .ref a, .ty "list", .type "list", .type "list", true, rfl, .ty _, .base (.lst ha), kit_ty (by decide +kernel), true, rfl, iteT ?_⟩
          refine ⟨_, rfl, a, rfl, ⟨_, SqL.of ha⟩, fun D hD => ?_⟩
          refine lc_it (walk_list (K := K) (a := a) (xs := xs)) (fun i G => Same H G ∧ ∃ ys : List V, G D = some (.lst ys) ∧ ys.length = i ∧ ∀ (j : Nat) (u : V) (e : PyData), ys[j]? = some u → ds[j]? = some e → Tr (off (nw H G) D) n u e)
            ⟨Same.updf hD, [], upd_same, rfl, fun j u e h => by simp at h⟩ (fun i G _ hh => SqL.of (hh.1 _ _ ha)) ?_ ?_
          · rintro i v G G' hi ⟨sG, ys, hy, ly, ky'⟩ ⟨rfl, hv⟩
            have hd : ds[i]? = some ds[i] := List.getElem?_eq_getElem (by omega)
            refine ⟨rfl, _, rfl, v, _, rfl, (kx i v _ hv hd).same sG, fun y G2 s2 hy2 => ?_⟩
            refine ⟨ys, s2 _ _ hy, by omega, fun c o e => ?_, ys ++ [y], upd_same, by rw [List.length_append, ly]; rfl, fun j u e h1 h2 => ?_⟩
            · rw [upd_ne (ne_of_none e hD)]
              exact s2 _ _ (sG _ _ e)
            · have eo : off (nw H (upd G2 D (.lst (ys ++ [y])))) D = off (nw H G2) D := by
                funext c
                unfold off
                by_cases c1 : c = D
                · rw [if_pos c1, if_pos c1]
                · rw [if_neg c1, if_neg c1]
                  unfold nw
                  rw [upd_ne c1]
              rw [eo]
              by_cases hj : j < ys.length
              · rw [List.getElem?_append_left hj] at h1
                exact (ky' j u e h1 h2).same (off_same D (nw_same s2))
              · rw [List.getElem?_append_right (by omega)] at h1
                have hz : j - ys.length < 1 := by
                  have := (List.getElem?_eq_some_iff.mp h1).1
                  simpa using this
                have q1 := List.mem_of_getElem? h1
                rw [List.mem_singleton] at q1
                rw [show j = i by omega, hd] at h2
                rw [q1, ← Option.some.inj h2]
                refine hy2.same fun c o e => ?_
                have c1 : c ≠ D := fun z => by
                  have := nw_none e
                  rw [z, hy] at this
                  cases this
                rw [off_at c1]
                exact nw_sub sG _ _ e
          · rintro G ⟨sG, ys, hy, ly, ky'⟩
            refine k (.ref D) G sG ?_
            exact Tr.lst (by rw [nw_at hD]; exact hy) (by omega) l1 fun j u e h1 h2 => (ky' j u e h1 h2).same (off_le _ D)
        · refine ⟨_, rfl, .ref a, .ty "dict", .type "tuple", .type "dict", false, rfl, .ty _, .base (.tup ha), kit_ty (by decide +kernel), false, rfl, iteF ?_⟩
          refine ⟨_, rfl, .ref a, .ty "list", .type "tuple", .type "list", false, rfl, .ty _, .base (.tup ha), kit_ty (by decide +kernel), false, rfl, iteF ?_⟩
          refine ⟨_, rfl, .ref a, .ty "tuple", .type "tuple", .type "tuple", true, rfl, .ty _, .base (.tup ha), kit_ty (by decide +kernel), true, rfl, iteT ?_⟩
          refine ⟨_, rfl, a, rfl, ⟨_, SqT.of ha⟩, fun D hD => ?_⟩
          refine lc_it (walk_tup (K := K) (a := a) (xs := xs)) (fun i G => Same H G ∧ ∃ ys : List V, G D = some (.lst ys) ∧ ys.length = i ∧ ∀ (j : Nat) (u : V) (e : PyData), ys[j]? = some u → ds[j]? = some e → Tr (off (nw H G) D) n u e)
            ⟨Same.updf hD, [], upd_same, rfl, fun j u e h => by simp at h⟩ (fun i G _ hh => SqT.of (hh.1 _ _ ha)) ?_ ?_
          · rintro i v G G' hi ⟨sG, ys, hy, ly, ky'⟩ ⟨rfl, hv⟩
            have hd : ds[i]? = some ds[i] := List.getElem?_eq_getElem (by omega)
            refine ⟨rfl, _, rfl, v, _, rfl, (kx i v _ hv hd).same sG, fun y G2 s2 hy2 => ?_⟩
            refine ⟨ys, s2 _ _ hy, by omega, fun c o e => ?_, ys ++ [y], upd_same, by rw [List.length_append, ly]; rfl, fun j u e h1 h2 => ?_⟩
            · rw [upd_ne (ne_of_none e hD)]
              exact s2 _ _ (sG _ _ e)
            · have eo : off (nw H (upd G2 D (.lst (ys ++ [y])))) D = off (nw H G2) D := by
                funext c
                unfold off
                by_cases c1 : c = D
                · rw [if_pos c1, if_pos c1]
                · rw [if_neg c1, if_neg c1]
                  unfold nw
                  rw [upd_ne c1]
              rw [eo]
              by_cases hj : j < ys.length
              · rw [List.getElem?_append_left hj] at h1
                exact (ky' j u e h1 h2).same (off_same D (nw_same s2))
              · rw [List.getElem?_append_right (by omega)] at h1
                have hz : j - ys.length < 1 := by
                  have := (List.getElem?_eq_some_iff.mp h1).1
                  simpa using this
                have q1 := List.mem_of_getElem? h1
                rw [List.mem_singleton] at q1
                rw [show j = i by omega, hd] at h2
                rw [q1, ← Option.some.inj h2]
                refine hy2.same fun c o e => ?_
                have c1 : c ≠ D := fun z => by
                  have := nw_none e
                  rw [z, hy] at this
                  cases this
                rw [off_at c1]
                exact nw_sub sG _ _ e
          · rintro G ⟨sG, ys, hy, ly, ky'⟩
            refine ⟨D, ys, rfl, .inl ⟨SqL.of hy, fun T hT => ?_⟩⟩
            have sT := Same.updf (o := .tup ys) hT
            refine k (.ref T) _ (sG.trans sT) ?_
            exact Tr.tup (by rw [nw_at (none_back sG hT), upd_same]) (by omega) l1 fun j u e h1 h2 => ((ky' j u e h1 h2).same (off_le _ D)).same (nw_same sT)
end
end K33
set_option Elab.async false
set_option linter.all false
set_option maxRecDepth 100000
set_option maxHeartbeats 8000000
namespace K33
open PySem PySem.Spec PyProof.Rows L2 KB
def spLWord : Sp := fun vs H Q _ => ∃ (pu : Addr) (N : Nat), vs = [.ref pu] ∧ Purse H pu N ∧ N ≤ 2 ^ 40 ∧ ∀ z H', But pu H H' → Purse H' pu (N + 12) → wordS z = true → Q (.str z) H'
theorem joinL_nil : ∀ ls : List (List Nat), TL.joinL [] ls = ls.flatten
  | [] => rfl
  | [p] => by simp [TL.joinL]
  | p :: q :: r => by
    rw [TL.joinL, joinL_nil (q :: r)]
    simp
theorem word_join {ys : List Str} (h : ∀ y ∈ ys, ∃ c ∈ abc, y = ⟨#[c]⟩) (l1 : 1 ≤ ys.length) (l8 : ys.length ≤ 8) : wordS (Txt.join Str.empty ys) = true := by
  have e : (Txt.join Str.empty ys).cps.toList = (ys.map fun y => y.cps.toList).flatten := by
    have := TL.tl_join Str.empty ys
    rw [← TL.join_eq] at this
    rw [show TL.tl Str.empty = [] from rfl, joinL_nil] at this
    exact this
  have e2 : (ys.map fun y => y.cps.toList).flatten.length = ys.length := by
    clear e l1 l8
    induction ys with
    | nil => rfl
    | cons y ys ih =>
      obtain ⟨c, _, rfl⟩ := h y List.mem_cons_self
      rw [List.map_cons, List.flatten_cons, List.length_append, ih fun z hz => h z (List.mem_cons_of_mem _ hz), List.length_cons]
      simp
      omega
  have l : (Txt.join Str.empty ys).length = ys.length := by
    rw [← e2, ← e, Array.length_toList]
    rfl
  unfold wordS
  rw [l, Bool.and_eq_true, decide_eq_true_eq, List.all_eq_true]
  refine ⟨⟨l1, l8⟩, fun c hc => ?_⟩
  rw [e] at hc
  obtain ⟨q, hq, hcq⟩ := List.mem_flatten.mp hc
  obtain ⟨y, hy, rfl⟩ := List.mem_map.mp hq
  obtain ⟨d, hd, rfl⟩ := h y hy
  simp at hcq
  exact decide_eq_true (hcq ▸ hd)
theorem one_sum : ∀ {ys : List Str}, (∀ y ∈ ys, ∃ c ∈ abc, y = ⟨#[c]⟩) → (ys.map (·.length)).sum = ys.length
  | [], _ => rfl
  | y :: ys, h => by
    obtain ⟨c, _, rfl⟩ := h y List.mem_cons_self
    rw [List.map_cons, List.sum_cons, one_sum fun z hz => h z (List.mem_cons_of_mem _ hz), List.length_cons]
    show 1 + _ = _
    omega
theorem abc_at {r : Int} (h0 : 0 ≤ r) (h1 : r < 26) : ∃ c ∈ abc, atI (Str.ofString "abcdefghijklmnopqrstuvwxyz").cps.toList r = some c := by
  obtain ⟨n, rfl⟩ : ∃ n : Nat, r = n := ⟨r.toNat, by omega⟩
  have e : (Str.ofString "abcdefghijklmnopqrstuvwxyz").cps.toList = abc := by decide +kernel
  have l : n < abc.length := by
    have : abc.length = 26 := by decide
    omega
  refine ⟨abc[n], List.getElem_mem l, ?_⟩
  rw [e]
  exact atI_nat (List.getElem?_eq_getElem l)
section
variable {P : Program} {w : World} {K : PySem.W.Frag} {mg : Str → Option Value} {base : Heap}
abbrev s_word : Stmt := top 52
abbrev N_word : List Str := ["_law_purse_here", "_law_size", "_law_spin"]
theorem sc_word : FnScope N_word ["_law_purse_here"] (defScope s_word) := ⟨rfl, rfl, rfl, by decide +kernel, rfl, by decide +kernel, by decide +kernel⟩
theorem ok_word {f : Addr} {fd : FuncData} (F : FnP K "_law_word" s_word f fd) (Z : FreeS mg)
    {f_draw : Addr} {d_draw : FuncData} (g_draw : mg "_law_draw" = some (.ref f_draw)) (F_draw : FnP K "_law_draw" s_draw f_draw d_draw) (G_draw : FnOk P w K mg base CX0 2 f_draw d_draw ["_law_purse_here", "_law_many"] spDraw) :
    FnOk P w K mg base CX0 3 f fd ["_law_purse_here"] spLWord := by
  have b_draw : Binds K d_draw ["_law_purse_here", "_law_many"] [] := F_draw.bindsN fun _ _ _ _ _ _ us hl => match us, hl with | [_, _], _ => rfl
  refine F.ok sc_word (fun vs H Q E h => ?_) (fun cdv A outer s H vs Q E hr h => ?_)
  · obtain ⟨pu, N, rfl, _⟩ := h
    rfl
  · obtain ⟨pu, N, rfl, hP, hN, k⟩ := h
    have mx : ∀ m : Int, 1 ≤ m → m < 100 → mixes m = 1 := fun m h1 h2 => mixes_one h1 (by omega)
    have nd := sc_word.nd
    refine ⟨_, PSs.nox (pss_cons (ps_set (i := 1) nd rfl (Or.inl rfl) (pe_op op_add (pe_int) (pe_call G_draw (hr.mono (by decide)) rfl g_draw F_draw.kp b_draw .nil pass0 (pa_cons (pv 0) (pa_cons (pe_ifExp (pt_cmpR op_eq (pe_call G_draw (hr.mono (by decide)) rfl g_draw F_draw.kp b_draw .nil pass0 (pa_cons (pv 0) (pa_cons (pe_int) (pa_nil)))) (pe_int) (nomark _)) (pe_int) (pe_int)) (pa_nil))))))
      (pss_one (ps_ret (pe_join pe_str (pe_lc (own := [("_law_spin", 2)]) (g := gName 2) (tt := tYes) (te := tOp rIxS (tC (.str "abcdefghijklmnopqrstuvwxyz")) (tCall spDraw [] E0 (tCons (tVar 0) (tCons (tC (.int 26)) tNil)))) (by rfl) nd (pi_range1 (by rfl) Z.range (pa_cons (pv 1) pa_nil)) (blkOk_by (own := [("_law_spin", 2)]) (N := N_word) (sc := defScope s_word) (by decide +kernel)) (fun _ _ _ _ _ => pg_name (i := 2) nd rfl (Or.inl rfl)) (fun _ _ _ _ _ => pts_nil) (fun _ _ _ _ _ => pe_ix ix_str pe_str (pe_call G_draw (hr.mono (by decide)) rfl g_draw F_draw.kp b_draw .nil pass0 (pa_cons (pv 0) (pa_cons pe_int pa_nil))) (fun _ _ => rfl))))))), ?_⟩
    have one : ∀ m : Int, 1 ≤ m → m < 100 → ∀ M, M ≤ 2 ^ 41 → M + mixes m ≤ 2 ^ 50 ∧ mixes m ≤ 2 ^ 50 := fun m h1 h2 M hM => by
      rw [mx m h1 h2]
      omega
    refine ⟨_, rfl, _, rfl, pu, 3, N, rfl, by decide, log_small (by decide) (by decide), hP, (one 3 (by decide) (by decide) N (by omega)).1, (one 3 (by decide) (by decide) N (by omega)).2, fun r H1 r0 r1 b1 P1 => ?_⟩
    rw [mx 3 (by decide) (by decide)] at P1
    refine ⟨rfl, _, rfl, ?_⟩
    have fin : ∀ (n : Nat) (H2 : Hp), 1 ≤ n → n ≤ 8 → But pu H H2 → Purse H2 pu (N + 2) → ∀ D, H2 D = none → D ≠ pu → ∀ (ys : List Str) (H3 : Hp), But pu H2 H3 → (∃ M, Purse H3 pu M ∧ M ≤ N + 2 + n) → ys.length = n → (∀ y ∈ ys, ∃ c ∈ abc, y = ⟨#[c]⟩) → Q (.str (Txt.join Str.empty ys)) H3 := fun n H2 n1 n8 b2 P2 D hD nD ys H3 b3 ⟨M, PM, lM⟩ ly cy =>
      k _ H3 (b2.trans b3) (PM.mono (by omega)) (word_join cy (by omega) (by omega))
    have go : ∀ (r2 : Int) (H2 : Hp), 0 ≤ r2 → r2 < 8 → But pu H1 H2 → Purse H2 pu (N + 1 + 1) →
        tRet (tM1 (fun x xs H_1 Q => ∃ a p, ∃ ys : List Str, x = V.str a ∧ xs = [V.ref p] ∧ (SqL K H_1 p (List.map V.str ys) ∨ SqT K H_1 p (List.map V.str ys)) ∧ (List.map (fun x => x.length) ys).sum + ys.length * a.length ≤ 16777216 ∧ Q (V.str (Txt.join a ys)) H_1) (tC (V.str (Str.ofString "")))
          (tLc (iRng1 (tCons (tVar 1) tNil)) (gName 2) tYes (tOp rIxS (tC (V.str (Str.ofString "abcdefghijklmnopqrstuvwxyz"))) (tCall spDraw [] E0 (tCons (tVar 0) (tCons (tC (V.int 26)) tNil)))) [2]))
          { nx := fun x H' => Q V.non H', rt := Q } [some (.ref pu), some (.int (1 + r2)), none] H2 := fun r2 H2 q0 q1 b2 P2 => by
      obtain ⟨n, hn⟩ : ∃ n : Nat, 1 + r2 = (n : Int) := ⟨(1 + r2).toNat, by omega⟩
      rw [hn]
      refine ⟨⟨_, rfl⟩, _, rfl, (n : Int), rfl, by omega, by omega, fun D hD => ?_⟩
      have nD : D ≠ pu := fresh_ne P2 hD
      have b12 := b1.trans b2
      rw [Int.toNat_natCast]
      refine lc_it (walk_range (lo := 0) (n := n)) (fun i G => But pu H2 G ∧ (∃ M, Purse G pu M ∧ M ≤ N + 2 + i) ∧ ∃ ys : List Str, G D = some (.lst (ys.map V.str)) ∧ ys.length = i ∧ ∀ y ∈ ys, ∃ c ∈ abc, y = ⟨#[c]⟩)
        ⟨But.of (Same.updf hD), ⟨N + 2, P2.same (Same.updf hD), Nat.le_refl _⟩, [], upd_same, rfl, fun y hy => nomatch hy⟩ (fun i G _ _ => trivial) ?_ ?_
      · rintro i x G G' hi ⟨bG, ⟨M, PM, lM⟩, ys, hy, ly, cy⟩ ⟨rfl, rfl⟩
        refine ⟨rfl, ?_⟩
        refine ⟨_, rfl, pu, 26, M, rfl, by decide, log_small (by decide) (by decide), PM, (one 26 (by decide) (by decide) M (by omega)).1, (one 26 (by decide) (by decide) M (by omega)).2, fun s G2 s0 s1 b3 P3 => ?_⟩
        rw [mx 26 (by decide) (by decide)] at P3
        obtain ⟨c, hc, ec⟩ := abc_at s0 s1
        have sl : (100 : Nat) ≤ sizeLine := by decide
        refine ⟨_, s, c, rfl, rfl, (by show 26 ≤ sizeLine; omega), ec, ys.map V.str, b3 _ _ nD hy, by rw [List.length_map]; omega, (fun d o n1 e => by
          rw [upd_ne (ne_of_none e hD)]
          exact (bG.trans b3) d o n1 e), ⟨M + 1, P3.same' (upd_ne nD.symm), by omega⟩, ys ++ [⟨#[c]⟩], by rw [upd_same, List.map_append]; rfl, by rw [List.length_append, ly]; rfl, fun y hy' => ?_⟩
        · rcases List.mem_append.mp hy' with h | h
          · exact cy y h
          · rw [List.mem_singleton] at h
            exact ⟨c, hc, h⟩
      · rintro G ⟨bG, ⟨M, PM, lM⟩, ys, hy, ly, cy⟩
        refine ⟨_, D, ys, rfl, rfl, Or.inl (SqL.of hy), ?_, fin n H2 (by omega) (by omega) b12 P2 D hD nD ys G bG ⟨M, PM, lM⟩ ly cy⟩
        rw [one_sum cy]
        show ys.length + ys.length * 0 ≤ 16777216
        omega
    by_cases e : r = 0
    · rw [decide_eq_true (congrArg V.int e)]
      refine iteT ?_
      refine ⟨pu, 8, N + 1, rfl, by decide, log_small (by decide) (by decide), P1, (one 8 (by decide) (by decide) (N + 1) (by omega)).1, (one 8 (by decide) (by decide) (N + 1) (by omega)).2, fun r2 H2 q0 q1 b2 P2 => ?_⟩
      rw [mx 8 (by decide) (by decide)] at P2
      exact ⟨_, _, rfl, rfl, go r2 H2 q0 (by omega) b2 P2⟩
    · rw [decide_eq_false fun z => e (V.int.inj z)]
      refine iteF ?_
      refine ⟨pu, 3, N + 1, rfl, by decide, log_small (by decide) (by decide), P1, (one 3 (by decide) (by decide) (N + 1) (by omega)).1, (one 3 (by decide) (by decide) (N + 1) (by omega)).2, fun r2 H2 q0 q1 b2 P2 => ?_⟩
      rw [mx 3 (by decide) (by decide)] at P2
      exact ⟨_, _, rfl, rfl, go r2 H2 q0 (by omega) b2 P2⟩
end
end K33
set_option Elab.async false
set_option linter.all false
set_option maxRecDepth 100000
set_option maxHeartbeats 4000000
/-! list(x) of a text: its signs, one by one. -/
namespace KB
open PySem PySem.Spec PyProof.Rows L2
def signsV (z : Str) : List V := z.cps.toList.map fun c => V.str ⟨#[c]⟩
def rListS : List V → Hp → VK → Prop := fun xs H Q => ∃ z : Str, xs = [.str z] ∧ z.length ≤ sizeLine ∧ ∀ q, H q = none → Q (.ref q) (upd H q (.lst (signsV z)))
theorem cr_listS {X : Cx} (hc : X.calm = true) : CallR X (.type "list") rListS := by
  intro pins s σ H xs us Q I r h
  obtain ⟨z, rfl, hz, q⟩ := h
  obtain ⟨u, rfl, t, rfl⟩ := vals1 r
  refine call_list_str (I.ok.hd hc) z t (hn := hz) fun h' tk acc' c' hkeep hS hacc => ?_
  refine ⟨.ref s.heap.objs.size, upd H s.heap.objs.size (.lst (signsV z)), I.laid hkeep (Nat.le_refl _) (show ObjOk X.prog X.w _ _ _ (.lst (signsV z)) from ⟨?_, acc'.toList, c', ?_, ?_⟩), rfl, q _ (I.hok.fresh (Nat.le_refl _))⟩
  · show (signsV z).length ≤ _
    unfold signsV
    rw [List.length_map, Array.length_toList]
    exact hz
  · refine vals_of_at (by unfold signsV; rw [List.length_map, Array.length_toList, Array.length_toList, hacc.1]) fun j x w h1 h2 => ?_
    obtain ⟨c, t2, hc2, rfl⟩ := hacc.2 j w (by rw [← Array.getElem?_toList]; exact h2)
    unfold signsV at h1
    rw [List.getElem?_map, Array.getElem?_toList, hc2] at h1
    cases h1
    exact ⟨t2, rfl⟩
  · rw [Array.toArray_toList]; exact hS
end KB
set_option Elab.async false
set_option linter.all false
set_option maxRecDepth 100000
set_option maxHeartbeats 8000000
namespace K33
open PySem PySem.Spec PyProof.Rows L2 KB
/-- two words, in a new list -/
def spLWords : Sp := fun vs H Q _ => ∃ (pu : Addr) (N : Nat), vs = [.ref pu, .int 2] ∧ Purse H pu N ∧ N ≤ 2 ^ 39 ∧
  ∀ p y1 y2 H', But pu H H' → Purse H' pu (N + 50) → H p = none → H' p = some (.lst [.str y1, .str y2]) → wordS y1 = true → wordS y2 = true → Q (.ref p) H'
theorem word_len {z : Str} (h : wordS z = true) : 1 ≤ z.length ∧ z.length ≤ 8 := by
  unfold wordS at h
  rw [Bool.and_eq_true, decide_eq_true_eq] at h
  exact h.1
theorem word_abc {z : Str} (h : wordS z = true) {c : Nat} (m : c ∈ z.cps.toList) : c ∈ abc := by
  unfold wordS at h
  rw [Bool.and_eq_true, List.all_eq_true] at h
  exact of_decide_eq_true (h.2 c m)
theorem word_of {l : List Nat} (h1 : 1 ≤ l.length) (h8 : l.length ≤ 8) (h : ∀ c ∈ l, c ∈ abc) : wordS (SX.S l) = true := by
  unfold wordS
  rw [SX.S_len, Bool.and_eq_true, decide_eq_true_eq, List.all_eq_true]
  exact ⟨⟨h1, h8⟩, fun c m => decide_eq_true (h c m)⟩
/-- a word with another letter at one place -/
theorem word_near {z : Str} (h : wordS z = true) {s : Int} (s0 : 0 ≤ s) (s1 : s < z.length) {c : Nat} (hc : c ∈ abc) :
    wordS (Txt.slice z none (some s) ++ ⟨#[c]⟩ ++ Txt.slice z (some (s + 1)) none) = true := by
  obtain ⟨l, rfl⟩ : ∃ l, z = SX.S l := ⟨_, (SX.S_tl z).symm⟩
  rw [SX.S_len] at s1
  have l8 := word_len h
  rw [SX.S_len] at l8
  rw [SX.slice_to s0, SX.slice_from (by omega), show (⟨#[c]⟩ : Str) = SX.S [c] from rfl, SX.S_cat, SX.S_cat]
  refine word_of ?_ ?_ fun d m => ?_
  · simp
    omega
  · simp
    omega
  · rcases List.mem_append.mp m with m | m
    · rcases List.mem_append.mp m with m | m
      · exact word_abc h (List.mem_of_mem_take m)
      · rw [List.mem_singleton.mp m]
        exact hc
    · exact word_abc h (List.mem_of_mem_drop m)
theorem near_len {z : Str} (h : wordS z = true) {s : Int} (s0 : 0 ≤ s) (s1 : s < z.length) (c : Nat) :
    (Txt.slice z none (some s)).length + (⟨#[c]⟩ : Str).length ≤ 20 ∧ (Txt.slice z none (some s) ++ ⟨#[c]⟩).length + (Txt.slice z (some (s + 1)) none).length ≤ 20 := by
  obtain ⟨l, rfl⟩ : ∃ l, z = SX.S l := ⟨_, (SX.S_tl z).symm⟩
  rw [SX.S_len] at s1
  have l8 := word_len h
  rw [SX.S_len] at l8
  rw [SX.slice_to s0, SX.slice_from (by omega), show (⟨#[c]⟩ : Str) = SX.S [c] from rfl, SX.S_cat, SX.S_len, SX.S_len, SX.S_len, SX.S_len]
  simp
  omega
theorem ite_by {b : Bool} {A B : Prop} (a : b = true → A) (f : b = false → B) : if b = true then A else B := by
  cases b with
  | true => exact iteT (a rfl)
  | false => exact iteF (f rfl)
theorem cutW {R : Str → Hp → Prop} {C : Str → Hp → Prop} {T : Prop} (a : (∀ y H, C y H → R y H) → T) (b : ∀ y H, C y H → R y H) : T := a b
def ltr (j : Nat) : V := .str ⟨#[97 + j]⟩
theorem signs_abc : signsV (Str.ofString "abcdefghijklmnopqrstuvwxyz") = (List.range 26).map ltr := by decide +kernel
theorem ltr_word {j : Nat} (h : j < 26) : wordS ⟨#[97 + j]⟩ = true := word_of (l := [97 + j]) (by simp) (by simp) fun c m => by
  rw [List.mem_singleton.mp m]
  unfold abc
  exact List.mem_map.mpr ⟨j, List.mem_range.mpr h, by omega⟩
theorem sel_head {ys : List Str} (l : ys.length ≤ 1) : ∃ (y : Str) (rest : List V), wordS y = true ∧ ((List.range 26).filterMap fun j => if inV (ltr j) (ys.map V.str) then none else some (ltr j)) = .str y :: rest := by
  cases e : ((List.range 26).filterMap fun j => if inV (ltr j) (ys.map V.str) then none else some (ltr j)) with
  | nil =>
    rw [List.filterMap_eq_nil_iff] at e
    have e0 := e 0 (by decide)
    have e1 := e 1 (by decide)
    exfalso
    match ys, l with
    | [], _ => simp [inV] at e0
    | [y], _ =>
      simp [inV, ltr, eqV] at e0 e1
      rw [e0] at e1
      exact absurd e1 (by decide)
  | cons v rest =>
    have m : v ∈ ((List.range 26).filterMap fun j => if inV (ltr j) (ys.map V.str) then none else some (ltr j)) := by
      rw [e]
      exact List.mem_cons_self
    obtain ⟨j, hj, ej⟩ := List.mem_filterMap.mp m
    refine ⟨⟨#[97 + j]⟩, rest, ltr_word (List.mem_range.mp hj), ?_⟩
    split at ej
    · cases ej
    · cases ej
      rfl
theorem flat_strs (ys : List Str) : (ys.map V.str).all flatV = true := by
  rw [List.all_eq_true]
  intro v m
  obtain ⟨y, _, rfl⟩ := List.mem_map.mp m
  rfl
section
variable {P : Program} {w : World} {K : PySem.W.Frag} {mg : Str → Option Value} {base : Heap}
abbrev s_words : Stmt := top 53
abbrev N_words : List Str := ["_law_purse_here", "_law_many", "_law_base", "_law_near", "_law_spot", "_law_found", "_law_spin", "_law_word_here", "_law_letter"]
theorem sc_words : FnScope N_words ["_law_purse_here", "_law_many"] (defScope s_words) := ⟨rfl, rfl, rfl, by decide +kernel, rfl, by decide +kernel, by decide +kernel⟩
theorem ok_words {f : Addr} {fd : FuncData} (F : FnP K "_law_words" s_words f fd) (Z : FreeS mg)
    {f_word : Addr} {d_word : FuncData} (g_word : mg "_law_word" = some (.ref f_word)) (F_word : FnP K "_law_word" s_word f_word d_word) (G_word : FnOk P w K mg base CX0 3 f_word d_word ["_law_purse_here"] spLWord)
    {f_draw : Addr} {d_draw : FuncData} (g_draw : mg "_law_draw" = some (.ref f_draw)) (F_draw : FnP K "_law_draw" s_draw f_draw d_draw) (G_draw : FnOk P w K mg base CX0 2 f_draw d_draw ["_law_purse_here", "_law_many"] spDraw) :
    FnOk P w K mg base CX0 4 f fd ["_law_purse_here", "_law_many"] spLWords := by
  have b_word : Binds K d_word ["_law_purse_here"] [] := F_word.bindsN fun _ _ _ _ _ _ us hl => match us, hl with | [_], _ => rfl
  have b_draw : Binds K d_draw ["_law_purse_here", "_law_many"] [] := F_draw.bindsN fun _ _ _ _ _ _ us hl => match us, hl with | [_, _], _ => rfl
  refine F.ok sc_words (fun vs H Q E h => ?_) (fun cdv A outer s H vs Q E hr h => ?_)
  · obtain ⟨pu, N, rfl, _⟩ := h
    rfl
  · obtain ⟨pu, N, rfl, hP, hN, k⟩ := h
    have mx : ∀ m : Int, 1 ≤ m → m < 100 → mixes m = 1 := fun m h1 h2 => mixes_one h1 (by omega)
    have one : ∀ m : Int, 1 ≤ m → m < 100 → ∀ M, M ≤ 2 ^ 41 → M + mixes m ≤ 2 ^ 50 ∧ mixes m ≤ 2 ^ 50 := fun m h1 h2 M hM => by
      rw [mx m h1 h2]
      omega
    have nd := sc_words.nd
    refine ⟨_, PSs.nox (pss_cons (ps_par (i := 2) (j := 3) rfl nd rfl rfl (by decide) rfl rfl (pa_cons (pe_call G_word (hr.mono (by decide)) rfl g_word F_word.kp b_word .nil pass0 (pa_cons (pv 0) (pa_nil))) (pa_cons (pe_cmpR op_eq (pe_call G_draw (hr.mono (by decide)) rfl g_draw F_draw.kp b_draw .nil pass0 (pa_cons (pv 0) (pa_cons (pe_int) (pa_nil)))) (pe_int) (nomark _)) (pa_nil))) rfl)
      (pss_cons (ps_asg (pe_tup (pa_cons (pe_call G_draw (hr.mono (by decide)) rfl g_draw F_draw.kp b_draw .nil pass0 (pa_cons (pv 0) (pa_cons (pe_callB call_len_str (by rfl) Z.len (by decide +kernel) (pa_cons (pv 2) (pa_nil))) (pa_nil)))) (pa_cons (pe_lst (pa_nil)) (pa_nil)))) (pg_tup rfl (pgs_cons (pg_name (i := 4) nd rfl (Or.inl rfl)) (pgs_cons (pg_name (i := 5) nd rfl (Or.inr rfl)) (pgs_nil)))))
      (pss_cons (ps_for PassesOwn.never rfl (pi_range1 (by rfl) Z.range (pa_cons (pv 1) (pa_nil))) (pg_name (i := 6) nd rfl (Or.inl rfl))
        (pss_cons (ps_set (i := 7) nd rfl (Or.inl rfl) (pe_op op_add_str (pe_op op_add_str (pe_slice C8.sl_txt (pv 2) po_none (po_some (pv 4))) (pe_ix ix_str pe_str (pe_call G_draw (hr.mono (by decide)) rfl g_draw F_draw.kp b_draw .nil pass0 (pa_cons (pv 0) (pa_cons pe_int pa_nil))) (fun _ _ => rfl))) (pe_slice C8.sl_txt (pv 2) (po_some (pe_op op_add (pv 4) pe_int)) po_none)))
      (pss_cons (ps_if (pt_not (pt_truth (pv 3) (fun _ => rfl))) (pss_one (ps_set (i := 7) nd rfl (Or.inl rfl) (pe_call G_word (hr.mono (by decide)) rfl g_word F_word.kp b_word .nil pass0 (pa_cons (pv 0) (pa_nil))))) (pss_nil))
      (pss_cons (ps_if (pt_cmpR op_in_seq (pv 7) (pv 5) (by rfl)) (pss_one (ps_set (i := 7) nd rfl (Or.inl rfl) (pe_ix ix_list (pe_lc (own := [("_law_letter", 8)]) (g := gName 8) (tt := tTest (tOp (rIn K true) (tVar 8) (tVar 5))) (te := tVar 8) (by rfl) nd (pi_list (pe_callTy (cr_listS rfl) (by rfl) Z.tlist (by decide +kernel) (pa_cons pe_str pa_nil)))
          (blkOk_by (own := [("_law_letter", 8)]) (N := N_words) (sc := defScope s_words) (by decide +kernel)) (fun _ _ _ _ _ => pg_name (i := 8) nd rfl (Or.inl rfl)) (fun _ _ _ _ _ => pts_one (pt_cmpR op_notIn_seq (pv 8) (pv 5) (by rfl)))
          (fun _ _ _ _ _ => pv 8)) (pe_int) (fun _ _ => rfl)))) (pss_nil))
      (pss_one (ps_expr (pe_bm PySem.F.plainAttrs_list PySem.F.slot_list_append PySem.F.type_list_append mt_append (pv 5) (pa_cons (pv 7) (pa_nil)))))))))
      (pss_one (ps_ret (pv 5)))))), ?_⟩
    refine ⟨_, rfl, pu, N, rfl, hP, by omega, fun z H1 b1 P1 hz => ?_⟩
    refine ⟨_, rfl, pu, 3, N + 12, rfl, by decide, log_small (by decide) (by decide), P1, (one 3 (by decide) (by decide) _ (by omega)).1, (one 3 (by decide) (by decide) 0 (by omega)).2, fun r H2 r0 r1 b2 P2 => ?_⟩
    rw [mx 3 (by decide) (by decide)] at P2
    refine ⟨rfl, ?_⟩
    have l8 := word_len hz
    refine ⟨_, _, rfl, ?_⟩
    generalize decide (V.int r = V.int 0) = nb
    refine ⟨_, rfl, _, rfl, z, rfl, by have : (100 : Nat) ≤ sizeLine := by decide
                                       omega, pu, z.length, N + 13, rfl, by omega, log_small (by omega) (by omega), P2, (one z.length (by omega) (by omega) _ (by omega)).1, (one z.length (by omega) (by omega) 0 (by omega)).2, fun sp H3 s0 s1 b3 P3 => ?_⟩
    rw [mx z.length (by omega) (by omega)] at P3
    have sl : (100 : Nat) ≤ sizeLine := by decide
    refine ⟨Nat.zero_le _, fun L hL => ⟨(by show 2 ≤ sizeLine; omega), fun T hT => ⟨T, _, rfl, .inl (.inl upd_same), rfl, _, [_], rfl, _, [], rfl, rfl, ?_⟩⟩⟩
    have nL : L ≠ pu := fresh_ne P3 hL
    have hL0 : H L = none := ((b1.trans b2).trans b3).none nL hL
    have nTL : T ≠ L := fun z => by
      rw [z, upd_same] at hT
      cases hT
    have hT3 : H3 T = none := by
      rw [upd_ne nTL] at hT
      exact hT
    have nT : T ≠ pu := fresh_ne P3 hT3
    have b123 := (b1.trans b2).trans b3
    refine ⟨_, rfl, 2, rfl, by decide, by decide, ?_⟩
    refine for_it (walk_range (lo := 0) (n := 2)) (fun i σ G => But pu H3 G ∧ (∃ M, Purse G pu M ∧ M ≤ N + 14 + 13 * i) ∧ (∃ ys : List Str, G L = some (.lst (ys.map V.str)) ∧ ys.length = i ∧ ∀ y ∈ ys, wordS y = true) ∧
        ∃ v6 v7 v8, σ = [some (.ref pu), some (.int 2), some (.str z), some (.bl nb), some (.int sp), some (.ref L), v6, v7, v8])
      ⟨fun c o n1 e => by rw [upd_ne (ne_of_none e hT3), upd_ne (ne_of_none e hL)]; exact e, ⟨N + 14, P3.same' (by rw [upd_ne nT.symm, upd_ne nL.symm]), by omega⟩, ⟨[], by rw [upd_ne nTL.symm, upd_same]; rfl, rfl, fun y hy => nomatch hy⟩, _, _, _, rfl⟩ (fun i σ G _ _ => trivial) ?_ ?_
    · rintro i x σ G G' hi ⟨bG, ⟨M, PM, lM⟩, ⟨ys, hy, ly, wy'⟩, v6, v7, v8, rfl⟩ ⟨rfl, rfl⟩
      have l20 : (20 : Nat) ≤ sizeLine := by omega
      have zl : z.length ≤ sizeLine := by omega
      have iN : N + 14 + 13 * i ≤ 2 ^ 41 := by omega
      refine ⟨_, rfl, _, rfl, _, rfl, z, rfl, zl, ?_⟩
      refine ⟨_, rfl, pu, 26, M, rfl, by decide, log_small (by decide) (by decide), PM, (one 26 (by decide) (by decide) M (by omega)).1, (one 26 (by decide) (by decide) 0 (by omega)).2, fun t G1 t0 t1 b4 P4 => ?_⟩
      rw [mx 26 (by decide) (by decide)] at P4
      obtain ⟨c, hc, ec⟩ := abc_at t0 t1
      obtain ⟨n1, n2⟩ := near_len hz s0 s1 c
      refine ⟨_, t, c, rfl, rfl, (by show 26 ≤ sizeLine; omega), ec, _, _, rfl, rfl, by omega, ?_⟩
      refine ⟨_, rfl, _, rfl, sp, 1, rfl, rfl, _, rfl, z, rfl, zl, _, _, rfl, rfl, by omega, ?_⟩
      apply cutW (C := fun y G2 => wordS y = true ∧ But pu G' G2 ∧ ∃ M2, Purse G2 pu M2 ∧ M2 ≤ N + 14 + 13 * i + 13)
      · intro tail
        refine ⟨_, rfl, nb, rfl, ?_⟩
        refine ite_by (fun _ => ?_) (fun _ => ?_)
        · refine ⟨_, rfl, pu, M + 1, rfl, P4, by omega, fun y G2 b5 P5 wy => ?_⟩
          exact tail y G2 ⟨wy, b4.trans b5, _, P5, by omega⟩
        · exact tail _ _ ⟨word_near hz s0 s1 hc, b4, _, P4, by omega⟩
      · rintro y G2 ⟨wy, b5, M2, P5, lM2⟩
        have hy2 := b5 _ _ nL hy
        apply cutW (C := fun y3 G3 => wordS y3 = true ∧ Same G2 G3)
        · intro tail
          refine ⟨_, rfl, _, rfl, L, ys.map V.str, rfl, Or.inl (SqL.of hy2), rfl, flat_strs ys, _, rfl, ?_⟩
          refine ite_by (fun _ => ?_) (fun _ => ?_)
          · refine ⟨_, rfl, (by show 26 ≤ sizeLine; omega), fun q hq => ?_⟩
            rw [signs_abc]
            have sq : Same G2 (upd G2 q (.lst ((List.range 26).map ltr))) := Same.updf hq
            refine ⟨q, rfl, ⟨_, SqL.of upd_same⟩, fun D hD => ?_⟩
            refine lc_sel (walk_list (K := K) (a := q) (xs := (List.range 26).map ltr)) (fun j => if inV (ltr j) (ys.map V.str) then none else some (ltr j)) (by decide) hD (fun H2 s2 => SqL.of (s2 _ _ upd_same)) ?_ ?_
            · rintro j v H5 H6 Qy Qn hj s5 ⟨rfl, hv⟩ ky kn
              have j26 : j < 26 := hj
              rw [List.getElem?_map, List.getElem?_range j26] at hv
              obtain rfl := Option.some.inj hv
              refine ⟨rfl, _, rfl, _, rfl, L, ys.map V.str, rfl, Or.inl (SqL.of (s5 _ _ (sq _ _ hy2))), rfl, flat_strs ys, _, rfl, ?_⟩
              cases e2 : inV (ltr j) (ys.map V.str) with
              | false => exact iteT ⟨_, rfl, ky _ _ (Same.refl _) (by simp [e2])⟩
              | true => exact iteF (kn _ (Same.refl _) (by simp [e2]))
            · intro H5 s5 hR
              obtain ⟨y4, rest, w4, ej⟩ := sel_head (ys := ys) (by omega)
              have hR2 : H5 D = some (.lst (((List.range 26).filterMap fun j => if inV (ltr j) (ys.map V.str) then none else some (ltr j)))) := hR
              rw [ej] at hR2
              refine ⟨D, _, 0, .str y4, rfl, rfl, SqL.of hR2, atI_nat (j := 0) rfl, ?_⟩
              exact tail y4 H5 ⟨w4, sq.trans s5⟩
          · exact tail y G2 ⟨wy, Same.refl _⟩
        · rintro y3 G3 ⟨w3, s3⟩
          refine ⟨_, rfl, .inl ⟨rfl, _, SqL.of (s3 _ _ hy2)⟩, _, rfl, L, ys.map V.str, .str y3, rfl, rfl, s3 _ _ hy2, by rw [List.length_map]; omega, ?_⟩
          refine ⟨fun c o n1 e => ?_, ⟨M2, (P5.same s3).same' (upd_ne nL.symm), by omega⟩, ⟨ys ++ [y3], by rw [upd_same, List.map_append]; rfl, by rw [List.length_append, ly]; rfl, fun u hu => ?_⟩, _, _, _, rfl⟩
          · rw [upd_ne (ne_of_none e hL)]
            exact s3 _ _ (b5 _ _ n1 (bG _ _ n1 e))
          · rcases List.mem_append.mp hu with h | h
            · exact wy' u h
            · rw [List.mem_singleton.mp h]
              exact w3
    · rintro σ G ⟨bG, ⟨M, PM, lM⟩, ⟨ys, hy, ly, wy⟩, v6, v7, v8, rfl⟩
      refine ⟨_, rfl, ?_⟩
      match ys, ly with
      | [y1, y2], _ => exact k L y1 y2 G (b123.trans bG) (PM.mono (by omega)) hL0 hy (wy _ (by simp)) (wy _ (by simp))
end
end K33
set_option Elab.async false
set_option linter.all false
set_option maxRecDepth 100000
set_option maxHeartbeats 8000000
namespace K33
open PySem PySem.Spec PyProof.Rows L2 KB
/-- ascending pages, in a new list -/
def spSheets : Sp := fun vs H Q _ => ∃ (pu : Addr) (n N : Nat), vs = [.ref pu, .int (n : Int)] ∧ n ≤ 5 ∧ Purse H pu N ∧ N ≤ 2 ^ 39 ∧
  ∀ p ps H', But pu H H' → Purse H' pu (N + 10) → H p = none → H' p = some (.lst (numsV ps)) → ps.length = n → ps.Pairwise (· < ·) → (∀ x ∈ ps, x ≤ 30) → Q (.ref p) H'
theorem numsV_snoc (l : List Nat) (x : Nat) : numsV (l ++ [x]) = numsV l ++ [V.int (x : Int)] := by
  unfold numsV
  rw [List.map_append]
  rfl
theorem asc_snoc {l : List Nat} {x : Nat} (h : l.Pairwise (· < ·)) (k : ∀ y ∈ l, y < x) : (l ++ [x]).Pairwise (· < ·) :=
  List.pairwise_append.mpr ⟨h, List.pairwise_singleton _ _, fun a m b n => by rw [List.mem_singleton.mp n]; exact k a m⟩
section
variable {P : Program} {w : World} {K : PySem.W.Frag} {mg : Str → Option Value} {base : Heap}
abbrev s_sheets : Stmt := top 56
abbrev N_sheets : List Str := ["_law_purse_here", "_law_many", "_law_found", "_law_page", "_law_spin"]
theorem sc_sheets : FnScope N_sheets ["_law_purse_here", "_law_many"] (defScope s_sheets) := ⟨rfl, rfl, rfl, by decide +kernel, rfl, by decide +kernel, by decide +kernel⟩
theorem ok_sheets {f : Addr} {fd : FuncData} (F : FnP K "_law_sheets" s_sheets f fd) (Z : FreeS mg)
    {f_draw : Addr} {d_draw : FuncData} (g_draw : mg "_law_draw" = some (.ref f_draw)) (F_draw : FnP K "_law_draw" s_draw f_draw d_draw) (G_draw : FnOk P w K mg base CX0 2 f_draw d_draw ["_law_purse_here", "_law_many"] spDraw) :
    FnOk P w K mg base CX0 3 f fd ["_law_purse_here", "_law_many"] spSheets := by
  have b_draw : Binds K d_draw ["_law_purse_here", "_law_many"] [] := F_draw.bindsN fun _ _ _ _ _ _ us hl => match us, hl with | [_, _], _ => rfl
  refine F.ok sc_sheets (fun vs H Q E h => ?_) (fun cdv A outer s H vs Q E hr h => ?_)
  · obtain ⟨pu, n, N, rfl, _⟩ := h
    rfl
  · obtain ⟨pu, n, N, rfl, n4, hP, hN, k⟩ := h
    have mx : ∀ m : Int, 1 ≤ m → m < 100 → mixes m = 1 := fun m h1 h2 => mixes_one h1 (by omega)
    have one : ∀ m : Int, 1 ≤ m → m < 100 → ∀ M, M ≤ 2 ^ 41 → M + mixes m ≤ 2 ^ 50 ∧ mixes m ≤ 2 ^ 50 := fun m h1 h2 M hM => by
      rw [mx m h1 h2]
      omega
    have nd := sc_sheets.nd
    refine ⟨_, PSs.nox (pss_cons (ps_par (i := 2) (j := 3) rfl nd rfl rfl (by decide) rfl rfl (pa_cons (pe_lst (pa_nil)) (pa_cons (pe_call G_draw (hr.mono (by decide)) rfl g_draw F_draw.kp b_draw .nil pass0 (pa_cons (pv 0) (pa_cons (pe_int) (pa_nil)))) (pa_nil))) rfl)
      (pss_cons (ps_for PassesOwn.never rfl (pi_range1 (by rfl) Z.range (pa_cons (pv 1) (pa_nil))) (pg_name (i := 4) nd rfl (Or.inl rfl))
        (pss_cons (ps_expr (pe_bm PySem.F.plainAttrs_list PySem.F.slot_list_append PySem.F.type_list_append mt_append (pv 2) (pa_cons (pv 3) (pa_nil))))
      (pss_one (ps_set (i := 3) nd rfl (Or.inl rfl) (pe_op op_add (pe_op op_add (pv 3) (pe_int)) (pe_call G_draw (hr.mono (by decide)) rfl g_draw F_draw.kp b_draw .nil pass0 (pa_cons (pv 0) (pa_cons (pe_int) (pa_nil)))))))))
      (pss_one (ps_ret (pv 2))))), ?_⟩
    have sl : (100 : Nat) ≤ sizeLine := by decide
    refine ⟨Nat.zero_le _, fun L hL => ?_⟩
    have nL : L ≠ pu := fresh_ne hP hL
    have PL : Purse (upd H L (.lst [])) pu N := hP.same (Same.updf hL)
    refine ⟨_, rfl, pu, 3, N, rfl, by decide, log_small (by decide) (by decide), PL, (one 3 (by decide) (by decide) _ (by omega)).1, (one 3 (by decide) (by decide) 0 (by omega)).2, fun r H2 r0 r1 b2 P2 => ?_⟩
    rw [mx 3 (by decide) (by decide)] at P2
    obtain ⟨r, rfl⟩ : ∃ q : Nat, r = (q : Int) := ⟨r.toNat, by omega⟩
    refine ⟨_, _, rfl, ?_⟩
    refine ⟨_, rfl, (n : Int), rfl, by omega, by omega, ?_⟩
    rw [Int.toNat_natCast]
    have hL2 : H2 L = some (.lst (numsV [])) := b2 _ _ nL upd_same
    have bH : But pu H H2 := (But.of (Same.updf hL)).trans b2
    refine for_it (walk_range (lo := 0) (n := n)) (fun i σ G => But pu H G ∧ (∃ M, Purse G pu M ∧ M ≤ N + 1 + i) ∧ ∃ (ys : List Nat) (g : Nat) (v4 : Option V), G L = some (.lst (numsV ys)) ∧ ys.length = i ∧ ys.Pairwise (· < ·) ∧ (∀ y ∈ ys, y < g) ∧ g ≤ 2 + 4 * i ∧
        σ = [some (.ref pu), some (.int (n : Int)), some (.ref L), some (.int (g : Int)), v4])
      ⟨bH, ⟨_, P2, Nat.le_refl _⟩, [], r, _, hL2, rfl, .nil, (fun y hy => nomatch hy), by omega, rfl⟩ (fun i σ G _ _ => trivial) ?_ ?_
    · rintro i x σ G G' hi ⟨bG, ⟨M, PM, lM⟩, ys, g, v4, hy, ly, ay, cy, lg, rfl⟩ ⟨rfl, rfl⟩
      refine ⟨_, rfl, .inl ⟨rfl, _, SqL.of hy⟩, _, rfl, L, numsV ys, .int (g : Int), rfl, rfl, hy, by unfold numsV; rw [List.length_map]; omega, ?_⟩
      have P4 : Purse (upd G' L (.lst (numsV ys ++ [.int (g : Int)]))) pu M := PM.same' (upd_ne nL.symm)
      refine ⟨_, rfl, _, 1, rfl, rfl, ?_⟩
      refine ⟨_, rfl, pu, 4, M, rfl, by decide, log_small (by decide) (by decide), P4, (one 4 (by decide) (by decide) _ (by omega)).1, (one 4 (by decide) (by decide) 0 (by omega)).2, fun t G4 t0 t1 b4 P5 => ?_⟩
      rw [mx 4 (by decide) (by decide)] at P5
      obtain ⟨t, rfl⟩ : ∃ q : Nat, t = (q : Int) := ⟨t.toNat, by omega⟩
      refine ⟨_, _, rfl, rfl, ?_⟩
      refine ⟨fun c o n1 e => b4 _ _ n1 (by rw [upd_ne (ne_of_none e hL)]; exact bG _ _ n1 e), ⟨_, P5, by omega⟩, ys ++ [g], g + 1 + t, _, b4 _ _ nL (by rw [upd_same, numsV_snoc]), by rw [List.length_append, ly]; rfl, asc_snoc ay cy, fun y m => ?_, by omega, rfl⟩
      rcases List.mem_append.mp m with m | m
      · have := cy y m
        omega
      · rw [List.mem_singleton.mp m]
        omega
    · rintro σ G ⟨bG, ⟨M, PM, lM⟩, ys, g, v4, hy, ly, ay, cy, lg, rfl⟩
      exact ⟨_, rfl, k L ys G bG (PM.mono (by omega)) hL hy ly ay fun x m => by
        have := cy x m
        omega⟩
end
end K33
set_option Elab.async false
set_option linter.all false
set_option maxRecDepth 100000
set_option maxHeartbeats 8000000
namespace K33
open PySem PySem.Spec PyProof.Rows L2 KB
abbrev s_one_of : Stmt := sOne
def spSpeech : Sp := fun vs H Q _ => ∃ (pu : Addr) (N : Nat), vs = [.ref pu] ∧ Purse H pu N ∧ N ≤ 2 ^ 38 ∧
  ∀ a ds H', But pu H H' → Purse H' pu (N + 60) → Tr H' 5 (.ref a) (.tuple ds) → okWs ds = true → szWs ds ≤ 7 → Q (.ref a) H'
def TA2 (H : Hp) (n : Nat) : List V → List PyData → Prop
  | [], [] => True
  | x :: xs, d :: ds => Tr H n x d ∧ TA2 H n xs ds
  | _, _ => False
theorem TA2.len {H : Hp} {n : Nat} : ∀ {xs : List V} {ds : List PyData}, TA2 H n xs ds → xs.length = ds.length
  | [], [], _ => rfl
  | _ :: _, _ :: _, h => congrArg (· + 1) (TA2.len h.2)
  | [], _ :: _, h => h.elim
  | _ :: _, [], h => h.elim
theorem TA2.get {H : Hp} {n : Nat} : ∀ {xs : List V} {ds : List PyData}, TA2 H n xs ds → ∀ (i : Nat) (u : V) (e : PyData), xs[i]? = some u → ds[i]? = some e → Tr H n u e
  | x :: xs, d :: ds, h, 0, u, e, h1, h2 => by
    cases h1
    cases h2
    exact h.1
  | _ :: _, _ :: _, h, i + 1, u, e, h1, h2 => TA2.get h.2 i u e h1 h2
theorem TA2.tup {H : Hp} {n : Nat} {p : Addr} {xs : List V} {ds : List PyData} (hp : H p = some (.tup xs)) (a : TA2 H n xs ds) (l : ds.length ≤ 1000) : Tr H (n + 1) (.ref p) (.tuple ds) :=
  Tr.tup hp a.len l a.get
theorem tr_but {pu : Addr} {H H' : Hp} {M : Nat} (hP : Purse H pu M) (b : But pu H H') : ∀ {n : Nat} {x : V} {d : PyData}, okW d = true → Tr H n x d → Tr H' n x d
  | 0, _, _, _, h => h
  | n + 1, x, d, k, h => by
    rcases h with h | ⟨a, xs, ds, rfl, l, l2, t, c⟩
    · exact .inl h
    · rcases t with ⟨_, rfl⟩ | ⟨ha, rfl⟩
      · exact absurd k Bool.false_ne_true
      · have na : a ≠ pu := fun z => by
          rw [z] at ha
          obtain ⟨_, _, _, _, e, _⟩ := hP
          rw [ha] at e
          cases e
        exact .inr ⟨a, xs, ds, rfl, l, l2, .inr ⟨b _ _ na ha, rfl⟩, fun i u e h1 h2 => tr_but hP b (okWs_iff.mp k e (List.mem_of_getElem? h2)) (c i u e h1 h2)⟩
/-- what stands while a speech is made -/
structure Sg (pu nl : Addr) (H0 : Hp) (o : HO) (H : Hp) (M : Nat) (fs : List (Nat × V × PyData)) : Prop where
  b : But pu H0 H
  P : Purse H pu M
  l : H nl = some o
  n : nl ≠ pu
  t : ∀ f ∈ fs, okW f.2.2 = true ∧ Tr H f.1 f.2.1 f.2.2
variable {pu nl : Addr} {H0 H : Hp} {o : HO} {M : Nat} {fs : List (Nat × V × PyData)}
theorem Sg.new (S : Sg pu nl H0 o H M fs) {T : Addr} (q : HO) (h : H T = none) : Sg pu nl H0 o (upd H T q) M fs :=
  ⟨S.b.trans (But.of (Same.updf h)), S.P.same (Same.updf h), Same.updf h _ _ S.l, S.n, fun f m => ⟨(S.t f m).1, (S.t f m).2.same (Same.updf h)⟩⟩
theorem Sg.draw (S : Sg pu nl H0 o H M fs) {H' : Hp} {M' : Nat} (b : But pu H H') (P : Purse H' pu M') : Sg pu nl H0 o H' M' fs :=
  ⟨S.b.trans b, P, b _ _ S.n S.l, S.n, fun f m => ⟨(S.t f m).1, tr_but S.P b (S.t f m).1 (S.t f m).2⟩⟩
theorem Sg.tup (S : Sg pu nl H0 o H M fs) {T : Addr} (h : H T = none) (n : Nat) (xs : List V) (ds : List PyData) (k : okWs ds = true) (a : TA2 (upd H T (.tup xs)) n xs ds) (l : ds.length ≤ 1000) :
    Sg pu nl H0 o (upd H T (.tup xs)) M ((n + 1, .ref T, .tuple ds) :: fs) :=
  ⟨(S.new _ h).b, (S.new _ h).P, (S.new _ h).l, S.n, fun f m => by
    rcases List.mem_cons.mp m with rfl | m
    · exact ⟨k, TA2.tup upd_same a l⟩
    · exact (S.new _ h).t f m⟩
theorem Sg.at (S : Sg pu nl H0 o H M fs) (n : Nat) (x : V) (d : PyData) (m : (n, x, d) ∈ fs) : Tr H n x d := (S.t _ m).2
theorem ti {H : Hp} {n : Nat} (i : Int) : Tr H n (.int i) (.int i) := Tr.flat (.int i)
theorem ts {H : Hp} {n : Nat} (i : Str) : Tr H n (.str i) (.str i) := Tr.flat (.str i)
theorem tn {H : Hp} {n : Nat} : Tr H n .non .none := Tr.flat .non
section
variable {P : Program} {w : World} {K : PySem.W.Frag} {mg : Str → Option Value} {base : Heap}
abbrev s_speech : Stmt := top 54
abbrev N_speech : List Str := ["_law_purse_here", "_law_names", "_law_some"]
theorem sc_speech : FnScope N_speech ["_law_purse_here"] (defScope s_speech) := ⟨rfl, rfl, rfl, by decide +kernel, rfl, by decide +kernel, by decide +kernel⟩
theorem ok_speech {f : Addr} {fd : FuncData} (F : FnP K "_law_speech" s_speech f fd) (Z : FreeS mg)
    {f_words : Addr} {d_words : FuncData} (g_words : mg "_law_words" = some (.ref f_words)) (F_words : FnP K "_law_words" s_words f_words d_words) (G_words : FnOk P w K mg base CX0 4 f_words d_words ["_law_purse_here", "_law_many"] spLWords)
    {f_one_of : Addr} {d_one_of : FuncData} (g_one_of : mg "_law_one_of" = some (.ref f_one_of)) (F_one_of : FnP K "_law_one_of" s_one_of f_one_of d_one_of) (G_one_of : FnOk P w K mg base CX0 3 f_one_of d_one_of ["_law_purse_here", "_law_some"] (spOne K))
    {f_draw : Addr} {d_draw : FuncData} (g_draw : mg "_law_draw" = some (.ref f_draw)) (F_draw : FnP K "_law_draw" s_draw f_draw d_draw) (G_draw : FnOk P w K mg base CX0 2 f_draw d_draw ["_law_purse_here", "_law_many"] spDraw) :
    FnOk P w K mg base CX0 5 f fd ["_law_purse_here"] spSpeech := by
  have b_words : Binds K d_words ["_law_purse_here", "_law_many"] [] := F_words.bindsN fun _ _ _ _ _ _ us hl => match us, hl with | [_, _], _ => rfl
  have b_one_of : Binds K d_one_of ["_law_purse_here", "_law_some"] [] := F_one_of.bindsN fun _ _ _ _ _ _ us hl => match us, hl with | [_, _], _ => rfl
  have b_draw : Binds K d_draw ["_law_purse_here", "_law_many"] [] := F_draw.bindsN fun _ _ _ _ _ _ us hl => match us, hl with | [_, _], _ => rfl
  refine F.ok sc_speech (fun vs H Q E h => ?_) (fun cdv A outer s H vs Q E hr h => ?_)
  · obtain ⟨pu, N, rfl, _⟩ := h
    rfl
  · obtain ⟨pu, N, rfl, hP, hN, k⟩ := h
    have mx : ∀ m : Int, 1 ≤ m → m < 100 → mixes m = 1 := fun m h1 h2 => mixes_one h1 (by omega)
    have one : ∀ m : Int, 1 ≤ m → m < 100 → ∀ M, M ≤ 2 ^ 41 → M + mixes m ≤ 2 ^ 50 ∧ mixes m ≤ 2 ^ 50 := fun m h1 h2 M hM => by
      rw [mx m h1 h2]
      omega
    have nd := sc_speech.nd
    refine ⟨_, PSs.nox (pss_cons (ps_set (i := 1) nd rfl (Or.inl rfl) (pe_call G_words (hr.mono (by decide)) rfl g_words F_words.kp b_words .nil pass0 (pa_cons (pv 0) (pa_cons (pe_int) (pa_nil)))))
      (pss_cons (ps_set (i := 2) nd rfl (Or.inl rfl) (pe_lst (pa_cons (pe_tup (pa_cons (pe_str) (pa_cons (pe_tup (pa_cons (pe_ix ix_list (pv 1) (pe_int) (fun _ _ => rfl)) (pa_cons (pe_call G_draw (hr.mono (by decide)) rfl g_draw F_draw.kp b_draw .nil pass0 (pa_cons (pv 0) (pa_cons (pe_int) (pa_nil)))) (pa_nil)))) (pa_cons (pe_op op_add (pe_int) (pe_call G_draw (hr.mono (by decide)) rfl g_draw F_draw.kp b_draw .nil pass0 (pa_cons (pv 0) (pa_cons (pe_int) (pa_nil))))) (pa_cons (pe_non) (pa_nil)))))) (pa_cons (pe_tup (pa_cons (pe_str) (pa_cons (pe_tup (pa_cons (pe_ix ix_list (pv 1) (pe_int) (fun _ _ => rfl)) (pa_nil))) (pa_cons (pe_int) (pa_nil))))) (pa_cons (pe_tup (pa_cons (pe_str) (pa_cons (pe_tup (pa_cons (pe_ix ix_list (pv 1) (pe_int) (fun _ _ => rfl)) (pa_nil))) (pa_nil)))) (pa_cons (pe_tup (pa_nil)) (pa_cons (pe_tup (pa_cons (pe_int) (pa_cons (pe_non) (pa_cons (pe_ix ix_list (pv 1) (pe_int) (fun _ _ => rfl)) (pa_nil))))) (pa_nil))))))))
      (pss_one (ps_ret (pe_call G_one_of (hr.mono (by decide)) rfl g_one_of F_one_of.kp b_one_of .nil pass0 (pa_cons (pv 0) (pa_cons (pe_op op_cat (pv 2) (pe_lst (pa_cons (pe_tup (pa_cons (pe_str) (pa_cons (pe_tup (pa_cons (pe_int) (pa_cons (pe_int) (pa_nil)))) (pa_cons (pe_int) (pa_nil))))) (pa_cons (pe_tup (pa_cons (pe_tup (pa_cons (pe_tup (pa_cons (pe_tup (pa_nil)) (pa_nil))) (pa_nil))) (pa_nil))) (pa_cons (pe_tup (pa_cons (pe_str) (pa_cons (pe_ix ix_list (pv 1) (pe_int) (fun _ _ => rfl)) (pa_cons (pe_call G_draw (hr.mono (by decide)) rfl g_draw F_draw.kp b_draw .nil pass0 (pa_cons (pv 0) (pa_cons (pe_int) (pa_nil)))) (pa_nil))))) (pa_nil)))))) (pa_nil)))))))), ?_⟩
    have sl : (100 : Nat) ≤ sizeLine := by decide
    have dr : ∀ m : Int, 1 ≤ m → m < 100 → ∀ M, M ≤ N + 60 → ∀ H', Purse H' pu M → 1 ≤ m ∧ m.natAbs.log2 < 9000 ∧ Purse H' pu M ∧ M + mixes m ≤ 2 ^ 50 ∧ mixes m ≤ 2 ^ 50 := fun m h1 h2 M hM H' hP' =>
      ⟨h1, log_small h1 (by omega), hP', (one m h1 h2 M (by omega)).1, (one m h1 h2 0 (by omega)).2⟩
    refine ⟨_, rfl, pu, N, rfl, hP, by omega, fun nl n0 n1 H1 b1 P1 nfr hl w0 w1 => ?_⟩
    have S1 : Sg pu nl H (.lst [.str n0, .str n1]) H1 (N + 50) [] := ⟨b1, P1, hl, fresh_ne hP nfr, fun f m => nomatch m⟩
    have a0 : ∀ {x y : V}, atI [x, y] 0 = some x := atI_nat (j := 0) rfl
    have a1 : ∀ {x y : V}, atI [x, y] 1 = some y := atI_nat (j := 1) rfl
    have le : ∀ n : Nat, n ≤ 100 → n ≤ sizeLine := fun n h => by omega
    obtain ⟨d1, d2, d3, d4, d5⟩ := dr 99 (by decide) (by decide) (N + 50) (by omega) H1 S1.P
    refine ⟨_, rfl, nl, _, 0, .str n0, rfl, rfl, SqL.of S1.l, a0, _, rfl, pu, 99, N + 50, rfl, d1, d2, d3, d4, d5, fun r1 H2 r10 r11 b2 P2 => ?_⟩
    rw [mx 99 (by decide) (by decide)] at P2
    have S2 := S1.draw b2 P2
    refine ⟨le _ (by simp), fun T1 h1 => ?_⟩
    have S3 := S2.tup h1 3 [.str n0, .int r1] [.str n0, .int r1] (by simp [okWs, okW, w0, r10]; omega) ⟨ts _, ti _, trivial⟩ (by simp)
    obtain ⟨d1, d2, d3, d4, d5⟩ := dr 9 (by decide) (by decide) (N + 51) (by omega) _ S3.P
    refine ⟨_, rfl, pu, 9, N + 51, rfl, d1, d2, d3, d4, d5, fun r2 H4 r20 r21 b4 P4 => ⟨_, _, rfl, rfl, le _ (by simp), fun T2 h2 => ?_⟩⟩
    rw [mx 9 (by decide) (by decide)] at P4
    have S4 := S3.draw b4 P4
    have S5 := S4.tup h2 4 [.str (Str.ofString "put"), .ref T1, .int (1 + r2), .non] [.str (Str.ofString "put"), .tuple [.str n0, .int r1], .int (1 + r2), .none] (by
      have e1 : okW (.str (Str.ofString "put")) = true := by decide +kernel
      have e2 : okW (.int r1) = true := decide_eq_true ⟨r10, by omega⟩
      have e3 : okW (.int (1 + r2)) = true := decide_eq_true ⟨by omega, by omega⟩
      have e4 : okW (.str n0) = true := w0
      have e5 : okW (.tuple [.str n0, .int r1]) = true := by show okWs _ = true; simp only [okWs, e4, e2, Bool.and_self]
      simp only [okWs, e1, e3, e5, Bool.and_self]
      rfl) ⟨ts _, (S4.new _ h2).at 4 _ _ (by simp), ti _, tn, trivial⟩ (by simp)
    refine ⟨_, rfl, nl, _, 0, .str n0, rfl, rfl, SqL.of S5.l, a0, le _ (by simp), fun T3 h3 => ?_⟩
    have S6 := S5.tup h3 3 [.str n0] [.str n0] (by simp [okWs, okW, w0]) ⟨ts _, trivial⟩ (by simp)
    refine ⟨le _ (by simp), fun T4 h4 => ?_⟩
    have S7 := S6.tup h4 4 [.str (Str.ofString "copy"), .ref T3, .int 3] [.str (Str.ofString "copy"), .tuple [.str n0], .int 3] (by simp [okWs, okW, w0]; decide +kernel) ⟨ts _, (S6.new _ h4).at 4 _ _ (by simp), ti _, trivial⟩ (by simp)
    refine ⟨_, rfl, nl, _, 1, .str n1, rfl, rfl, SqL.of S7.l, a1, le _ (by simp), fun T5 h5 => ?_⟩
    have S8 := S7.tup h5 3 [.str n1] [.str n1] (by simp [okWs, okW, w1]) ⟨ts _, trivial⟩ (by simp)
    refine ⟨le _ (by simp), fun T6 h6 => ?_⟩
    have S9 := S8.tup h6 4 [.str (Str.ofString "trim"), .ref T5] [.str (Str.ofString "trim"), .tuple [.str n1]] (by simp [okWs, okW, w1]; decide +kernel) ⟨ts _, (S8.new _ h6).at 4 _ _ (by simp), trivial⟩ (by simp)
    refine ⟨le _ (by simp), fun T7 h7 => ?_⟩
    have S10 := S9.tup h7 4 [] [] rfl trivial (by simp)
    refine ⟨_, rfl, nl, _, 0, .str n0, rfl, rfl, SqL.of S10.l, a0, le _ (by simp), fun T8 h8 => ?_⟩
    have S11 := S10.tup h8 4 [.int 0, .non, .str n0] [.int 0, .none, .str n0] (by simp [okWs, okW, w0]) ⟨ti _, tn, ts _, trivial⟩ (by simp)
    refine ⟨le _ (by simp), fun L1 hL1 => ?_⟩
    have S12 := S11.new (.lst [.ref T2, .ref T4, .ref T6, .ref T7, .ref T8]) hL1
    have nL1 : L1 ≠ pu := fresh_ne S11.P hL1
    have R12 : Sg pu L1 H (.lst [.ref T2, .ref T4, .ref T6, .ref T7, .ref T8]) _ _ [] := ⟨S12.b, S12.P, upd_same, nL1, fun f m => nomatch m⟩
    refine ⟨_, rfl, _, rfl, le _ (by simp), fun T9 h9 => ?_⟩
    have R13 := R12.new (.tup [.int 0, .int 3]) h9
    have S13 := S12.tup h9 3 [.int 0, .int 3] [.int 0, .int 3] (by simp [okWs, okW]) ⟨ti _, ti _, trivial⟩ (by simp)
    refine ⟨le _ (by simp), fun T10 h10 => ?_⟩
    have R14 := R13.new (.tup [.str (Str.ofString "clear"), .ref T9, .int 7]) h10
    have S14 := S13.tup h10 4 [.str (Str.ofString "clear"), .ref T9, .int 7] [.str (Str.ofString "clear"), .tuple [.int 0, .int 3], .int 7] (by simp [okWs, okW]; decide +kernel) ⟨ts _, (S13.new _ h10).at 4 _ _ (by simp), ti _, trivial⟩ (by simp)
    refine ⟨le _ (by simp), fun T11 h11 => ?_⟩
    have R15 := R14.new (.tup []) h11
    have S15 := S14.tup h11 1 [] [] rfl trivial (by simp)
    refine ⟨le _ (by simp), fun T12 h12 => ?_⟩
    have R16 := R15.new (.tup [.ref T11]) h12
    have S16 := S15.tup h12 2 [.ref T11] [.tuple []] rfl ⟨(S15.new _ h12).at 2 _ _ (by simp), trivial⟩ (by simp)
    refine ⟨le _ (by simp), fun T13 h13 => ?_⟩
    have R17 := R16.new (.tup [.ref T12]) h13
    have S17 := S16.tup h13 3 [.ref T12] [.tuple [.tuple []]] rfl ⟨(S16.new _ h13).at 3 _ _ (by simp), trivial⟩ (by simp)
    refine ⟨le _ (by simp), fun T14 h14 => ?_⟩
    have R18 := R17.new (.tup [.ref T13]) h14
    have S18 := S17.tup h14 4 [.ref T13] [.tuple [.tuple [.tuple []]]] rfl ⟨(S17.new _ h14).at 4 _ _ (by simp), trivial⟩ (by simp)
    obtain ⟨d1, d2, d3, d4, d5⟩ := dr 9 (by decide) (by decide) (N + 52) (by omega) _ S18.P
    refine ⟨_, rfl, nl, _, 0, .str n0, rfl, rfl, SqL.of S18.l, a0, _, rfl, pu, 9, N + 52, rfl, d1, d2, d3, d4, d5, fun r3 H19 r30 r31 b19 P19 => ⟨le _ (by simp), fun T15 h15 => ?_⟩⟩
    rw [mx 9 (by decide) (by decide)] at P19
    have R19 := (R18.draw b19 P19).new (.tup [.str (Str.ofString "pin"), .str n0, .int r3]) h15
    have S19 := (S18.draw b19 P19).tup h15 4 [.str (Str.ofString "pin"), .str n0, .int r3] [.str (Str.ofString "pin"), .str n0, .int r3] (by
      have e1 : okW (.str (Str.ofString "pin")) = true := by decide +kernel
      have e2 : okW (.int r3) = true := decide_eq_true ⟨r30, by omega⟩
      have e4 : okW (.str n0) = true := w0
      simp only [okWs, e1, e4, e2, Bool.and_self]) ⟨ts _, ts _, ti _, trivial⟩ (by simp)
    refine ⟨le _ (by simp), fun L2 hL2 => ?_⟩
    have R20 := R19.new (.lst [.ref T10, .ref T14, .ref T15]) hL2
    have S20 := S19.new (.lst [.ref T10, .ref T14, .ref T15]) hL2
    refine ⟨L1, L2, _, _, rfl, rfl, R20.l, upd_same, le _ (by simp), fun L3 hL3 => ?_⟩
    have S21 := S20.new (.lst ([.ref T2, .ref T4, .ref T6, .ref T7, .ref T8] ++ [.ref T10, .ref T14, .ref T15])) hL3
    refine ⟨pu, L3, _, N + 53, rfl, fresh_ne S20.P hL3, SqL.of upd_same, by simp, by simp, S21.P, by omega, fun x H' m b P => ?_⟩
    have S := S21.draw b P
    have fin : ∀ T ds, (5, V.ref T, PyData.tuple ds) ∈ _ → szWs ds ≤ 7 → Q (.ref T) H' := fun T ds m z => k T ds H' S.b (S.P.mono (by omega)) (S.t _ m).2 (S.t _ m).1 z
    simp at m
    rcases m with rfl | rfl | rfl | rfl | rfl | rfl | rfl | rfl
    · exact fin T2 [.str (Str.ofString "put"), .tuple [.str n0, .int r1], .int (1 + r2), .none] (by simp) (by simp [szWs, szW])
    · exact fin T4 [.str (Str.ofString "copy"), .tuple [.str n0], .int 3] (by simp) (by simp [szWs, szW])
    · exact fin T6 [.str (Str.ofString "trim"), .tuple [.str n1]] (by simp) (by simp [szWs, szW])
    · exact fin T7 [] (by simp) (by simp [szWs])
    · exact fin T8 [.int 0, .none, .str n0] (by simp) (by simp [szWs, szW])
    · exact fin T10 [.str (Str.ofString "clear"), .tuple [.int 0, .int 3], .int 7] (by simp) (by simp [szWs, szW])
    · exact fin T14 [.tuple [.tuple [.tuple []]]] (by simp) (by simp [szWs, szW])
    · exact fin T15 [.str (Str.ofString "pin"), .str n0, .int r3] (by simp) (by simp [szWs, szW])
end
end K33
set_option Elab.async false
set_option linter.all false
set_option maxRecDepth 100000
set_option maxHeartbeats 8000000
namespace K33
open PySem PySem.Spec PyProof.Rows L2 KB
/-- the pages of a log, in a new list -/
def spOfP : Sp := fun vs H Q _ => ∃ (a : Addr) (ds : List Dd), vs = [.ref a] ∧ LogAt H a ds ∧ Lg ds ∧ ∀ q H', Same H H' → H q = none → H' q = some (.lst (numsV (pgs ds))) → Q (.ref q) H'
theorem sel_not (r l : List Nat) : ((List.range r.length).filterMap fun j => (r[j]?).bind fun x => if x ∈ l then none else some (V.int (x : Int))) = numsV (r.filter fun x => decide (x ∉ l)) := by
  induction r with
  | nil => rfl
  | cons x r ih =>
    rw [List.length_cons, List.range_succ_eq_map, List.filterMap_cons, List.filterMap_map, List.filter_cons]
    have e : ((fun j => ((x :: r)[j]?).bind fun x => if x ∈ l then none else some (V.int (x : Int))) ∘ Nat.succ) = fun j => (r[j]?).bind fun x => if x ∈ l then none else some (V.int (x : Int)) := rfl
    rw [e, ih]
    by_cases h : x ∈ l
    · simp [h]
    · simp [h, numsV]
theorem flat_nums2 (l : List Nat) : (numsV l).all flatV = true := by
  rw [List.all_eq_true]
  intro v m
  obtain ⟨y, _, rfl⟩ := List.mem_map.mp m
  rfl
theorem inV_nums2 (x : Nat) : ∀ l : List Nat, inV (.int (x : Int)) (numsV l) = decide (x ∈ l)
  | [] => by simp [inV, numsV]
  | y :: l => by
    have ih := inV_nums2 x l
    have e : eqV (.int (y : Int)) (.int (x : Int)) = decide (x = y) := by
      show ((y : Int) == (x : Int)) = _
      by_cases h : x = y
      · subst h
        simp
      · simp [h]
        omega
    unfold inV numsV at *
    rw [List.map_cons, List.any_cons, ih, e]
    simp [List.mem_cons]
theorem numsV_app (l m : List Nat) : numsV l ++ numsV m = numsV (l ++ m) := by
  unfold numsV
  rw [List.map_append]
theorem le_uniq : ∀ {l m : List Int}, l.Perm m → l.Pairwise (· ≤ ·) → m.Pairwise (· ≤ ·) → l = m
  | [], m, p, _, _ => (List.nil_perm.mp p).symm
  | x :: l, [], p, _, _ => by
    have := p.length_eq
    cases this
  | x :: l, y :: m, p, hl, hm => by
    obtain ⟨l1, l2⟩ := List.pairwise_cons.mp hl
    obtain ⟨m1, m2⟩ := List.pairwise_cons.mp hm
    have e : x = y := by
      have a : x ∈ y :: m := p.mem_iff.mp List.mem_cons_self
      have b : y ∈ x :: l := p.mem_iff.mpr List.mem_cons_self
      rcases List.mem_cons.mp a with a | a
      · exact a
      · rcases List.mem_cons.mp b with b | b
        · exact b.symm
        · have := m1 _ a
          have := l1 _ b
          omega
    subst e
    rw [le_uniq (List.Perm.cons_inv p) l2 m2]
section
variable {P : Program} {w : World} {K : PySem.W.Frag} {mg : Str → Option Value} {base : Heap}
abbrev s_of_pages : Stmt := top 57
abbrev N_of_pages : List Str := ["_law_log_here", "_law_found", "_law_deed", "_law_page"]
theorem sc_of_pages : FnScope N_of_pages ["_law_log_here"] (defScope s_of_pages) := ⟨rfl, rfl, rfl, by decide +kernel, rfl, by decide +kernel, by decide +kernel⟩
theorem ok_of_pages {f : Addr} {fd : FuncData} (F : FnP K "_law_of_pages" s_of_pages f fd) (Z : FreeS mg) :
    FnOk P w K mg base CX0 1 f fd ["_law_log_here"] spOfP := by
  refine F.ok sc_of_pages (fun vs H Q E h => ?_) (fun cdv A outer s H vs Q E hr h => ?_)
  · obtain ⟨a, ds, rfl, _⟩ := h
    rfl
  · obtain ⟨a, ds, rfl, hL, hG, k⟩ := h
    obtain ⟨xs, ha, lx, hx⟩ := id hL
    have l60 := hG.len
    have pl := hG.pl
    have sl : (2000 : Nat) ≤ sizeLine := by decide
    have nd := sc_of_pages.nd
    refine ⟨_, PSs.nox (pss_cons (ps_set (i := 1) nd rfl (Or.inr rfl) (pe_lst (pa_nil)))
      (pss_cons (ps_for PassesOwn.never rfl (pi_list (pv 0)) (pg_name (i := 2) nd rfl (Or.inl rfl))
        (pss_one (ps_set (i := 1) nd rfl (Or.inr rfl) (pe_op op_cat (pv 1) (pe_lc (own := [("_law_page", 3)]) (g := gName 3) (tt := tTest (tOp (rIn K true) (tVar 3) (tVar 1))) (te := tVar 3) (by rfl) nd (pi_list (pe_ix ix_tup (pv 2) (pe_int) (fun _ _ => rfl)))
          (blkOk_by (own := [("_law_page", 3)]) (N := N_of_pages) (sc := defScope s_of_pages) (by decide +kernel)) (fun _ _ _ _ _ => pg_name (i := 3) nd rfl (Or.inl rfl)) (fun _ _ _ _ _ => pts_one (pt_cmpR op_notIn_seq (pv 3) (pv 1) (by rfl)))
          (fun _ _ _ _ _ => pv 3))))))
      (pss_one (ps_ret (pe_callB (cr_sorted) (by rfl) Z.sorted (by decide +kernel) (pa_cons (pv 1) pa_nil)))))), ?_⟩
    refine ⟨Nat.zero_le _, fun L0 hL0 => ?_⟩
    have s0 : Same H (upd H L0 (.lst [])) := Same.updf hL0
    refine ⟨_, rfl, a, rfl, ⟨_, SqL.of (s0 _ _ ha)⟩, ?_⟩
    have sub : ∀ {l : List Nat} {i : Nat}, l.Nodup → (∀ x, x ∈ l ↔ ∃ d ∈ ds.take i, x ∈ d.r) → l.length ≤ 30 := fun {l i} nl ml => by
      have := List.Nodup.length_le_of_subset (l₂ := pgs ds) nl fun x m => by
        obtain ⟨d, hd, hx⟩ := (ml x).mp m
        exact pgs_mem.mpr ⟨d, List.mem_of_mem_take hd, hx⟩
      omega
    refine for_it (walk_list (K := K) (a := a) (xs := xs)) (fun i σ G => Same H G ∧ ∃ (L : Addr) (l : List Nat) (v2 v3 : Option V), G L = some (.lst (numsV l)) ∧ l.Nodup ∧ (∀ x, x ∈ l ↔ ∃ d ∈ ds.take i, x ∈ d.r) ∧ σ = [some (.ref a), some (.ref L), v2, v3])
      ⟨s0, L0, [], _, _, upd_same, .nil, (fun x => by simp), rfl⟩ (fun i σ G _ hh => SqL.of (hh.1 _ _ ha)) ?_ ?_
    · rintro i x σ G G' hi ⟨sG, L, l, v2, v3, hl, nl, ml, rfl⟩ ⟨rfl, hv⟩
      have li : i < ds.length := by omega
      have hd : ds[i]? = some ds[i] := List.getElem?_eq_getElem li
      obtain ⟨t, rd, tw, rfl, ht, hr1, _⟩ := (hx i x _ hv hd).same sG
      have okd := hG.ok ds[i] (List.getElem_mem li)
      have l20 := okd.len
      have l30 := sub nl ml
      refine ⟨_, rfl, ?_⟩
      refine ⟨_, rfl, t, _, 2, .ref rd, rfl, rfl, SqT.of ht, rfl, rd, rfl, ⟨_, SqL.of hr1⟩, fun D hD => ?_⟩
      have ln : (numsV ds[i].r).length = ds[i].r.length := List.length_map _
      refine lc_sel (n := (numsV ds[i].r).length) (walk_list (K := K) (a := rd) (xs := numsV ds[i].r)) (fun j => (ds[i].r[j]?).bind fun x => if x ∈ l then none else some (V.int (x : Int))) (by omega) hD (fun H2 s2 => SqL.of (s2 _ _ hr1)) ?_ ?_
      · rintro j v H5 H6 Qy Qn hj s5 ⟨rfl, hy⟩ ky kn
        have lj : j < ds[i].r.length := by omega
        unfold numsV at hy
        rw [List.getElem?_map, List.getElem?_eq_getElem lj] at hy
        obtain rfl := Option.some.inj hy
        refine ⟨rfl, _, rfl, _, rfl, L, numsV l, rfl, .inl (SqL.of (s5 _ _ hl)), rfl, flat_nums2 l, _, rfl, ?_⟩
        rw [inV_nums2]
        by_cases e : ds[i].r[j] ∈ l
        · rw [decide_eq_true e]
          exact iteF (kn _ (Same.refl _) (by rw [List.getElem?_eq_getElem lj]; exact if_pos e))
        · rw [decide_eq_false e]
          exact iteT ⟨_, rfl, ky _ _ (Same.refl _) (by rw [List.getElem?_eq_getElem lj]; exact if_neg e)⟩
      · intro H5 s5 hR
        rw [ln, sel_not] at hR
        have fl := List.length_filter_le (fun x => decide (x ∉ l)) ds[i].r
        refine ⟨L, D, _, _, rfl, rfl, s5 _ _ hl, hR, (by unfold numsV; rw [List.length_map, List.length_map]; omega), fun q hq => ?_⟩
        refine ⟨fun b o e => Same.updf hq _ _ (s5 _ _ (sG _ _ e)), q, l ++ ds[i].r.filter (fun x => decide (x ∉ l)), _, _, by rw [upd_same, numsV_app], ?_, fun x => ?_, rfl⟩
        · rw [List.nodup_append]
          refine ⟨nl, (okd.asc.imp fun h => Nat.ne_of_lt h).filter _, fun x m y n z => ?_⟩
          have := (List.mem_filter.mp n).2
          rw [← z] at this
          exact of_decide_eq_true this m
        · rw [List.mem_append, ml x, List.mem_filter, decide_eq_true_eq, List.take_succ, hd]
          constructor
          · rintro (⟨d, m, n⟩ | ⟨m, _⟩)
            · exact ⟨d, List.mem_append_left _ m, n⟩
            · exact ⟨_, List.mem_append_right _ (by simp), m⟩
          · rintro ⟨d, m, n⟩
            rcases List.mem_append.mp m with m | m
            · exact .inl ⟨d, m, n⟩
            · simp at m
              subst m
              by_cases z : x ∈ l
              · exact .inl ((ml x).mp z)
              · exact .inr ⟨n, z⟩
    · rintro σ G ⟨sG, L, l, v2, v3, hl, nl, ml, rfl⟩
      rw [lx, List.take_length] at ml
      have l30 := sub (i := ds.length) nl (by rw [List.take_length]; exact ml)
      have mm : ∀ m : List Nat, (m.map fun x : Nat => (x : Int)).map V.int = numsV m := fun m => by
        rw [List.map_map]
        rfl
      refine ⟨_, rfl, L, l.map fun x : Nat => (x : Int), rfl, SqL.of (by rw [mm]; exact hl), by rw [List.length_map]; omega, fun ns p hp hs hn => ?_⟩
      have pe : l.Perm (pgs ds) := (List.perm_ext_iff_of_nodup nl ((pgs_asc ds).imp fun h => Nat.ne_of_lt h)).mpr fun x => by rw [ml x, pgs_mem]
      have e : ns = (pgs ds).map fun x : Nat => (x : Int) := le_uniq (hp.trans (pe.map _)) hs (List.pairwise_map.mpr ((pgs_asc ds).imp fun h => by omega))
      refine k p _ (sG.trans (Same.updf hn)) (none_back sG hn) ?_
      rw [upd_same, e, mm]
end
end K33
set_option Elab.async false
set_option linter.all false
set_option maxRecDepth 100000
set_option maxHeartbeats 8000000
namespace K33
open PySem PySem.Spec PyProof.Rows L2 KB
/-- a right log, in a new list; none of it is the purse -/
def spLog : Sp := fun vs H Q _ => ∃ (pu pg : Addr) (n N : Nat) (ps : List Nat), vs = [.ref pu, .int (n : Int), .ref pg] ∧ n ≤ 10 ∧ Purse H pu N ∧ N ≤ 2 ^ 36 ∧ pg ≠ pu ∧ H pg = some (.lst (numsV ps)) ∧ 1 ≤ ps.length ∧ ps.length ≤ 6 ∧ ps.Pairwise (· < ·) ∧
  ∀ q ds H', But pu H H' → Purse H' pu (N + 100 * n) → H q = none → LogAt (off H' pu) q ds → Lg ds → ds.length = n → (∀ d ∈ ds, ∀ x ∈ d.r, x ∈ ps) → (∀ d ∈ ds, d.n ≤ 100) → Q (.ref q) H'
theorem but_off {p : Addr} {A B : Hp} (k : But p A B) : Same (off A p) (off B p) := fun c o e => by
  by_cases n : c = p
  · unfold off at e
    rw [if_pos n] at e
    cases e
  · rw [off_at n] at e ⊢
    exact k c o n e
theorem off2_upd (X : Hp) (p L : Addr) (o : HO) : off (off (upd X L o) p) L = off (off X p) L := by
  funext c
  by_cases c1 : c = L
  · unfold off
    rw [if_pos c1, if_pos c1]
  · unfold off
    rw [if_neg c1, if_neg c1, upd_ne c1]
theorem tr_tup {H H' : Hp} (k : ∀ a xs, H a = some (.tup xs) → H' a = some (.tup xs)) : ∀ {n : Nat} {x : V} {d : PyData}, okW d = true → Tr H n x d → Tr H' n x d
  | 0, _, _, _, h => h
  | n + 1, x, d, o, h => by
    rcases h with h | ⟨a, xs, ds, rfl, l, l2, t, c⟩
    · exact .inl h
    · rcases t with ⟨_, rfl⟩ | ⟨ha, rfl⟩
      · exact absurd o Bool.false_ne_true
      · exact .inr ⟨a, xs, ds, rfl, l, l2, .inr ⟨k _ _ ha, rfl⟩, fun i u e h1 h2 => tr_tup k (okWs_iff.mp o e (List.mem_of_getElem? h2)) (c i u e h1 h2)⟩
section
variable {P : Program} {w : World} {K : PySem.W.Frag} {mg : Str → Option Value} {base : Heap}
abbrev s_log : Stmt := top 55
abbrev N_log : List Str := ["_law_purse_here", "_law_many", "_law_pages", "_law_found", "_law_number", "_law_spin", "_law_page", "_law_reads", "_law_late"]
theorem sc_log : FnScope N_log ["_law_purse_here", "_law_many", "_law_pages"] (defScope s_log) := ⟨rfl, rfl, rfl, by decide +kernel, rfl, by decide +kernel, by decide +kernel⟩
theorem ok_log {f : Addr} {fd : FuncData} (F : FnP K "_law_log" s_log f fd) (Z : FreeS mg)
    {f_one_of : Addr} {d_one_of : FuncData} (g_one_of : mg "_law_one_of" = some (.ref f_one_of)) (F_one_of : FnP K "_law_one_of" s_one_of f_one_of d_one_of) (G_one_of : FnOk P w K mg base CX0 3 f_one_of d_one_of ["_law_purse_here", "_law_some"] (spOne K))
    {f_draw : Addr} {d_draw : FuncData} (g_draw : mg "_law_draw" = some (.ref f_draw)) (F_draw : FnP K "_law_draw" s_draw f_draw d_draw) (G_draw : FnOk P w K mg base CX0 2 f_draw d_draw ["_law_purse_here", "_law_many"] spDraw)
    {f_speech : Addr} {d_speech : FuncData} (g_speech : mg "_law_speech" = some (.ref f_speech)) (F_speech : FnP K "_law_speech" s_speech f_speech d_speech) (G_speech : FnOk P w K mg base CX0 5 f_speech d_speech ["_law_purse_here"] spSpeech) :
    FnOk P w K mg base CX0 6 f fd ["_law_purse_here", "_law_many", "_law_pages"] spLog := by
  have b_one_of : Binds K d_one_of ["_law_purse_here", "_law_some"] [] := F_one_of.bindsN fun _ _ _ _ _ _ us hl => match us, hl with | [_, _], _ => rfl
  have b_draw : Binds K d_draw ["_law_purse_here", "_law_many"] [] := F_draw.bindsN fun _ _ _ _ _ _ us hl => match us, hl with | [_, _], _ => rfl
  have b_speech : Binds K d_speech ["_law_purse_here"] [] := F_speech.bindsN fun _ _ _ _ _ _ us hl => match us, hl with | [_], _ => rfl
  refine F.ok sc_log (fun vs H Q E h => ?_) (fun cdv A outer s H vs Q E hr h => ?_)
  · obtain ⟨pu, pg, n, N, ps, rfl, _⟩ := h
    rfl
  · obtain ⟨pu, pg, n, N, ps, rfl, n10, hP, hN, npg, hpg, p1, p6, ap, k⟩ := h
    have mx : ∀ m : Int, 1 ≤ m → m < 100 → mixes m = 1 := fun m h1 h2 => mixes_one h1 (by omega)
    have one : ∀ m : Int, 1 ≤ m → m < 100 → ∀ M, M ≤ 2 ^ 41 → M + mixes m ≤ 2 ^ 50 ∧ mixes m ≤ 2 ^ 50 := fun m h1 h2 M hM => by
      rw [mx m h1 h2]
      omega
    have sl : (2000 : Nat) ≤ sizeLine := by decide
    have nd := sc_log.nd
    refine ⟨_, PSs.nox (pss_cons (ps_par (i := 3) (j := 4) rfl nd rfl rfl (by decide) rfl rfl (pa_cons (pe_lst (pa_nil)) (pa_cons (pe_int) (pa_nil))) rfl)
      (pss_cons (ps_for PassesOwn.never rfl (pi_range1 (by rfl) Z.range (pa_cons (pv 1) (pa_nil))) (pg_name (i := 5) nd rfl (Or.inl rfl))
        (pss_cons (ps_set (i := 4) nd rfl (Or.inl rfl) (pe_op op_add (pe_op op_add (pv 4) (pe_int)) (pe_op op_mul (pe_call G_draw (hr.mono (by decide)) rfl g_draw F_draw.kp b_draw .nil pass0 (pa_cons (pv 0) (pa_cons (pe_int) (pa_nil)))) (pe_callTy call_int1 (by rfl) Z.int (by decide +kernel) (pa_cons (pe_cmpR op_eq (pe_call G_draw (hr.mono (by decide)) rfl g_draw F_draw.kp b_draw .nil pass0 (pa_cons (pv 0) (pa_cons (pe_int) (pa_nil)))) (pe_int) (nomark _)) (pa_nil))))))
      (pss_cons (ps_set (i := 6) nd rfl (Or.inr rfl) (pe_call G_one_of (hr.mono (by decide)) rfl g_one_of F_one_of.kp b_one_of .nil pass0 (pa_cons (pv 0) (pa_cons (pv 2) (pa_nil)))))
      (pss_cons (ps_set (i := 7) nd rfl (Or.inl rfl) (pe_callB (cr_sorted) (by rfl) Z.sorted (by decide +kernel) (pa_cons (pe_op op_cat (pe_lst (pa_cons (pv 6) (pa_nil))) (pe_lc (own := [("_law_late", 8)]) (g := gName 8) (tt := tAnd (tTest (tOp rNe (tVar 8) (tVar 6))) (tTest (tOp rEq (tCall spDraw [] E0 (tCons (tVar 0) (tCons (tC (.int 3)) (tNil)))) (tC (.int 0))))) (te := tVar 8) (by rfl) nd (pi_list (pv 2))
          (blkOk_by (own := [("_law_late", 8)]) (N := N_log) (sc := defScope s_log) (by decide +kernel)) (fun _ _ _ _ _ => pg_name (i := 8) nd rfl (Or.inl rfl)) (fun _ _ _ _ _ => pts_one (PW.pt (pw_and (pt_cmpR op_ne (pv 8) (pv 6) (nomark _)) (pw_and1 (pt_cmpR op_eq (pe_call G_draw (hr.mono (by decide)) rfl g_draw F_draw.kp b_draw .nil pass0 (pa_cons (pv 0) (pa_cons (pe_int) (pa_nil)))) (pe_int) (nomark _))))))
          (fun _ _ _ _ _ => pv 8))) (pa_nil))))
      (pss_one (ps_expr (pe_bm PySem.F.plainAttrs_list PySem.F.slot_list_append PySem.F.type_list_append mt_append (pv 3) (pa_cons (pe_tup (pa_cons (pv 4) (pa_cons (pv 6) (pa_cons (pv 7) (pa_cons (pe_call G_speech (hr.mono (by decide)) rfl g_speech F_speech.kp b_speech .nil pass0 (pa_cons (pv 0) (pa_nil))) (pa_nil)))))) (pa_nil)))))))))
      (pss_one (ps_ret (pv 3))))), ?_⟩
    have dr : ∀ m : Int, 1 ≤ m → m < 100 → ∀ M, M ≤ N + 2000 → ∀ H', Purse H' pu M → 1 ≤ m ∧ m.natAbs.log2 < 9000 ∧ Purse H' pu M ∧ M + mixes m ≤ 2 ^ 50 ∧ mixes m ≤ 2 ^ 50 := fun m h1 h2 M hM H' hP' =>
      ⟨h1, log_small h1 (by omega), hP', (one m h1 h2 M (by omega)).1, (one m h1 h2 0 (by omega)).2⟩
    refine ⟨Nat.zero_le _, fun L hL => ⟨_, _, rfl, ?_⟩⟩
    have nL : L ≠ pu := fresh_ne hP hL
    have nLg : pg ≠ L := ne_of_none hpg hL
    have PL : Purse (upd H L (.lst [])) pu N := hP.same (Same.updf hL)
    refine ⟨_, rfl, (n : Int), rfl, by omega, by omega, ?_⟩
    rw [Int.toNat_natCast]
    refine for_it (walk_range (lo := 0) (n := n)) (fun i σ G => But pu H G ∧ (∃ M, Purse G pu M ∧ M ≤ N + 90 * i) ∧ ∃ (xs : List V) (ds : List Dd) (g : Nat) (v5 v6 v7 : Option V), G L = some (.lst xs) ∧ xs.length = ds.length ∧ ds.length = i ∧
        (∀ (j : Nat) (x : V) (d : Dd), xs[j]? = some x → ds[j]? = some d → DeedAt (off (off G pu) L) x d) ∧ (∀ d ∈ ds, d.Ok ∧ d.n ≤ g ∧ ∀ x ∈ d.r, x ∈ ps) ∧ (ds.Pairwise fun d e => d.n < e.n) ∧ g ≤ 3 * i ∧
        σ = [some (.ref pu), some (.int (n : Int)), some (.ref pg), some (.ref L), some (.int (g : Int)), v5, v6, v7, none])
      ⟨But.of (Same.updf hL), ⟨_, PL, by omega⟩, [], [], 0, _, _, _, upd_same, rfl, rfl, (fun j x d e => by simp at e), (fun d m => nomatch m), .nil, Nat.zero_le _, rfl⟩ (fun i σ G _ _ => trivial) ?_ ?_
    · rintro i x σ G G' hi ⟨bG, ⟨M, PM, lM⟩, xs, ds, g, v5, v6, v7, hx, lx, ld, dx, okx, ax, g3, rfl⟩ ⟨rfl, rfl⟩
      obtain ⟨d1, d2, d3, d4, d5⟩ := dr 3 (by decide) (by decide) M (by omega) _ PM
      refine ⟨_, rfl, _, _, rfl, rfl, _, rfl, pu, 3, M, rfl, d1, d2, d3, d4, d5, fun r1 G1 r10 r11 b1 P1 => ?_⟩
      rw [mx 3 (by decide) (by decide)] at P1
      obtain ⟨d1, d2, d3, d4, d5⟩ := dr 4 (by decide) (by decide) (M + 1) (by omega) _ P1
      refine ⟨_, rfl, pu, 4, M + 1, rfl, d1, d2, d3, d4, d5, fun r2 G2 r20 r21 b2 P2 => ?_⟩
      rw [mx 4 (by decide) (by decide)] at P2
      obtain ⟨r1, rfl⟩ : ∃ q : Nat, r1 = (q : Int) := ⟨r1.toNat, by omega⟩
      refine ⟨rfl, .inr ⟨_, rfl, _, _, rfl, rfl, .inl ⟨by omega, by omega⟩, _, _, rfl, rfl, ?_⟩⟩
      obtain ⟨g', eg, lg, lg3⟩ : ∃ g' : Nat, ((g : Int) + 1 + (r1 : Int) * (if decide (V.int r2 = V.int 0) = true then 1 else 0)) = (g' : Int) ∧ g < g' ∧ g' ≤ g + 3 := by
        split
        · exact ⟨g + 1 + r1, by omega, by omega, by omega⟩
        · exact ⟨g + 1, by omega, by omega, by omega⟩
      show gName 4 (V.int ((g : Int) + 1 + (r1 : Int) * (if decide (V.int r2 = V.int 0) = true then 1 else 0))) _ _ _
      rw [eg]
      have b12 := (bG.trans b1).trans b2
      have hp2 : G2 pg = some (.lst (numsV ps)) := b12 _ _ npg hpg
      have lnp : (numsV ps).length = ps.length := List.length_map _
      refine ⟨_, rfl, _, rfl, pu, pg, numsV ps, M + 2, rfl, npg, SqL.of hp2, by omega, by omega, P2, by omega, fun x G3 hxm b3 P3 => ?_⟩
      obtain ⟨pp, mpp, rfl⟩ := List.mem_map.mp hxm
      have hp3 := b3 _ _ npg hp2
      have hL3 : G3 L = some (.lst xs) := b3 _ _ nL (b2 _ _ nL (b1 _ _ nL hx))
      refine ⟨_, rfl, (by show 1 ≤ sizeLine; omega), fun A1 hA1 => ?_⟩
      have s4 := Same.updf (o := .lst [V.int (pp : Int)]) hA1
      have nA1 : A1 ≠ pu := fresh_ne P3 hA1
      refine ⟨_, rfl, pg, rfl, ⟨_, SqL.of (s4 _ _ hp3)⟩, fun D hD => ?_⟩
      have P4 : Purse (upd (upd G3 A1 (.lst [.int (pp : Int)])) D (.lst [])) pu (M + 3) := (P3.same s4).same (Same.updf hD)
      refine lc_it (walk_list (K := K) (a := pg) (xs := numsV ps)) (fun j H5 => But pu (upd G3 A1 (.lst [.int (pp : Int)])) H5 ∧ (∃ M', Purse H5 pu M' ∧ M' ≤ M + 3 + j) ∧ ∃ ys : List Nat, H5 D = some (.lst (numsV ys)) ∧ ys.Sublist (ps.take j) ∧ pp ∉ ys)
        ⟨But.of (Same.updf hD), ⟨_, P4, Nat.le_refl _⟩, [], upd_same, List.nil_sublist _, fun h => nomatch h⟩ (fun j H5 _ hh => SqL.of (hh.1 _ _ npg (s4 _ _ hp3))) ?_ ?_
      · rintro j x H5 H6 hj ⟨b5, ⟨M', P5, lM'⟩, ys, hys, sy, ny⟩ ⟨rfl, hv⟩
        have lj : j < ps.length := by omega
        unfold numsV at hv
        rw [List.getElem?_map, List.getElem?_eq_getElem lj] at hv
        obtain rfl := Option.some.inj hv
        have tk : ps.take (j + 1) = ps.take j ++ [ps[j]] := by
          rw [List.take_succ, List.getElem?_eq_getElem lj]
          rfl
        have nD : D ≠ pu := fresh_ne (P3.same s4) hD
        have ly : ys.length ≤ 6 := by
          have := sy.length_le
          rw [List.length_take] at this
          omega
        have stay : ∀ {H7 : Hp} {M7 : Nat}, But pu H6 H7 → Purse H7 pu M7 → M7 ≤ M + 3 + (j + 1) → But pu (upd G3 A1 (.lst [.int (pp : Int)])) H7 ∧ (∃ M', Purse H7 pu M' ∧ M' ≤ M + 3 + (j + 1)) ∧ ∃ ys : List Nat, H7 D = some (.lst (numsV ys)) ∧ ys.Sublist (ps.take (j + 1)) ∧ pp ∉ ys := fun b7 P7 l7 =>
          ⟨b5.trans b7, ⟨_, P7, l7⟩, ys, b7 _ _ nD hys, by rw [tk]; exact sy.trans (List.sublist_append_left _ _), ny⟩
        refine ⟨rfl, _, rfl, _, rfl, ⟨rfl, _, rfl, ?_⟩⟩
        by_cases e : ps[j] = pp
        · rw [e]
          simp only [decide_true, Bool.not_true]
          exact iteF (iteF (stay (But.refl _ _) P5 (by omega)))
        · have e1 : (!decide (V.int (ps[j] : Int) = V.int (pp : Int))) = true := by
            simp
            omega
          rw [e1]
          obtain ⟨d1, d2, d3, d4, d5⟩ := dr 3 (by decide) (by decide) M' (by omega) _ P5
          refine iteT ⟨_, rfl, pu, 3, M', rfl, d1, d2, d3, d4, d5, fun r3 H7 r30 r31 b7 P7 => ?_⟩
          rw [mx 3 (by decide) (by decide)] at P7
          refine ⟨rfl, _, rfl, ?_⟩
          by_cases e3 : r3 = 0
          · subst e3
            refine iteT ⟨_, rfl, numsV ys, b7 _ _ nD hys, (by unfold numsV; rw [List.length_map]; omega), ?_⟩
            refine ⟨fun c o n e => ?_, ⟨_, P7.same' (upd_ne nD.symm), by omega⟩, ys ++ [ps[j]], ?_, ?_, ?_⟩
            · rw [upd_ne (ne_of_none e hD)]
              exact b7 _ _ n (b5 _ _ n e)
            · rw [upd_same, numsV_snoc]
            · rw [tk]
              exact sy.append (List.Sublist.refl _)
            · intro m
              rcases List.mem_append.mp m with m | m
              · exact ny m
              · exact e (List.mem_singleton.mp m).symm
          · rw [decide_eq_false (fun z => e3 (V.int.inj z))]
            exact iteF (stay b7 P7 (by omega))
      · rintro H5 ⟨b5, ⟨M', P5, lM'⟩, ys, hys, sy, ny⟩
        rw [lnp, List.take_length] at sy
        have ly := sy.length_le
        have nyd : ys.Nodup := (ap.sublist sy).imp fun h => Nat.ne_of_lt h
        have hA5 := b5 _ _ nA1 upd_same
        have mm : ∀ m : List Nat, (m.map fun x : Nat => (x : Int)).map V.int = numsV m := fun m => by
          rw [List.map_map]
          rfl
        refine ⟨A1, D, [.int (pp : Int)], numsV ys, rfl, rfl, hA5, hys, (by unfold numsV; rw [List.length_map]; simp; omega), fun A2 hA2 => ?_⟩
        refine ⟨A2, (pp :: ys).map fun x : Nat => (x : Int), rfl, SqL.of (by rw [mm, upd_same]; rfl), (by rw [List.length_map, List.length_cons]; omega), fun ns A3 hpm hso hA3 => ?_⟩
        obtain ⟨rr, rfl⟩ : ∃ rr : List Nat, ns = rr.map fun x : Nat => (x : Int) := by
          refine ⟨ns.map Int.toNat, ?_⟩
          rw [List.map_map]
          conv => lhs; rw [← List.map_id ns]
          refine List.map_congr_left fun x mx => ?_
          obtain ⟨y, _, rfl⟩ := List.mem_map.mp (hpm.mem_iff.mp mx)
          simp
        have prr : rr.Perm (pp :: ys) := by
          have := hpm.map Int.toNat
          rw [List.map_map, List.map_map] at this
          have id1 : (Int.toNat ∘ fun x : Nat => (x : Int)) = id := by
            funext x
            simp
          rw [id1, List.map_id, List.map_id] at this
          exact this
        have ndr : rr.Nodup := prr.nodup_iff.mpr (List.nodup_cons.mpr ⟨ny, nyd⟩)
        have asr : rr.Pairwise (· < ·) := by
          have h1 : rr.Pairwise (· ≤ ·) := (List.pairwise_map.mp hso).imp fun h => by omega
          exact (h1.and ndr).imp fun h => by omega
        rw [mm]
        have lrr : rr.length = ys.length + 1 := by
          have := prr.length_eq
          simpa using this
        have s6 := (Same.updf (o := .lst ([.int (pp : Int)] ++ numsV ys)) hA2).trans (Same.updf (o := .lst (numsV rr)) hA3)
        have hL5 : H5 L = some (.lst xs) := b5 _ _ nL (s4 _ _ hL3)
        have s7 := Same.updf (o := .lst ([.int (pp : Int)] ++ numsV ys)) hA2
        have nLA3 : A3 ≠ L := (ne_of_none (s7 _ _ hL5) hA3).symm
        have nA3 : A3 ≠ pu := fresh_ne (P5.same s7) hA3
        refine ⟨_, rfl, .inl ⟨rfl, _, SqL.of (s6 _ _ hL5)⟩, _, rfl, _, rfl, _, rfl, _, rfl, pu, M', rfl, P5.same s6, by omega, fun tw ws H8 b8 P8 tr8 ok8 sz8 => ⟨(by show 4 ≤ sizeLine; omega), fun T hT => ?_⟩⟩
        have s9 := Same.updf (o := .tup [.int (g' : Int), .int (pp : Int), .ref A3, .ref tw]) hT
        have hL8 : H8 L = some (.lst xs) := b8 _ _ nL (s6 _ _ hL5)
        have nT : T ≠ pu := fresh_ne P8 hT
        have nTL : T ≠ L := (ne_of_none hL8 hT).symm
        refine ⟨L, xs, .ref T, rfl, rfl, s9 _ _ hL8, by omega, ?_⟩
        have bAll : But pu G' H8 := ((((b1.trans b2).trans b3).trans (But.of s4)).trans b5).trans ((But.of s6).trans b8)
        have bG9 : But pu H H8 := bG.trans bAll
        refine ⟨fun c o n e => ?_, ⟨_, P8.same' ((upd_ne nL.symm).trans (upd_ne nT.symm)), by omega⟩, xs ++ [.ref T], ds ++ [⟨g', pp, rr, ws⟩], g', _, _, _, upd_same, by rw [List.length_append, List.length_append, lx]; rfl, by rw [List.length_append, ld]; rfl, fun j x d e1 e2 => ?_, fun d m => ?_, ?_, by omega, rfl⟩
        · rw [upd_ne (ne_of_none e hL)]
          exact s9 _ _ (bG9 _ _ n e)
        · rw [off2_upd]
          have sG9 : Same (off (off G' pu) L) (off (off (upd H8 T (.tup [.int (g' : Int), .int (pp : Int), .ref A3, .ref tw])) pu) L) := off_same L (but_off (bAll.trans (But.of s9)))
          by_cases hj : j < xs.length
          · rw [List.getElem?_append_left hj] at e1
            rw [List.getElem?_append_left (by omega)] at e2
            exact (dx j x d e1 e2).same sG9
          · rw [List.getElem?_append_right (by omega)] at e1
            rw [List.getElem?_append_right (by omega)] at e2
            cases hz : j - xs.length with
            | succ z =>
              rw [hz] at e1
              simp at e1
            | zero =>
              rw [hz] at e1
              rw [show j - ds.length = 0 by omega] at e2
              cases e1
              cases e2
              refine ⟨T, A3, tw, rfl, ?_, ?_, ?_⟩
              · rw [off_at nTL, off_at nT, upd_same]
              · rw [off_at nLA3, off_at nA3]
                exact s9 _ _ (b8 _ _ nA3 upd_same)
              · refine tr_tup (H := H8) (fun a ys e => ?_) ok8 tr8
                have na : a ≠ pu := fun z => by
                  obtain ⟨_, _, _, _, e', _⟩ := P8
                  rw [z, e'] at e
                  cases e
                have nb : a ≠ L := fun z => by
                  rw [z, hL8] at e
                  cases e
                rw [off_at nb, off_at na]
                exact s9 _ _ e
        · rcases List.mem_append.mp m with m | m
          · obtain ⟨o1, o2, o3⟩ := okx d m
            exact ⟨o1, by omega, o3⟩
          · obtain rfl := List.mem_singleton.mp m
            refine ⟨⟨by show 1 ≤ g'; omega, asr, prr.mem_iff.mpr List.mem_cons_self, by show rr.length ≤ 20; omega, ok8, by show szWs ws ≤ 7; omega⟩, Nat.le_refl _, fun x hx => ?_⟩
            rcases List.mem_cons.mp (prr.mem_iff.mp hx) with rfl | hx
            · exact mpp
            · exact sy.mem hx
        · exact List.pairwise_append.mpr ⟨ax, List.pairwise_singleton _ _, fun a m b n => by
            rw [List.mem_singleton.mp n]
            have := (okx a m).2.1
            show a.n < g'
            omega⟩
    · rintro σ G ⟨bG, ⟨M, PM, lM⟩, xs, ds, g, v5, v6, v7, hx, lx, ld, dx, okx, ax, g3, rfl⟩
      have hpg' : ∀ x ∈ pgs ds, x ∈ ps := fun x m => by
        obtain ⟨d, hd, hx⟩ := pgs_mem.mp m
        exact (okx d hd).2.2 x hx
      have lp : (pgs ds).length ≤ ps.length := List.Nodup.length_le_of_subset ((pgs_asc ds).imp fun h => Nat.ne_of_lt h) hpg'
      refine ⟨_, rfl, k L ds G bG (PM.mono (by omega)) hL ⟨xs, by rw [off_at nL]; exact hx, lx, fun j x d e1 e2 => (dx j x d e1 e2).same (off_le _ L)⟩ ⟨fun d m => (okx d m).1, ax, by omega, by omega⟩ ld (fun d m => (okx d m).2.2) fun d m => by
        have := (okx d m).2.1
        omega⟩
end
end K33
set_option Elab.async false
set_option linter.all false
set_option maxRecDepth 100000
set_option maxHeartbeats 8000000
namespace K33
open PySem PySem.Spec PyProof.Rows L2 KB
/-- the marks behind the number n -/
def mkAt (ds : List Dd) (n : Int) (p : Nat) : Nat := ((ds.filter fun d => decide (d.p = p ∧ (d.n : Int) ≤ n)).map (·.n)).getLastD 0
theorem mkAt_snoc (ds : List Dd) (d : Dd) (n : Int) (p : Nat) : mkAt (ds ++ [d]) n p = if d.p = p ∧ (d.n : Int) ≤ n then d.n else mkAt ds n p := by
  unfold mkAt
  rw [List.filter_append, List.map_append]
  by_cases e : d.p = p ∧ (d.n : Int) ≤ n
  · rw [if_pos e, List.filter_cons, if_pos (decide_eq_true e)]
    simp
  · rw [if_neg e, List.filter_cons, if_neg (by simpa using e)]
    simp
theorem mkAt_mk (ds : List Dd) (n : Int) : Mk ds (mkAt ds n) := fun p _ => by
  unfold mkAt nbp
  rw [List.getLastD_eq_getLast?]
  cases h : ((ds.filter fun d => decide (d.p = p ∧ (d.n : Int) ≤ n)).map (·.n)).getLast? with
  | none => exact List.mem_cons_self
  | some x =>
    have m := List.mem_of_getLast? h
    obtain ⟨d, hd, rfl⟩ := List.mem_map.mp m
    obtain ⟨h1, h2⟩ := List.mem_filter.mp hd
    exact List.mem_cons_of_mem _ (List.mem_map.mpr ⟨d, List.mem_filter.mpr ⟨h1, decide_eq_true (of_decide_eq_true h2).1⟩, rfl⟩)
/-- marks of a log, in a new dictionary -/
def spMarksAt : Sp := fun vs H Q _ => ∃ (a : Addr) (n : Int) (ds : List Dd), vs = [.ref a, .int n] ∧ LogAt H a ds ∧ Lg ds ∧ ∀ q H', Same H H' → H q = none → MkAt H' q (pgs ds) (mkAt ds n) → Q (.ref q) H'
def spMarks : Sp := fun vs H Q _ => ∃ (a : Addr) (ds : List Dd), vs = [.ref a] ∧ LogAt H a ds ∧ Lg ds ∧ ∀ q H', Same H H' → H q = none → MkAt H' q (pgs ds) (mkAt ds 1000000000) → Q (.ref q) H'
theorem merge_dV : ∀ {qs ps : List Nat} {f : Nat → V}, (ps ++ qs).Nodup → mergeK (dV ps f) (dV qs f) = dV (ps ++ qs) f
  | [], ps, f, _ => by
    rw [List.append_nil]
    rfl
  | q :: qs, ps, f, h => by
    have nq : q ∉ ps := fun m => by
      have := List.nodup_append.mp h
      exact this.2.2 q m q List.mem_cons_self rfl
    have e : mergeK (dV ps f) (dV (q :: qs) f) = mergeK (putK (dV ps f) (ky q) (f q)) (dV qs f) := rfl
    have e2 : dV (ps ++ [q]) (put f q (f q)) = dV (ps ++ [q]) f := dV_congr fun p _ => by
      unfold put
      split
      · next z => rw [z]
      · rfl
    rw [e, dV_new nq, e2, merge_dV (by rw [List.append_assoc]; exact h), List.append_assoc]
    rfl
theorem merge_dV0 {qs : List Nat} {f : Nat → V} (h : qs.Nodup) : mergeK [] (dV qs f) = dV qs f := merge_dV (ps := []) h
theorem pgs_nd (ds : List Dd) : (pgs ds).Nodup := (pgs_asc ds).imp fun h => Nat.ne_of_lt h
theorem filter_true (n : Nat) : ((List.range n).filter fun _ => true) = List.range n := List.filter_eq_self.mpr fun _ _ => rfl
theorem range_map_get (l : List Nat) (f : Nat → V) : ((List.range l.length).map fun i => (ky (l.getD i 0), f (l.getD i 0))) = dV l f := by
  unfold dV
  refine List.ext_getElem (by simp) fun i h1 h2 => ?_
  have hi : i < l.length := by simpa using h1
  simp [hi]
section
variable {P : Program} {w : World} {K : PySem.W.Frag} {mg : Str → Option Value} {base : Heap}
abbrev s_marks_at : Stmt := top 58
abbrev N_marks_at : List Str := ["_law_log_here", "_law_number", "_law_found", "_law_deed", "_law_page"]
theorem sc_marks_at : FnScope N_marks_at ["_law_log_here", "_law_number"] (defScope s_marks_at) := ⟨rfl, rfl, rfl, by decide +kernel, rfl, by decide +kernel, by decide +kernel⟩
theorem ok_marks_at {f : Addr} {fd : FuncData} (F : FnP K "_law_marks_at" s_marks_at f fd) (Z : FreeS mg)
    {f_of_pages : Addr} {d_of_pages : FuncData} (g_of_pages : mg "_law_of_pages" = some (.ref f_of_pages)) (F_of_pages : FnP K "_law_of_pages" s_of_pages f_of_pages d_of_pages) (G_of_pages : FnOk P w K mg base CX0 1 f_of_pages d_of_pages ["_law_log_here"] spOfP) :
    FnOk P w K mg base CX0 2 f fd ["_law_log_here", "_law_number"] spMarksAt := by
  have b_of_pages : Binds K d_of_pages ["_law_log_here"] [] := F_of_pages.bindsN fun _ _ _ _ _ _ us hl => match us, hl with | [_], _ => rfl
  refine F.ok sc_marks_at (fun vs H Q E h => ?_) (fun cdv A outer s H vs Q E hr h => ?_)
  · obtain ⟨a, n, ds, rfl, _⟩ := h
    rfl
  · obtain ⟨a, n, ds, rfl, hL, hG, k⟩ := h
    obtain ⟨xs, ha, lx, hx⟩ := id hL
    have l60 := hG.len
    have pl := hG.pl
    have sl : (2000 : Nat) ≤ sizeLine := by decide
    have hu : (A.deeper (envOfC "_law_marks_at" (defScope s_marks_at) s.heap.objs.size f cdv)).units + 1 < cLine := by
      have := hr.units
      omega
    have nd := sc_marks_at.nd
    refine ⟨_, PSs.nox (pss_cons (ps_set (i := 2) nd rfl (Or.inl rfl) (pe_callTy (call_dictPR rfl) (by rfl) Z.tdict (by decide +kernel) (pa_cons (pe_lc (own := [("_law_page", 4)]) (g := gName 4) (tt := tYes) (te := tTup (tCons (tVar 4) (tCons (tC (.int 0)) (tNil)))) (by rfl) nd (pi_list (pe_call G_of_pages (hr.mono (by decide)) rfl g_of_pages F_of_pages.kp b_of_pages .nil pass0 (pa_cons (pv 0) (pa_nil))))
          (blkOk_by (own := [("_law_page", 4)]) (N := N_marks_at) (sc := defScope s_marks_at) (by decide +kernel)) (fun _ _ _ _ _ => pg_name (i := 4) nd rfl (Or.inl rfl)) (fun _ _ _ _ _ => pts_nil)
          (fun _ _ _ _ _ => pe_tup (pa_cons (pv 4) (pa_cons (pe_int) (pa_nil))))) (pa_nil))))
      (pss_cons (ps_for PassesOwn.never rfl (pi_list (pv 0)) (pg_name (i := 3) nd rfl (Or.inl rfl))
        (pss_one (ps_if (pt_cmpR op_le (pe_ix ix_tup (pv 3) (pe_int) (fun _ _ => rfl)) (pv 1) (nomark _)) (pss_one (ps_dput hu (pv 2) (pe_ix ix_tup (pv 3) (pe_int) (fun _ _ => rfl)) (pe_ix ix_tup (pv 3) (pe_int) (fun _ _ => rfl)) rfl)) (pss_nil))))
      (pss_one (ps_ret (pv 2))))), ?_⟩
    refine ⟨_, rfl, a, ds, rfl, hL, hG, fun pq G1 s1 npq hpq => ?_⟩
    refine ⟨pq, rfl, ⟨_, SqL.of hpq⟩, fun D hD => ?_⟩
    have ln : (numsV (pgs ds)).length = (pgs ds).length := List.length_map _
    refine lc_rel (walk_list (K := K) (a := pq) (xs := numsV (pgs ds))) (fun _ => true) (fun i y G => ∃ T, y = .ref T ∧ G T = some (.tup [kV (ky ((pgs ds).getD i 0)), .int 0])) (fun i y G G' s1 ⟨T, e, h⟩ => ⟨T, e, s1 _ _ h⟩) (by omega) hD (fun G s2 => SqL.of (s2 _ _ hpq)) ?_ ?_
    · rintro i x G G' Qy Qn hi s2 ⟨acc, hacc⟩ ⟨rfl, hv⟩ ky_ kn
      have li : i < (pgs ds).length := by omega
      unfold numsV at hv
      rw [List.getElem?_map, List.getElem?_eq_getElem li] at hv
      obtain rfl := Option.some.inj hv
      refine ⟨rfl, _, rfl, (by show 2 ≤ sizeLine; omega), fun T hT => ky_ _ _ rfl (Same.updf hT) ⟨T, rfl, ?_⟩⟩
      rw [off_at (ne_of_none hacc hT).symm, upd_same, List.getD_eq_getElem?_getD, List.getElem?_eq_getElem li]
      rfl
    · rintro G ys s2 hys py
      rw [ln, filter_true] at py
      obtain ⟨ts, rfl, pt⟩ := pairs_addr (K := K) (f := fun i => (ky ((pgs ds).getD i 0), V.int 0)) (paired_mono (fun i y ⟨T, e, h⟩ => ⟨T, e, off_le _ _ _ _ h⟩) py)
      rw [range_map_get (pgs ds) fun _ => V.int 0] at pt
      refine ⟨D, ts, _, rfl, SqL.of hys, pt, fun q hq => ?_⟩
      rw [merge_dV0 (pgs_nd ds)]
      have sH : Same H (upd G q (.dK (dV (pgs ds) fun _ => V.int 0))) := (s1.trans s2).trans (Same.updf hq)
      have nHq : H q = none := none_back (s1.trans s2) hq
      refine ⟨_, rfl, a, rfl, ⟨_, SqL.of (sH _ _ ha)⟩, ?_⟩
      refine for_it (walk_list (K := K) (a := a) (xs := xs)) (fun i σ G3 => Same H G3 ∧ ∃ v3, MkAt G3 q (pgs ds) (mkAt (ds.take i) n) ∧ σ = [some (.ref a), some (.int n), some (.ref q), v3, none]) ⟨sH, _, upd_same, rfl⟩ (fun i σ G3 _ hh => SqL.of (hh.1 _ _ ha)) ?_ ?_
      · rintro i x σ G3 G4 hi ⟨sG, v3, hm, rfl⟩ ⟨rfl, hv⟩
        have li : i < ds.length := by omega
        have hd : ds[i]? = some ds[i] := List.getElem?_eq_getElem li
        have md : ds[i] ∈ ds := List.getElem_mem li
        have etk : ds.take (i + 1) = ds.take i ++ [ds[i]] := by
          rw [List.take_succ, hd]
          rfl
        obtain ⟨t, rd, tw, rfl, ht, hr1, _⟩ := (hx i x _ hv hd).same sG
        refine ⟨_, rfl, t, _, 0, _, rfl, rfl, SqT.of ht, rfl, _, rfl, _, _, rfl, rfl, _, rfl, ?_⟩
        by_cases c : (ds[i].n : Int) ≤ n
        · rw [decide_eq_true c]
          refine iteT ⟨_, rfl, t, _, 0, _, rfl, rfl, SqT.of ht, rfl, _, rfl, _, rfl, t, _, 1, _, rfl, rfl, SqT.of ht, rfl, q, _, rfl, DPut.k (k := ky ds[i].p) hm (by rw [dV_len]; omega), ?_⟩
          rw [mV_put (own_pg hG md)]
          refine ⟨fun b o e => ?_, _, ?_, rfl⟩
          · rw [upd_ne (ne_of_none e nHq)]
            exact sG _ _ e
          · show _ = _
            rw [upd_same]
            refine congrArg (fun z => some (HO.dK z)) (dV_congr fun p hp => ?_)
            rw [etk, mkAt_snoc]
            unfold putN
            by_cases e : p = ds[i].p
            · rw [if_pos e, if_pos ⟨e.symm, c⟩]
            · rw [if_neg e, if_neg fun h => e h.1.symm]
        · rw [decide_eq_false c]
          refine iteF ⟨sG, _, ?_, rfl⟩
          rw [etk]
          unfold MkAt at hm ⊢
          rw [hm]
          refine congrArg (fun z => some (HO.dK z)) (dV_congr fun p hp => ?_)
          rw [mkAt_snoc, if_neg fun h => c h.2]
      · rintro σ G3 ⟨sG, v3, hm, rfl⟩
        rw [lx, List.take_length] at hm
        exact ⟨_, rfl, k q G3 sG nHq hm⟩
end
end K33
set_option Elab.async false
set_option linter.all false
set_option maxRecDepth 100000
set_option maxHeartbeats 8000000
namespace K33
open PySem PySem.Spec PyProof.Rows L2 KB
/-- a deed that has room in a line -/
structure Dd.Fit (d : Dd) : Prop where
  ok : d.Ok
  l6 : d.r.length ≤ 6
  lt : ∀ p ∈ d.r, p < 1000
def spDText : Sp := fun vs H Q _ => ∃ (x : V) (d : Dd), vs = [x] ∧ DeedAt H x d ∧ d.Fit ∧ ∀ z H', Same H H' → Str.length z ≤ 144 → Q (.str z) H'
def spFits : Sp := fun vs H Q _ => ∃ (x : V) (d : Dd), vs = [x] ∧ DeedAt H x d ∧ d.Fit ∧ ∀ H', Same H H' → Q (.bl true) H'
theorem app_len (a b : Str) : (a ++ b).length = a.length + b.length := by
  show (a.cps ++ b.cps).size = a.cps.size + b.cps.size
  exact Array.size_append
theorem strs_of {F : Nat → V → Prop} {b : Nat} (hF : ∀ i y, F i y → ∃ z : Str, y = .str z ∧ z.length ≤ b) : ∀ {is : List Nat} {ys : List V}, Paired F is ys → ∃ zs : List Str, ys = zs.map V.str ∧ zs.length = is.length ∧ lenS zs ≤ b * is.length
  | _, _, .nil => ⟨[], rfl, rfl, Nat.le_refl _⟩
  | _, _, .cons r t => by
    obtain ⟨zs, rfl, l, s⟩ := strs_of hF t
    obtain ⟨z, rfl, lz⟩ := hF _ _ r
    refine ⟨z :: zs, rfl, by rw [List.length_cons, List.length_cons, l], ?_⟩
    have e : lenS (z :: zs) = z.length + lenS zs := rfl
    rw [e, List.length_cons, Nat.mul_succ]
    omega
section
variable {P : Program} {w : World} {K : PySem.W.Frag} {mg : Str → Option Value} {base : Heap}
abbrev s_text_of_deed : Stmt := top 29
abbrev N_text_of_deed : List Str := ["deed", "number", "page", "reads", "words", "read"]
theorem sc_text_of_deed : FnScope N_text_of_deed ["deed"] (defScope s_text_of_deed) := ⟨rfl, rfl, rfl, by decide +kernel, rfl, by decide +kernel, by decide +kernel⟩
theorem ok_text_of_deed {f : Addr} {fd : FuncData} (F : FnP K "text_of_deed" s_text_of_deed f fd) (Z : FreeS mg)
    {f_words_text : Addr} {d_words_text : FuncData} (g_words_text : mg "words_text" = some (.ref f_words_text)) (F_words_text : FnP K "words_text" s_words_text f_words_text d_words_text) (G_words_text : FnOk P w K mg base CX0 2 f_words_text d_words_text ["words"] spWText)
    {f_figures_of : Addr} {d_figures_of : FuncData} (g_figures_of : mg "figures_of" = some (.ref f_figures_of)) (F_figures_of : FnP K "figures_of" s_figures_of f_figures_of d_figures_of) (G_figures_of : FnOk P w K mg base CX0 1 f_figures_of d_figures_of ["number"] spFig) :
    FnOk P w K mg base CX0 3 f fd ["deed"] spDText := by
  have b_words_text : Binds K d_words_text ["words"] [] := F_words_text.bindsN fun _ _ _ _ _ _ us hl => match us, hl with | [_], _ => rfl
  have b_figures_of : Binds K d_figures_of ["number"] [] := F_figures_of.bindsN fun _ _ _ _ _ _ us hl => match us, hl with | [_], _ => rfl
  refine F.ok sc_text_of_deed (fun vs H Q E h => ?_) (fun cdv A outer s H vs Q E hr h => ?_)
  · obtain ⟨x, d, rfl, _⟩ := h
    rfl
  · obtain ⟨x, d, rfl, hd, fit, k⟩ := h
    have sl : (3000 : Nat) ≤ sizeLine := by decide
    have nd := sc_text_of_deed.nd
    refine ⟨_, PSs.nox (pss_cons (ps_asg (pv 0) (pg_tup rfl (pgs_cons (pg_name (i := 1) nd rfl (Or.inl rfl)) (pgs_cons (pg_name (i := 2) nd rfl (Or.inl rfl)) (pgs_cons (pg_name (i := 3) nd rfl (Or.inl rfl)) (pgs_cons (pg_name (i := 4) nd rfl (Or.inl rfl)) (pgs_nil)))))))
      (pss_one (ps_ret (pe_op op_add_str (pe_op op_add_str (pe_op op_add_str (pe_op op_add_str (pe_call G_figures_of (hr.mono (by decide)) rfl g_figures_of F_figures_of.kp b_figures_of .nil pass0 (pa_cons (pv 2) (pa_nil))) (pe_str)) (pe_join (pe_str) (pe_lc (own := [("read", 5)]) (g := gName 5) (tt := tYes) (te := tCall spFig [] E0 (tCons (tVar 5) (tNil))) (by rfl) nd (pi_list (pv 3))
          (blkOk_by (own := [("read", 5)]) (N := N_text_of_deed) (sc := defScope s_text_of_deed) (by decide +kernel)) (fun _ _ _ _ _ => pg_name (i := 5) nd rfl (Or.inl rfl)) (fun _ _ _ _ _ => pts_nil)
          (fun _ _ _ _ _ => pe_call G_figures_of (hr.mono (by decide)) rfl g_figures_of F_figures_of.kp b_figures_of .nil pass0 (pa_cons (pv 5) (pa_nil)))))) (pe_str)) (pe_call G_words_text (hr.mono (by decide)) rfl g_words_text F_words_text.kp b_words_text .nil pass0 (pa_cons (pv 4) (pa_nil))))))), ?_⟩
    obtain ⟨t, rd, tw, rfl, ht, hr1, hw⟩ := hd
    refine ⟨_, rfl, t, [_, _, _, _], rfl, .inl (.inl ht), rfl, _, [_, _, _], rfl, _, [_, _], rfl, _, [_], rfl, _, [], rfl, rfl, ?_⟩
    have lp : d.p < 10 ^ 3 := fit.lt _ fit.ok.own
    have l6 := fit.l6
    have l1s : (Str.ofString " ").length = 1 := rfl
    have l1c : (Str.ofString ",").length = 1 := rfl
    refine ⟨_, rfl, d.p, 3, rfl, by decide, by decide, lp, fun z1 G1 s1 l1 => ?_⟩
    have a1 := app_len z1 (Str.ofString " ")
    refine ⟨z1, _, rfl, rfl, by omega, ?_⟩
    have hr2 := s1 _ _ hr1
    refine ⟨⟨_, rfl⟩, _, rfl, rd, rfl, ⟨_, SqL.of hr2⟩, fun D hD => ?_⟩
    have ln : (numsV d.r).length = d.r.length := List.length_map _
    refine lc_rel (walk_list (K := K) (a := rd) (xs := numsV d.r)) (fun _ => true) (fun i y G => ∃ z : Str, y = .str z ∧ z.length ≤ 4) (fun i y G G' s h => h) (by omega) hD (fun G s => SqL.of (s _ _ hr2)) ?_ ?_
    · rintro i y G3 G4 Qy Qn hi s3 ⟨acc, hacc⟩ ⟨rfl, hv⟩ ky_ kn_
      have li : i < d.r.length := by omega
      unfold numsV at hv
      rw [List.getElem?_map, List.getElem?_eq_getElem li] at hv
      obtain rfl := Option.some.inj hv
      exact ⟨rfl, _, rfl, d.r[i], 3, rfl, by decide, by decide, fit.lt _ (List.getElem_mem li), fun z G5 s5 lz => ky_ _ _ rfl s5 ⟨z, rfl, lz⟩⟩
    · rintro G3 ys s3 hys py
      rw [filter_true, ln] at py
      obtain ⟨zs, rfl, lz, sz⟩ := strs_of (b := 4) (fun i y h => h) py
      rw [List.length_range] at lz sz
      have jl := join_len (Str.ofString ",") zs
      rw [l1c] at jl
      have jl : (Txt.join (Str.ofString ",") zs).length ≤ lenS zs + zs.length * 1 := jl
      refine ⟨_, D, zs, rfl, rfl, .inl (SqL.of hys), by show lenS zs + zs.length * 1 ≤ _; omega, ?_⟩
      have a2 := app_len (z1 ++ Str.ofString " ") (Txt.join (Str.ofString ",") zs)
      refine ⟨_, _, rfl, rfl, by omega, ?_⟩
      have a3 := app_len (z1 ++ Str.ofString " " ++ Txt.join (Str.ofString ",") zs) (Str.ofString " ")
      refine ⟨_, _, rfl, rfl, by omega, ?_⟩
      refine ⟨_, rfl, tw, d.w, rfl, (hw.same s1).same s3, fit.ok.w, fit.ok.sz, fun z3 G4 s4 l3 => ?_⟩
      have a4 := app_len (z1 ++ Str.ofString " " ++ Txt.join (Str.ofString ",") zs ++ Str.ofString " ") z3
      exact ⟨_, _, rfl, rfl, by omega, k _ _ ((s1.trans s3).trans s4) (by omega)⟩
abbrev s_fits_line : Stmt := top 30
abbrev N_fits_line : List Str := ["deed"]
theorem sc_fits_line : FnScope N_fits_line ["deed"] (defScope s_fits_line) := ⟨rfl, rfl, rfl, by decide +kernel, rfl, by decide +kernel, by decide +kernel⟩
theorem ok_fits_line {f : Addr} {fd : FuncData} (F : FnP K "fits_line" s_fits_line f fd) (Z : FreeS mg)
    {f_text_of_deed : Addr} {d_text_of_deed : FuncData} (g_text_of_deed : mg "text_of_deed" = some (.ref f_text_of_deed)) (F_text_of_deed : FnP K "text_of_deed" s_text_of_deed f_text_of_deed d_text_of_deed) (G_text_of_deed : FnOk P w K mg base CX0 3 f_text_of_deed d_text_of_deed ["deed"] spDText) (C : Cn mg) :
    FnOk P w K mg base CX0 4 f fd ["deed"] spFits := by
  have b_text_of_deed : Binds K d_text_of_deed ["deed"] [] := F_text_of_deed.bindsN fun _ _ _ _ _ _ us hl => match us, hl with | [_], _ => rfl
  refine F.ok sc_fits_line (fun vs H Q E h => ?_) (fun cdv A outer s H vs Q E hr h => ?_)
  · obtain ⟨x, d, rfl, _⟩ := h
    rfl
  · obtain ⟨x, d, rfl, hd, fit, k⟩ := h
    have sl : (3000 : Nat) ≤ sizeLine := by decide
    have nd := sc_fits_line.nd
    refine ⟨_, PSs.nox (pss_one (ps_ret (pe_cmpR op_le (pe_callB call_len_str (by rfl) Z.len (by decide +kernel) (pa_cons (pe_call G_text_of_deed (hr.mono (by decide)) rfl g_text_of_deed F_text_of_deed.kp b_text_of_deed .nil pass0 (pa_cons (pv 0) pa_nil)) pa_nil)) (pe_glob (v := .int 144) (by rfl) C.gS.choose_spec ⟨_, rfl⟩) (nomark _)))), ?_⟩
    refine ⟨_, rfl, x, d, rfl, hd, fit, fun z G s1 lz => ⟨z, rfl, by show z.length ≤ _; omega, _, _, rfl, rfl, ?_⟩⟩
    show Q (.bl (decide (((z.length : Nat) : Int) ≤ 144))) G
    rw [decide_eq_true (show ((z.length : Nat) : Int) ≤ 144 by omega)]
    exact k G s1
end
end K33
set_option Elab.async false
set_option linter.all false
set_option maxRecDepth 100000
set_option maxHeartbeats 4000000
/-! A new object that is gone over at once: it is held from then on. -/
namespace L2
open PySem PySem.Spec PyProof.Rows
def tLk (t : TE) : TE := fun σ H Q => t σ H fun x H1 => ∃ d u, x = .ref d ∧ H1 d = some u ∧ Mut (some u) ∧ ∀ od, Q x (upd H1 d (.frz od u))
theorem pe_lk {X : Cx} {e : Expr} {t : TE} (h : PE X e t) : PE X e (tLk t) := by
  refine ⟨fun pins s σ H Q I hw => ?_⟩
  refine thn (h.run pins s σ H _ I hw) fun v s1 ⟨x, H1, I1, r, q⟩ => ?_
  obtain ⟨d, u, ex, hd, mu, q⟩ := q
  subst ex
  obtain ⟨od, I2⟩ := I1.lock hd mu
  exact ⟨_, _, I2, r, q od⟩
end L2
set_option Elab.async false
set_option linter.all false
set_option maxRecDepth 100000
set_option maxHeartbeats 4000000
/-! xs == [] and xs != [], whatever xs holds. -/
namespace L2
open PySem PySem.Spec PyProof.Rows
section
variable {X : Cx}
def rEmp (K : PySem.W.Frag) (neg : Bool) : R2 := fun x y H Q => ∃ (a b : Addr) (xs : List V), x = .ref a ∧ y = .ref b ∧ SqL K H a xs ∧ SqL K H b [] ∧ Q (.bl (xs.isEmpty != neg)) H
theorem op_eqE (hu : X.A.units < cLine) : OpR X (compareOp .Eq) (rEmp X.K false) := by
  intro pins s σ H x y v u Q I rx ry h
  obtain ⟨a, b, xs, rfl, rfl, ha, hb, q⟩ := h
  obtain rfl : v = Value.ref a := rx
  obtain rfl : u = Value.ref b := ry
  obtain ⟨its, rv, ⟨oa, na, hoa, hca, _, hda⟩, _⟩ := I.list ha
  obtain ⟨its2, rv2, ⟨ob, nb, hob, hcb, _, hdb⟩, _⟩ := I.list hb
  cases rv2
  have hA : s.heap.IsList a its.toArray := ⟨oa, hoa, hca, na, hda⟩
  have hB : s.heap.IsList b #[] := ⟨ob, hob, hcb, nb, hdb⟩
  have z : ∀ c : Bool, (c != false) = c := by decide
  rw [z] at q
  cases rv with
  | nil => exact SeqAt.RcAt.lists (e := fun _ => true) hA hB rfl hu (fun j h1 h2 => absurd h2 (Nat.not_lt_zero _)) X.prog X.w _ _ ⟨.bl _, H, I, rfl, q⟩
  | cons r t => exact SeqAt.RcAt.lists_lengths hA hB (by simp) hu X.prog X.w _ _ ⟨.bl _, H, I, rfl, q⟩
theorem op_neE (hu : X.A.units < cLine) : OpR X (compareOp .NotEq) (rEmp X.K true) := by
  intro pins s σ H x y v u Q I rx ry h
  obtain ⟨a, b, xs, rfl, rfl, ha, hb, q⟩ := h
  obtain rfl : v = Value.ref a := rx
  obtain rfl : u = Value.ref b := ry
  obtain ⟨its, rv, ⟨oa, na, hoa, hca, _, hda⟩, _⟩ := I.list ha
  obtain ⟨its2, rv2, ⟨ob, nb, hob, hcb, _, hdb⟩, _⟩ := I.list hb
  cases rv2
  have hA : s.heap.IsList a its.toArray := ⟨oa, hoa, hca, na, hda⟩
  have hB : s.heap.IsList b #[] := ⟨ob, hob, hcb, nb, hdb⟩
  have z : ∀ c : Bool, (c != true) = !c := by decide
  rw [z] at q
  cases rv with
  | nil => exact SeqAt.RcNeAt.lists (e := fun _ => true) hA hB rfl hu (fun j h1 h2 => absurd h2 (Nat.not_lt_zero _)) X.prog X.w _ _ ⟨.bl _, H, I, rfl, q⟩
  | cons r t => exact SeqAt.RcNeAt.lists_lengths hA hB (by simp) hu X.prog X.w _ _ ⟨.bl _, H, I, rfl, q⟩
end
end L2
set_option Elab.async false
set_option linter.all false
set_option maxRecDepth 100000
set_option maxHeartbeats 4000000
/-! sorted(xs) of tracked data of one shape: tuples, rows, texts. -/
namespace KB
open PySem PySem.Spec PyProof.Rows L2
theorem eachOf {xs : List V} {us : List Value} (h : Vals xs us) : PySem.W.EachIs (fun (u : Value) (x : V) => RelV x u) us xs := by
  induction h with
  | nil => exact .nil
  | cons r _ ih => exact .cons r ih
theorem valsOf {xs : List V} {us : List Value} (h : PySem.W.EachIs (fun (u : Value) (x : V) => RelV x u) us xs) : Vals xs us := by
  induction h with
  | nil => exact .nil
  | cons r _ ih => exact .cons r ih
theorem eachMem {α β : Type} {R S : α → β → Prop} {as : List α} {bs : List β} (h : PySem.W.EachIs R as bs) (k : ∀ a b, b ∈ bs → R a b → S a b) : PySem.W.EachIs S as bs := by
  induction h with
  | nil => exact .nil
  | cons r _ ih => exact .cons (k _ _ List.mem_cons_self r) (ih fun a b m => k a b (List.mem_cons_of_mem _ m))
def rSortedD (K : PySem.W.Frag) : List V → Hp → VK → Prop := fun vs H Q => ∃ (a : Addr) (xs : List V) (k : V → PyData), vs = [.ref a] ∧ SqL K H a xs ∧ (∀ x ∈ xs, Dp K H x (k x)) ∧ PySem.W.AllAlike (xs.map k) ∧ PySem.W.Sortable (xs.map k) ∧ (∀ x ∈ xs, (k x).depth ≤ 40) ∧
  ∀ p, H p = none → Q (.ref p) (upd H p (.lst (xs.mergeSort (PySem.W.dataLe false k))))
theorem cr_sortedD {X : Cx} (hu : X.A.units + 64 < cLine) : CallR X (.builtin "sorted") (rSortedD X.K) := by
  intro pins s σ H vs us Q I r h
  obtain ⟨a, xs, k, rfl, hs, hk, ha, hb, hd, q⟩ := h
  obtain rfl := Vals.ref1 r
  obtain ⟨its, rv, hl, hz⟩ := I.list hs
  have e1 := eachOf rv
  refine PySem.W.sorted_data (vs := its) (bs := xs) (enc := k) (R := fun u x => RelV x u) hl.isList e1 (eachMem e1 fun u x m r => Dp.reads I (k x) x u (hk x m) r) ha hb hz (fun x m => ?_) fun out len eo => ?_
  · have := hd x m
    omega
  · obtain ⟨ep, he⟩ := PyProof.Rows.sortedAll_at s.heap its out.toArray
    have z : (xs.mergeSort (PySem.W.dataLe false k)).length ≤ sizeLine := by
      rw [List.length_mergeSort]
      exact hz
    exact ⟨.ref _, upd H (s.heap.objs.size + 1) (.lst (xs.mergeSort (PySem.W.dataLe false k))), I.laid (t' := s.toks) (fun _ _ => PyProof.Rows.sortedAll_old) (Nat.le_succ _) ⟨z, out, ep, valsOf eo, he⟩, rfl, q _ (I.hok.fresh (Nat.le_succ _))⟩
end KB
set_option Elab.async false
set_option linter.all false
set_option maxRecDepth 100000
set_option maxHeartbeats 4000000
/-! sorted(xs), xs new tuples of as many ints each. -/
namespace KB
open PySem PySem.Spec PyProof.Rows L2
theorem zip_paired {α β : Type} {F : α → β → Prop} : ∀ {xs : List α} {ys : List β}, Paired F xs ys → (∀ p ∈ xs.zip ys, F p.1 p.2) ∧ (xs.zip ys).map Prod.fst = xs ∧ (xs.zip ys).map Prod.snd = ys
  | _, _, .nil => ⟨fun p h => (nomatch h), rfl, rfl⟩
  | _, _, .cons r t => by
    obtain ⟨h1, h2, h3⟩ := zip_paired t
    refine ⟨fun p h => ?_, ?_, ?_⟩
    · rw [List.zip_cons_cons] at h
      rcases List.mem_cons.mp h with rfl | h
      · exact r
      · exact h1 p h
    · rw [List.zip_cons_cons, List.map_cons, h2]
    · rw [List.zip_cons_cons, List.map_cons, h3]
theorem paired_zip {α β : Type} {F : α → β → Prop} : ∀ {ps : List (α × β)}, (∀ p ∈ ps, F p.1 p.2) → Paired F (ps.map Prod.fst) (ps.map Prod.snd)
  | [], _ => .nil
  | p :: ps, h => .cons (h p List.mem_cons_self) (paired_zip fun q hq => h q (List.mem_cons_of_mem _ hq))
theorem paired_sort {α β : Type} {F : α → β → Prop} {le : β → β → Bool} {le' : α → α → Bool} (h : ∀ a x b y, F a x → F b y → le' a b = le x y) {xs : List α} {ys : List β} (p : Paired F xs ys) : Paired F (xs.mergeSort le') (ys.mergeSort le) := by
  obtain ⟨h1, h2, h3⟩ := zip_paired p
  have e1 : ((xs.zip ys).mergeSort fun p q => le p.2 q.2).map Prod.fst = xs.mergeSort le' := by
    rw [List.map_mergeSort (s := le') (fun a ha b hb => (h _ _ _ _ (h1 a ha) (h1 b hb)).symm), h2]
  have e2 : ((xs.zip ys).mergeSort fun p q => le p.2 q.2).map Prod.snd = ys.mergeSort le := by
    rw [List.map_mergeSort (s := le) (fun a _ b _ => rfl), h3]
  rw [← e1, ← e2]
  exact paired_zip fun q hq => h1 q ((List.mergeSort_perm _ _).mem_iff.mp hq)
theorem paired_get2 {α β : Type} {F : α → β → Prop} : ∀ {xs : List α} {ys : List β}, Paired F xs ys → ∀ {i : Nat} {y : β}, ys[i]? = some y → ∃ x, xs[i]? = some x ∧ F x y
  | _, _, .nil, i, x, h => by cases h
  | _, _, .cons r t, 0, x, h => by
    have e := Option.some.inj h
    subst e
    exact ⟨_, rfl, r⟩
  | _, _, .cons r t, i + 1, x, h => paired_get2 t h
theorem paired_get1 {α β : Type} {F : α → β → Prop} : ∀ {xs : List α} {ys : List β}, Paired F xs ys → ∀ {i : Nat} {x : α}, xs[i]? = some x → ∃ y, ys[i]? = some y ∧ F x y
  | _, _, .nil, i, x, h => by cases h
  | _, _, .cons r t, 0, x, h => by
    have e := Option.some.inj h
    subst e
    exact ⟨_, rfl, r⟩
  | _, _, .cons r t, i + 1, x, h => paired_get1 t h
theorem paired_rev {α β : Type} {F : α → β → Prop} : ∀ {xs : List α} {ys : List β}, Paired F xs ys → Paired F xs.reverse ys.reverse
  | _, _, .nil => .nil
  | _, _, .cons r t => by
    rw [List.reverse_cons, List.reverse_cons]
    exact paired_snoc (paired_rev t) r
theorem paired_mapG {α β γ : Type} {F : γ → β → Prop} {f : α → γ} : ∀ {xs : List α} {ys : List β}, Paired (fun x y => F (f x) y) xs ys → Paired F (xs.map f) ys
  | _, _, .nil => .nil
  | _, _, .cons r t => .cons r (paired_mapG t)
theorem sel_getG {α : Type} (z : α) (l : List α) (c : α → Bool) : (((List.range l.length).filter fun i => c (l.getD i z)).map fun i => l.getD i z) = l.filter c := by
  have e : l = (List.range l.length).map fun i => l.getD i z := by
    refine List.ext_getElem (by simp) fun i h1 h2 => ?_
    simp [h1]
  conv => rhs; rw [e, List.filter_map]
  rfl
theorem paired_selG {α : Type} {z : α} {l : List α} {c : α → Bool} {R : α → V → Prop} {ys : List V} (h : Paired (fun i y => R (l.getD i z) y) ((List.range l.length).filter fun i => c (l.getD i z)) ys) : Paired R (l.filter c) ys := by
  have := paired_mapG h
  rw [sel_getG] at this
  exact this
def intsD (t : List Int) : PyData := .tuple (t.map PyData.int)
def sortT (ts : List (List Int)) : List (List Int) := ts.mergeSort fun a b => PySem.W.dataLe false intsD a b
theorem sortT_perm (ts : List (List Int)) : (sortT ts).Perm ts := List.mergeSort_perm _ _
/-- y is a tuple of these ints -/
def IntsAt (H : Hp) (t : List Int) (y : V) : Prop := ∃ T, y = .ref T ∧ H T = some (.tup (t.map V.int))
theorem IntsAt.same {H H' : Hp} (k : Same H H') {t : List Int} {y : V} : IntsAt H t y → IntsAt H' t y := fun ⟨T, e, h⟩ => ⟨T, e, k _ _ h⟩
def encI (H : Hp) (y : V) : PyData := match y with
  | .ref T => (match H T with
    | some (.tup xs) => .tuple (xs.map fun v => match v with | .int i => PyData.int i | _ => .none)
    | _ => .none)
  | _ => .none
theorem encI_at {H : Hp} {t : List Int} {y : V} (h : IntsAt H t y) : encI H y = intsD t := by
  obtain ⟨T, rfl, h⟩ := h
  simp only [encI, intsD, h, List.map_map]
  rfl
theorem dpAll_ints {K : PySem.W.Frag} {H : Hp} : ∀ t : List Int, DpAll K H (t.map V.int) (t.map PyData.int)
  | [] => .nil
  | i :: t => .cons (.int i) (dpAll_ints t)
theorem alikeAll_ints : ∀ a b : List Int, PySem.W.alikeAll (a.map PyData.int) (b.map PyData.int) = true
  | [], _ => by simp [PySem.W.alikeAll]
  | _ :: _, [] => by simp [PySem.W.alikeAll]
  | i :: a, j :: b => by
    rw [List.map_cons, List.map_cons]
    simp only [PySem.W.alikeAll, PySem.W.alike, alikeAll_ints a b, Bool.and_self]
theorem depth_ints : ∀ t : List Int, PyData.depthAll (t.map PyData.int) = 0
  | [] => by simp [PyData.depthAll]
  | i :: t => by
    rw [List.map_cons]
    simp only [PyData.depthAll, PyData.depth, depth_ints t]
    rfl
def rSortT (K : PySem.W.Frag) : List V → Hp → VK → Prop := fun vs H Q => ∃ (a : Addr) (xs : List V) (ts : List (List Int)), vs = [.ref a] ∧ SqL K H a xs ∧ Paired (IntsAt H) ts xs ∧ (∀ t ∈ ts, t ≠ []) ∧
  ∀ p ys, H p = none → Paired (IntsAt H) (sortT ts) ys → Q (.ref p) (upd H p (.lst ys))
theorem cr_sortedT {X : Cx} (hu : X.A.units + 64 < cLine) : CallR X (.builtin "sorted") (rSortT X.K) := by
  intro pins s σ H vs us Q I r h
  obtain ⟨a, xs, ts, rfl, hs, py, hne, q⟩ := h
  have get : ∀ x ∈ xs, ∃ t ∈ ts, IntsAt H t x := fun x mx => by
    obtain ⟨h1, h2, h3⟩ := zip_paired py
    rw [← h3] at mx
    obtain ⟨p, hp, rfl⟩ := List.mem_map.mp mx
    refine ⟨p.1, ?_, h1 p hp⟩
    rw [← h2]
    exact List.mem_map.mpr ⟨p, hp, rfl⟩
  refine cr_sortedD hu pins s σ H _ us Q I r ⟨a, xs, encI H, rfl, hs, fun x mx => ?_, fun d hd d' hd' => ?_, .inl fun d hd => ?_, fun x mx => ?_, fun p hp => ?_⟩
  · obtain ⟨t, _, h⟩ := get x mx
    rw [encI_at h]
    obtain ⟨T, rfl, hT⟩ := h
    exact .tup (SqT.of hT) (dpAll_ints t)
  · obtain ⟨x, mx, rfl⟩ := List.mem_map.mp hd
    obtain ⟨y, my, rfl⟩ := List.mem_map.mp hd'
    obtain ⟨t, _, h⟩ := get x mx
    obtain ⟨t', _, h'⟩ := get y my
    rw [encI_at h, encI_at h']
    show PySem.W.alike (.tuple _) (.tuple _) = true
    simp only [PySem.W.alike, alikeAll_ints]
  · obtain ⟨x, mx, rfl⟩ := List.mem_map.mp hd
    obtain ⟨t, mt, h⟩ := get x mx
    rw [encI_at h]
    cases t with
    | nil => exact absurd rfl (hne _ mt)
    | cons i t => exact ⟨_, _, rfl⟩
  · obtain ⟨t, _, h⟩ := get x mx
    rw [encI_at h]
    unfold intsD
    simp only [PyData.depth, depth_ints]
    decide
  · refine q p _ hp (paired_sort (fun a x b y h1 h2 => ?_) py)
    unfold PySem.W.dataLe PySem.W.sortLe
    dsimp only
    rw [encI_at h1, encI_at h2]
def rListOf (K : PySem.W.Frag) : List V → Hp → VK → Prop := fun xs H Q => ∃ p ys, xs = [V.ref p] ∧ (SqL K H p ys ∨ SqT K H p ys) ∧ ∀ l, H l = none → Q (.ref l) (upd H l (.lst ys))
theorem call_list_ofR {X : Cx} : CallR X (.type "list") (rListOf X.K) := call_list_of
end KB
set_option Elab.async false
set_option linter.all false
set_option maxRecDepth 100000
set_option maxHeartbeats 8000000
namespace K33
open PySem PySem.Spec PyProof.Rows L2 KB
theorem paired_map {α β γ : Type} {F : γ → β → Prop} {f : α → γ} : ∀ {xs : List α} {ys : List β}, Paired (fun x y => F (f x) y) xs ys → Paired F (xs.map f) ys
  | _, _, .nil => .nil
  | _, _, .cons r t => .cons r (paired_map t)
theorem sel_get (l : List Nat) (c : Nat → Bool) : (((List.range l.length).filter fun i => c (l.getD i 0)).map fun i => l.getD i 0) = l.filter c := by
  have e : l = (List.range l.length).map fun i => l.getD i 0 := by
    refine List.ext_getElem (by simp) fun i h1 h2 => ?_
    simp [h1]
  conv => rhs; rw [e, List.filter_map]
  rfl
theorem paired_sel {l : List Nat} {c : Nat → Bool} {R : Nat → V → Prop} {ys : List V} (h : Paired (fun i y => R (l.getD i 0) y) ((List.range l.length).filter fun i => c (l.getD i 0)) ys) : Paired R (l.filter c) ys := by
  have := paired_map h
  rw [sel_get] at this
  exact this
theorem paired_app {α β : Type} {F : α → β → Prop} : ∀ {xs zs : List α} {ys us : List β}, Paired F xs ys → Paired F zs us → Paired F (xs ++ zs) (ys ++ us)
  | _, _, _, _, .nil, h => h
  | _, _, _, _, .cons r t, h => .cons r (paired_app t h)
theorem paired_len {α β : Type} {F : α → β → Prop} : ∀ {xs : List α} {ys : List β}, Paired F xs ys → xs.length = ys.length
  | _, _, .nil => rfl
  | _, _, .cons _ t => congrArg (· + 1) (paired_len t)
/-- y is the pair of a number and a page -/
def TwoAt (H : Hp) (w : Dd × Nat) (y : V) : Prop := ∃ T, y = .ref T ∧ H T = some (.tup [.int (w.1.n : Int), .int (w.2 : Int)])
theorem TwoAt.same {H H' : Hp} (k : Same H H') {w : Dd × Nat} {y : V} : TwoAt H w y → TwoAt H' w y := fun ⟨T, e, h⟩ => ⟨T, e, k _ _ h⟩
def spTooNew : Sp := fun vs H Q _ => ∃ (a b : Addr) (ds : List Dd) (ks : List Nat) (m : Nat → Nat), vs = [.ref a, .ref b] ∧ LogAt H a ds ∧ Lg ds ∧ MkAt H b ks m ∧ (∀ p ∈ pgs ds, p ∈ ks) ∧ ∀ q ys H', Same H H' → H q = none → H' q = some (.lst ys) → Paired (TwoAt H') (wr ds m) ys → Q (.ref q) H'
section
variable {P : Program} {w : World} {K : PySem.W.Frag} {mg : Str → Option Value} {base : Heap}
abbrev s_too_new : Stmt := top 59
abbrev N_too_new : List Str := ["_law_log_here", "_law_marks", "_law_found", "_law_number", "_law_page", "_law_reads", "_law_words_here", "_law_late"]
theorem sc_too_new : FnScope N_too_new ["_law_log_here", "_law_marks"] (defScope s_too_new) := ⟨rfl, rfl, rfl, by decide +kernel, rfl, by decide +kernel, by decide +kernel⟩
theorem ok_too_new {f : Addr} {fd : FuncData} (F : FnP K "_law_too_new" s_too_new f fd) (Z : FreeS mg) :
    FnOk P w K mg base CX0 1 f fd ["_law_log_here", "_law_marks"] spTooNew := by
  refine F.ok sc_too_new (fun vs H Q E h => ?_) (fun cdv A outer s H vs Q E hr h => ?_)
  · obtain ⟨a, b, ds, ks, m, rfl, _⟩ := h
    rfl
  · obtain ⟨a, b, ds, ks, m, rfl, hL, hG, hb, pk, k⟩ := h
    obtain ⟨xs, ha, lx, hx⟩ := id hL
    have l60 := hG.len
    have sl : (3000 : Nat) ≤ sizeLine := by decide
    have hu : (A.deeper (envOfC "_law_too_new" (defScope s_too_new) s.heap.objs.size f cdv)).units + 1 < cLine := by
      have := hr.units
      omega
    have nd := sc_too_new.nd
    refine ⟨_, PSs.nox (pss_cons (ps_set (i := 2) nd rfl (Or.inl rfl) (pe_lst (pa_nil)))
      (pss_cons (ps_for PassesOwn.never rfl (pi_list (pv 0)) (pg_tup rfl (pgs_cons (pg_name (i := 3) nd rfl (Or.inr rfl)) (pgs_cons (pg_name (i := 4) nd rfl (Or.inl rfl)) (pgs_cons (pg_name (i := 5) nd rfl (Or.inl rfl)) (pgs_cons (pg_name (i := 6) nd rfl (Or.inl rfl)) (pgs_nil))))))
        (pss_one (ps_if (pt_cmpR op_lt (pe_dget hu (pv 1) (pv 4) (fun _ _ => rfl)) (pv 3) (nomark _)) (pss_one (ps_set (i := 2) nd rfl (Or.inl rfl) (pe_op op_cat (pv 2) (pe_lc (own := [("_law_late", 7)]) (g := gName 7) (tt := tTest (tOp (rI0 fun i j => .bl (decide (j ≤ i))) (tDGet (tVar 1) (tVar 7)) (tVar 3))) (te := tTup (tCons (tVar 3) (tCons (tVar 7) (tNil)))) (by rfl) nd (pi_list (pv 5))
          (blkOk_by (own := [("_law_late", 7)]) (N := N_too_new) (sc := defScope s_too_new) (by decide +kernel)) (fun _ _ _ _ _ => pg_name (i := 7) nd rfl (Or.inl rfl)) (fun _ _ _ _ _ => pts_one (pt_cmpR op_ge (pe_dget hu (pv 1) (pv 7) (fun _ _ => rfl)) (pv 3) (nomark _)))
          (fun _ _ _ _ _ => pe_tup (pa_cons (pv 3) (pa_cons (pv 7) (pa_nil)))))))) (pss_nil))))
      (pss_one (ps_ret (pv 2))))), ?_⟩
    have dget : ∀ {G : Hp} {p : Nat}, Same H G → p ∈ pgs ds → DGet G b (.int (p : Int)) (some (.int (m p : Int))) := fun {G p} s1 hp => by
      have := DGet.k (k := ky p) (s1 _ _ hb)
      rw [dV_val (pk p hp)] at this
      exact this
    have r20 : ∀ d ∈ ds, d.r.length ≤ 20 := fun d hd => (hG.ok d hd).len
    refine ⟨Nat.zero_le _, fun q hq => ?_⟩
    have s1 : Same H (upd H q (.lst [])) := Same.updf hq
    refine ⟨_, rfl, a, rfl, ⟨_, SqL.of (s1 _ _ ha)⟩, ?_⟩
    refine for_it (walk_list (K := K) (a := a) (xs := xs)) (fun i σ G => Same H G ∧ ∃ L ys v3 v4 v5 v6, G L = some (.lst ys) ∧ Paired (TwoAt G) (wr (ds.take i) m) ys ∧ H L = none ∧ σ = [some (.ref a), some (.ref b), some (.ref L), v3, v4, v5, v6, none]) ⟨s1, q, [], _, _, _, _, upd_same, .nil, hq, rfl⟩ (fun i σ G _ hh => SqL.of (hh.1 _ _ ha)) ?_ ?_
    · rintro i x σ G G' hi ⟨sG, L, ys, v3, v4, v5, v6, hys, py, nL, rfl⟩ ⟨rfl, hv⟩
      have li : i < ds.length := by omega
      have hd : ds[i]? = some ds[i] := List.getElem?_eq_getElem li
      have md : ds[i] ∈ ds := List.getElem_mem li
      obtain ⟨t, rd, tw, rfl, ht, hr1, _⟩ := (hx i x _ hv hd).same sG
      have ok := hG.ok _ md
      have mp : ∀ p ∈ ds[i].r, p ∈ pgs ds := fun p hp => pgs_mem.mpr ⟨ds[i], md, hp⟩
      refine ⟨t, [_, _, _, _], rfl, .inl (.inl ht), rfl, _, [_, _, _], rfl, _, [_, _], rfl, _, [_], rfl, _, [], rfl, rfl, ?_⟩
      refine ⟨_, rfl, _, rfl, b, _, rfl, dget sG (mp _ ok.own), _, rfl, _, _, rfl, rfl, _, rfl, ?_⟩
      rw [wr_take hd]
      by_cases c : m ds[i].p < ds[i].n
      · rw [decide_eq_true (show (m ds[i].p : Int) < (ds[i].n : Int) by omega), if_pos c]
        refine iteT ⟨_, rfl, _, rfl, rd, rfl, ⟨_, SqL.of hr1⟩, fun D hD => ?_⟩
        have l20 := r20 _ md
        have ln : (numsV ds[i].r).length = ds[i].r.length := List.length_map _
        have wl := wr_len (ds := ds.take i) (fun e he => r20 e (List.mem_of_mem_take he)) m
        rw [List.length_take] at wl
        have ly := paired_len py
        refine lc_rel (walk_list (K := K) (a := rd) (xs := numsV ds[i].r)) (fun j => decide (ds[i].n ≤ m (ds[i].r.getD j 0))) (fun j y G => TwoAt G (ds[i], ds[i].r.getD j 0) y) (fun j y G G' s1 h => h.same s1) (by omega) hD (fun G s2 => SqL.of (s2 _ _ hr1)) ?_ ?_
        · rintro j x G3 G4 Qy Qn hj s3 ⟨acc, hacc⟩ ⟨rfl, hv⟩ ky_ kn
          have lj : j < ds[i].r.length := by omega
          unfold numsV at hv
          rw [List.getElem?_map, List.getElem?_eq_getElem lj] at hv
          obtain rfl := Option.some.inj hv
          have eg : ds[i].r.getD j 0 = ds[i].r[j] := by simp [lj]
          rw [eg] at ky_ kn
          refine ⟨rfl, _, rfl, _, rfl, b, _, rfl, dget (sG.trans s3) (mp _ (List.getElem_mem _)), _, rfl, _, _, rfl, rfl, _, rfl, ?_⟩
          by_cases z : ds[i].n ≤ m ds[i].r[j]
          · rw [decide_eq_true (show (ds[i].n : Int) ≤ (m ds[i].r[j] : Int) by omega)]
            refine iteT ⟨_, rfl, _, rfl, (by show 2 ≤ sizeLine; omega), fun T hT => ky_ _ _ (decide_eq_true z) (Same.updf hT) ⟨T, rfl, ?_⟩⟩
            rw [off_at (ne_of_none hacc hT).symm, upd_same]
          · rw [decide_eq_false (show ¬ (ds[i].n : Int) ≤ (m ds[i].r[j] : Int) by omega)]
            exact iteF (kn _ (decide_eq_false z) (Same.refl _))
        · rintro G3 zs s3 hzs pz
          rw [ln] at pz
          have pz2 := paired_sel (l := ds[i].r) (c := fun p => decide (ds[i].n ≤ m p)) (R := fun p y => TwoAt (off G3 D) (ds[i], p) y) pz
          have lz := paired_len pz2
          have lf := List.length_filter_le (fun p => decide (ds[i].n ≤ m p)) ds[i].r
          refine ⟨L, D, ys, zs, rfl, rfl, s3 _ _ hys, hzs, by omega, fun L2 hL2 => ?_⟩
          have s4 := Same.updf (o := .lst (ys ++ zs)) hL2
          refine ⟨(sG.trans s3).trans s4, L2, _, _, _, _, _, upd_same, paired_app (paired_mono (fun w y h => h.same (s3.trans s4)) py) ?_, none_back (sG.trans s3) hL2, rfl⟩
          unfold wr1
          rw [List.take_length]
          exact paired_map (paired_mono (fun p y h => h.same ((off_le _ _).trans s4)) pz2)
      · rw [decide_eq_false (show ¬ (m ds[i].p : Int) < (ds[i].n : Int) by omega), if_neg c, List.append_nil]
        exact iteF ⟨sG, L, ys, _, _, _, _, hys, py, nL, rfl⟩
    · rintro σ G ⟨sG, L, ys, v3, v4, v5, v6, hys, py, nL, rfl⟩
      rw [lx, List.take_length] at py
      exact ⟨_, rfl, k L ys G sG nL hys py⟩
end
end K33
set_option Elab.async false
set_option linter.all false
set_option maxRecDepth 100000
set_option maxHeartbeats 8000000
namespace K33
open PySem PySem.Spec PyProof.Rows L2 KB
/-! Lines of a chain. -/
structure Ln where
  a : Nat
  c : Bool
  d : Dd
structure Ln.Ok (l : Ln) : Prop where
  fit : l.d.Fit
  lt : l.a < l.d.n
  sm : l.d.n < 1000000000
def LnAt (H : Hp) (x : V) (l : Ln) : Prop := ∃ (t : Addr) (xd : V), x = .ref t ∧ H t = some (.tup [.int (l.d.n : Int), .int (l.a : Int), .bl l.c, xd]) ∧ DeedAt H xd l.d
theorem LnAt.same {H H' : Hp} (k : Same H H') {x : V} {l : Ln} : LnAt H x l → LnAt H' x l := fun ⟨t, xd, e, h, hd⟩ => ⟨t, xd, e, k _ _ h, hd.same k⟩
/-- the chain at c -/
def ChAt (H : Hp) (c : Addr) (ls : List Ln) : Prop := ∃ xs : List V, H c = some (.lst xs) ∧ Paired (fun l x => LnAt H x l) ls xs
theorem ChAt.same {H H' : Hp} (k : Same H H') {c : Addr} {ls : List Ln} : ChAt H c ls → ChAt H' c ls := fun ⟨xs, h, p⟩ => ⟨xs, k _ _ h, paired_mono (fun l x h => h.same k) p⟩
/-- a right chain -/
structure Ch (ls : List Ln) : Prop where
  ok : ∀ l ∈ ls, l.Ok
  nx : ∀ (i : Nat) (l m : Ln), ls[i]? = some l → ls[i + 1]? = some m → m.a = l.d.n
  len : ls.length ≤ 60
theorem cut_tailV (xs : List V) : cutV xs (some 1) none = xs.drop 1 := by
  unfold cutV
  by_cases h : 1 ≤ xs.length
  · have e1 : HT.sIx xs.length 0 (some 1) = 1 := by
      unfold HT.sIx
      simp
      omega
    have e2 : HT.sIx xs.length xs.length none = xs.length := rfl
    rw [e1, e2, List.take_of_length_le (by rw [List.length_drop]; exact Nat.le_refl _)]
  · have e0 : xs = [] := List.length_eq_zero_iff.mp (by omega)
    rw [e0]
    rfl
def spHead : Sp := fun vs H Q _ => ∃ (x : V) (l : Ln), vs = [x] ∧ LnAt H x l ∧ l.a < 1000000000 ∧ ∀ h : Nat, h ≤ 2 * l.a + 1 → Q (.int (h : Int)) H
def spIsLine : Sp := fun vs H Q _ => ∃ (x : V) (l : Ln), vs = [x] ∧ LnAt H x l ∧ l.Ok ∧ ∀ H', Same H H' → Q (.bl true) H'
def spNeedCh : Sp := fun vs H Q _ => ∃ (c : Addr) (ls : List Ln), vs = [.ref c] ∧ ChAt H c ls ∧ Ch ls ∧ ∀ H', Same H H' → Q .non H'
section
variable {P : Program} {w : World} {K : PySem.W.Frag} {mg : Str → Option Value} {base : Heap}
abbrev s_head_of : Stmt := top 33
abbrev N_head_of : List Str := ["line"]
theorem sc_head_of : FnScope N_head_of ["line"] (defScope s_head_of) := ⟨rfl, rfl, rfl, by decide +kernel, rfl, by decide +kernel, by decide +kernel⟩
theorem ok_head_of {f : Addr} {fd : FuncData} (F : FnP K "head_of" s_head_of f fd) (Z : FreeS mg) :
    FnOk P w K mg base CX0 1 f fd ["line"] spHead := by
  refine F.ok sc_head_of (fun vs H Q E h => ?_) (fun cdv A outer s H vs Q E hr h => ?_)
  · obtain ⟨x, l, rfl, _⟩ := h
    rfl
  · obtain ⟨x, l, rfl, ⟨t, xd, rfl, ht, hd⟩, la, k⟩ := h
    have nd := sc_head_of.nd
    refine ⟨_, PSs.nox (pss_cons (ps_if (pt_val (pe_ix ix_tup (pv 0) (pe_int) (fun _ _ => rfl))) (pss_one (ps_ret (pe_op op_add (pe_op op_mul (pe_int) (pe_ix ix_tup (pv 0) (pe_int) (fun _ _ => rfl))) (pe_int)))) (pss_nil))
      (pss_one (ps_ret (pe_op op_mul (pe_int) (pe_ix ix_tup (pv 0) (pe_int) (fun _ _ => rfl)))))), ?_⟩
    refine ⟨_, rfl, t, _, 2, _, rfl, rfl, SqT.of ht, rfl, _, rfl, ?_⟩
    have k1 := k (2 * l.a + 1) (Nat.le_refl _)
    have k0 := k (2 * l.a) (by omega)
    cases hc : l.c with
    | true =>
      refine iteT ⟨_, rfl, t, _, 1, _, rfl, rfl, SqT.of ht, rfl, _, _, rfl, rfl, .inl ⟨by omega, by omega⟩, _, _, rfl, rfl, ?_⟩
      exact k1
    | false =>
      refine iteF ⟨_, rfl, t, _, 1, _, rfl, rfl, SqT.of ht, rfl, _, _, rfl, rfl, .inl ⟨by omega, by omega⟩, ?_⟩
      exact k0
abbrev s_is_line : Stmt := top 32
abbrev N_is_line : List Str := ["value", "number", "ahead", "last", "deed"]
theorem sc_is_line : FnScope N_is_line ["value"] (defScope s_is_line) := ⟨rfl, rfl, rfl, by decide +kernel, rfl, by decide +kernel, by decide +kernel⟩
theorem ok_is_line {f : Addr} {fd : FuncData} (F : FnP K "is_line" s_is_line f fd) (Z : FreeS mg)
    {f_is_tuple_of : Addr} {d_is_tuple_of : FuncData} (g_is_tuple_of : mg "is_tuple_of" = some (.ref f_is_tuple_of)) (F_is_tuple_of : FnP K "is_tuple_of" s_is_tuple_of f_is_tuple_of d_is_tuple_of) (G_is_tuple_of : FnOk P w K mg base CX0 1 f_is_tuple_of d_is_tuple_of ["value", "length"] spTupOf)
    {f_head_of : Addr} {d_head_of : FuncData} (g_head_of : mg "head_of" = some (.ref f_head_of)) (F_head_of : FnP K "head_of" s_head_of f_head_of d_head_of) (G_head_of : FnOk P w K mg base CX0 1 f_head_of d_head_of ["line"] spHead)
    {f_is_count : Addr} {d_is_count : FuncData} (g_is_count : mg "is_count" = some (.ref f_is_count)) (F_is_count : FnP K "is_count" s_is_count f_is_count d_is_count) (G_is_count : FnOk P w K mg base CX0 2 f_is_count d_is_count ["value"] spCount)
    {f_is_deed : Addr} {d_is_deed : FuncData} (g_is_deed : mg "is_deed" = some (.ref f_is_deed)) (F_is_deed : FnP K "is_deed" s_is_deed f_is_deed d_is_deed) (G_is_deed : FnOk P w K mg base CX0 4 f_is_deed d_is_deed ["value"] spDeed)
    {f_fits_line : Addr} {d_fits_line : FuncData} (g_fits_line : mg "fits_line" = some (.ref f_fits_line)) (F_fits_line : FnP K "fits_line" s_fits_line f_fits_line d_fits_line) (G_fits_line : FnOk P w K mg base CX0 4 f_fits_line d_fits_line ["deed"] spFits) (C : Cn mg) :
    FnOk P w K mg base CX0 5 f fd ["value"] spIsLine := by
  have b_is_tuple_of : Binds K d_is_tuple_of ["value", "length"] [] := F_is_tuple_of.bindsN fun _ _ _ _ _ _ us hl => match us, hl with | [_, _], _ => rfl
  have b_head_of : Binds K d_head_of ["line"] [] := F_head_of.bindsN fun _ _ _ _ _ _ us hl => match us, hl with | [_], _ => rfl
  have b_is_count : Binds K d_is_count ["value"] [] := F_is_count.bindsN fun _ _ _ _ _ _ us hl => match us, hl with | [_], _ => rfl
  have b_is_deed : Binds K d_is_deed ["value"] [] := F_is_deed.bindsN fun _ _ _ _ _ _ us hl => match us, hl with | [_], _ => rfl
  have b_fits_line : Binds K d_fits_line ["deed"] [] := F_fits_line.bindsN fun _ _ _ _ _ _ us hl => match us, hl with | [_], _ => rfl
  refine F.ok sc_is_line (fun vs H Q E h => ?_) (fun cdv A outer s H vs Q E hr h => ?_)
  · obtain ⟨x, l, rfl, _⟩ := h
    rfl
  · obtain ⟨x, l, rfl, hl, ok, k⟩ := h
    obtain ⟨t, xd, rfl, ht, hd⟩ := id hl
    have nd := sc_is_line.nd
    refine ⟨_, PSs.nox (pss_cons (ps_if (pt_not (pt_val (pe_call G_is_tuple_of (hr.mono (by decide)) rfl g_is_tuple_of F_is_tuple_of.kp b_is_tuple_of .nil pass0 (pa_cons (pv 0) (pa_cons (pe_int) (pa_nil)))))) (pss_one (ps_ret (pe_bl))) (pss_nil))
      (pss_cons (ps_asg (pv 0) (pg_tup rfl (pgs_cons (pg_name (i := 1) nd rfl (Or.inl rfl)) (pgs_cons (pg_name (i := 2) nd rfl (Or.inl rfl)) (pgs_cons (pg_name (i := 3) nd rfl (Or.inl rfl)) (pgs_cons (pg_name (i := 4) nd rfl (Or.inl rfl)) (pgs_nil)))))))
      (pss_cons (ps_if (PW.pt (pw_or (pt_not (pt_val (pe_call G_is_count (hr.mono (by decide)) rfl g_is_count F_is_count.kp b_is_count .nil pass0 (pa_cons (pv 1) (pa_nil))))) (pw_or (pt_not (pt_val (pe_call G_is_count (hr.mono (by decide)) rfl g_is_count F_is_count.kp b_is_count .nil pass0 (pa_cons (pv 2) (pa_nil))))) (pw_or (pt_cmpR op_ge (pv 2) (pv 1) (nomark _)) (pw_or1 (pt_not (pt_val (pe_callB call_isi (by rfl) Z.isi (by decide +kernel) (pa_cons (pv 3) (pa_cons (pe_bltn (v := .ty "bool") (by rfl) Z.tbool (by decide +kernel) rfl) pa_nil)))))))))) (pss_one (ps_ret (pe_bl))) (pss_nil))
      (pss_cons (ps_if (PW.pt (pw_or (pt_not (pt_val (pe_call G_is_deed (hr.mono (by decide)) rfl g_is_deed F_is_deed.kp b_is_deed .nil pass0 (pa_cons (pv 4) (pa_nil))))) (pw_or (pt_cmpR op_ne (pe_ix ix_tup (pv 4) (pe_int) (fun _ _ => rfl)) (pv 1) (nomark _)) (pw_or1 (pt_not (pt_val (pe_call G_fits_line (hr.mono (by decide)) rfl g_fits_line F_fits_line.kp b_fits_line .nil pass0 (pa_cons (pv 4) (pa_nil))))))))) (pss_one (ps_ret (pe_bl))) (pss_nil))
      (pss_one (ps_ret (pe_cmpR op_lt (pe_call G_head_of (hr.mono (by decide)) rfl g_head_of F_head_of.kp b_head_of .nil pass0 (pa_cons (pv 0) (pa_nil))) (pe_glob (v := .int 2305843009213693951) (by rfl) C.gP.choose_spec ⟨_, rfl⟩) (nomark _)))))))), ?_⟩
    refine ⟨_, rfl, t, _, 4, rfl, ht, _, rfl, iteF ?_⟩
    refine ⟨_, rfl, t, [_, _, _, _], rfl, .inl (.inl ht), rfl, _, [_, _, _], rfl, _, [_, _], rfl, _, [_], rfl, _, [], rfl, rfl, ?_⟩
    have lt := ok.lt
    have sm := ok.sm
    refine ⟨_, rfl, .inl ⟨_, rfl, _, rfl, ?_⟩⟩
    rw [decide_eq_true (show (l.d.n : Int) ≥ 0 by omega)]
    refine iteF ⟨_, rfl, .inl ⟨_, rfl, _, rfl, ?_⟩⟩
    rw [decide_eq_true (show (l.a : Int) ≥ 0 by omega)]
    refine iteF ⟨_, rfl, _, rfl, _, _, rfl, rfl, _, rfl, ?_⟩
    rw [decide_eq_false (show ¬ (l.d.n : Int) ≤ (l.a : Int) by omega)]
    refine iteF ⟨_, rfl, .bl l.c, .ty "bool", .type "bool", .type "bool", true, rfl, .ty _, .base (.bl _), kit_ty (by decide +kernel), true, rfl, iteF ?_⟩
    refine ⟨_, rfl, xd, l.d, rfl, hd, ok.fit.ok, fun G1 s1 => ⟨true, rfl, iteF ?_⟩⟩
    have hd1 := hd.same s1
    obtain ⟨T, rd, tw, rfl, hT, _, _⟩ := id hd1
    refine ⟨_, rfl, T, _, 0, _, rfl, rfl, SqT.of hT, rfl, _, rfl, rfl, _, rfl, ?_⟩
    rw [decide_eq_true (rfl : V.int (l.d.n : Int) = V.int (l.d.n : Int))]
    refine iteF ⟨_, rfl, _, l.d, rfl, hd1, ok.fit, fun G2 s2 => ⟨true, rfl, iteF ?_⟩⟩
    refine ⟨_, rfl, _, l, rfl, hl.same (s1.trans s2), by omega, fun h lh => ⟨_, _, rfl, rfl, ?_⟩⟩
    show Q (.bl (decide ((h : Int) < 2305843009213693951))) G2
    rw [decide_eq_true (show (h : Int) < 2305843009213693951 by omega)]
    exact k G2 (s1.trans s2)
abbrev s_need_chain : Stmt := top 35
abbrev N_need_chain : List Str := ["chain", "line", "late"]
theorem sc_need_chain : FnScope N_need_chain ["chain"] (defScope s_need_chain) := ⟨rfl, rfl, rfl, by decide +kernel, rfl, by decide +kernel, by decide +kernel⟩
theorem ok_need_chain {f : Addr} {fd : FuncData} (F : FnP K "need_chain" s_need_chain f fd) (Z : FreeS mg)
    {f_is_line : Addr} {d_is_line : FuncData} (g_is_line : mg "is_line" = some (.ref f_is_line)) (F_is_line : FnP K "is_line" s_is_line f_is_line d_is_line) (G_is_line : FnOk P w K mg base CX0 5 f_is_line d_is_line ["value"] spIsLine) :
    FnOk P w K mg base CX0 6 f fd ["chain"] spNeedCh := by
  have b_is_line : Binds K d_is_line ["value"] [] := F_is_line.bindsN fun _ _ _ _ _ _ us hl => match us, hl with | [_], _ => rfl
  refine F.ok sc_need_chain (fun vs H Q E h => ?_) (fun cdv A outer s H vs Q E hr h => ?_)
  · obtain ⟨c, ls, rfl, _⟩ := h
    rfl
  · obtain ⟨c, ls, rfl, ⟨xs, hc, px⟩, hC, k⟩ := h
    have l60 := hC.len
    have lx := paired_len px
    have sl : (3000 : Nat) ≤ sizeLine := by decide
    have nd := sc_need_chain.nd
    refine ⟨_, PSs.nox (pss_cons (ps_if (PW.pt (pw_or (pt_not (pt_val (pe_callB call_isi (by rfl) Z.isi (by decide +kernel) (pa_cons (pv 0) (pa_cons (pe_bltn (v := .ty "list") (by rfl) Z.tlist (by decide +kernel) rfl) pa_nil))))) (pw_or1 (pt_not (pt_val (pe_callB (cr_all rfl) (by rfl) Z.all (by decide +kernel) (pa_cons (pe_lc (own := [("line", 1)]) (g := gName 1) (tt := tYes) (te := tCall spIsLine [] E0 (tCons (tVar 1) (tNil))) (by rfl) nd (pi_list (pv 0))
          (blkOk_by (own := [("line", 1)]) (N := N_need_chain) (sc := defScope s_need_chain) (by decide +kernel)) (fun _ _ _ _ _ => pg_name (i := 1) nd rfl (Or.inl rfl)) (fun _ _ _ _ _ => pts_nil)
          (fun _ _ _ _ _ => pe_call G_is_line (hr.mono (by decide)) rfl g_is_line F_is_line.kp b_is_line .nil pass0 (pa_cons (pv 1) (pa_nil)))) (pa_nil)))))))) (pss_one (ps_dead)) (pss_nil))
      (pss_one (ps_if (pt_not (pt_val (pe_callB (cr_all rfl) (by rfl) Z.all (by decide +kernel) (pa_cons (pe_lc (own := [("line", 1), ("late", 2)]) (g := gTup K 2 (gCons (gName 1) (gCons (gName 2) (gNil)))) (tt := tYes) (te := tOp rEq (tOp (rIxT K) (tVar 2) (tC (.int 1))) (tOp (rIxT K) (tVar 1) (tC (.int 0)))) (by rfl) nd (pi_zip (by rfl) Z.zip (pa_cons (pv 0) (pa_cons (pe_slice sl_list (pv 0) (po_some (pe_int)) (po_none)) (pa_nil))))
          (blkOk_by (own := [("line", 1), ("late", 2)]) (N := N_need_chain) (sc := defScope s_need_chain) (by decide +kernel)) (fun _ _ _ _ _ => pg_tup rfl (pgs_cons (pg_name (i := 1) nd rfl (Or.inl rfl)) (pgs_cons (pg_name (i := 2) nd rfl (Or.inl rfl)) (pgs_nil)))) (fun _ _ _ _ _ => pts_nil)
          (fun _ _ _ _ _ => pe_cmpR op_eq (pe_ix ix_tup (pv 2) (pe_int) (fun _ _ => rfl)) (pe_ix ix_tup (pv 1) (pe_int) (fun _ _ => rfl)) (nomark _))) (pa_nil))))) (pss_one (ps_dead)) (pss_nil)))), ?_⟩
    refine ⟨_, rfl, .ref c, .ty "list", .type "list", .type "list", true, rfl, .ty _, .base (.lst hc), kit_ty (by decide +kernel), true, rfl, iteF ?_⟩
    refine ⟨_, rfl, c, rfl, ⟨_, SqL.of hc⟩, fun D hD => ?_⟩
    refine lc_sel (n := xs.length) (walk_list (K := K) (a := c) (xs := xs)) (fun _ => some (.bl true)) (by omega) hD (fun G s => SqL.of (s _ _ hc)) ?_ ?_
    · rintro i x H2 H3 Qy Qn hi sH ⟨rfl, hv⟩ ky' kn
      obtain ⟨l, el, hl⟩ := paired_get2 px hv
      exact ⟨rfl, _, rfl, x, l, rfl, hl.same sH, hC.ok l (List.mem_of_getElem? el), fun G s => ky' _ _ s rfl⟩
    · intro H2 s2 hR
      obtain ⟨bs, hB, hb⟩ := all_bits (K := K) hR
      refine ⟨D, bs, rfl, hB, ?_⟩
      rw [hb]
      refine ⟨true, rfl, iteF ?_⟩
      have hc2 := s2 _ _ hc
      have ec : cutV xs (some 1) none = xs.drop 1 := cut_tailV xs
      refine ⟨_, rfl, _, rfl, _, rfl, c, _, rfl, SqL.of hc2, fun q hq => ?_⟩
      rw [ec]
      have s3 := Same.updf (o := .lst (xs.drop 1)) hq
      refine ⟨c, q, _, _, rfl, SqL.of (s3 _ _ hc2), SqL.of upd_same, fun D2 hD2 => ?_⟩
      refine lc_sel (n := xs.length - 1) (walk_zip (K := K) (a := c) (b := q) (xs := xs) (ys := xs.drop 1) (by rw [List.length_drop]; omega)) (fun _ => some (.bl true)) (by omega) hD2 (fun G s => ⟨SqL.of (s _ _ (s3 _ _ hc2)), SqL.of (s _ _ upd_same)⟩) ?_ ?_
      · rintro i v H5 H6 Qy Qn hi s6 ⟨T, x1, x2, rfl, nT, rfl, g1, g2⟩ ky kn
        dsimp only at g1 g2
        rw [List.getElem?_drop, Nat.add_comm] at g2
        obtain ⟨l, el, t1, xd1, rfl, ht1, _⟩ := paired_get2 px g1
        obtain ⟨m, em, t2, xd2, rfl, ht2, _⟩ := paired_get2 px g2
        have sT := Same.updf (o := .tup [V.ref t1, V.ref t2]) nT
        have sAll := ((s2.trans s3).trans s6).trans sT
        refine ⟨T, [_, _], rfl, .inl (.inl upd_same), rfl, _, [_], rfl, _, [], rfl, rfl, ?_⟩
        refine ⟨rfl, _, rfl, t2, _, 1, _, rfl, rfl, SqT.of (sAll _ _ ht2), rfl, _, rfl, t1, _, 0, _, rfl, rfl, SqT.of (sAll _ _ ht1), rfl, rfl, ?_⟩
        exact ky _ _ sT (congrArg (fun b => some (V.bl b)) (decide_eq_true (by rw [hC.nx i l m el em]))).symm
      · intro H5 s5 hR5
        obtain ⟨bs2, hB2, hb2⟩ := all_bits (K := K) hR5
        refine ⟨D2, bs2, rfl, hB2, ?_⟩
        rw [hb2]
        exact ⟨true, rfl, iteF (k _ ((s2.trans s3).trans s5))⟩
end
end K33
set_option Elab.async false
set_option linter.all false
set_option maxRecDepth 100000
set_option maxHeartbeats 8000000
namespace K33
open PySem PySem.Spec PyProof.Rows L2 KB
/-- N lines stand up to the last that commits -/
structure IsUp (ls : List Ln) (N : Nat) : Prop where
  lt : ∀ (i : Nat) (l : Ln), ls[i]? = some l → l.c = true → i < N
  at_ : N = 0 ∨ ∃ l, ls[N - 1]? = some l ∧ l.c = true
theorem cut_n (xs : List V) (n : Nat) : cutV xs none (some (n : Int)) = xs.take n := by
  unfold cutV
  have e1 : HT.sIx xs.length 0 none = 0 := rfl
  have e2 : HT.sIx xs.length xs.length (some (n : Int)) = min n xs.length := by
    unfold HT.sIx
    simp
    omega
  rw [e1, e2, List.drop_zero]
  by_cases h : n ≤ xs.length
  · rw [Nat.min_eq_left h]
    rfl
  · rw [List.take_of_length_le (by omega), List.take_of_length_le (by omega)]
def spUpTo : Sp := fun vs H Q _ => ∃ (c : Addr) (ls : List Ln) (xs : List V) (N : Nat), vs = [.ref c] ∧ H c = some (.lst xs) ∧ Paired (fun l x => LnAt H x l) ls xs ∧ ls.length ≤ 60 ∧ IsUp ls N ∧ ∀ q H', Same H H' → H q = none → H' q = some (.lst (xs.take N)) → Q (.ref q) H'
def spBegin : Sp := fun vs H Q _ => ∃ (c : Addr) (ls : List Ln), vs = [.ref c] ∧ ChAt H c ls ∧ Q (.int (((ls.head?.map (·.a)).getD 0 : Nat) : Int)) H
def spDeedsOf : Sp := fun vs H Q _ => ∃ (c : Addr) (ls : List Ln) (N : Nat), vs = [.ref c] ∧ ChAt H c ls ∧ ls.length ≤ 60 ∧ IsUp ls N ∧ ∀ q H', Same H H' → H q = none → LogAt H' q ((ls.take N).map (·.d)) → Q (.ref q) H'
section
variable {P : Program} {w : World} {K : PySem.W.Frag} {mg : Str → Option Value} {base : Heap}
abbrev s_up_to_commit : Stmt := top 36
abbrev N_up_to_commit : List Str := ["chain", "many", "at", "line"]
theorem sc_up_to_commit : FnScope N_up_to_commit ["chain"] (defScope s_up_to_commit) := ⟨rfl, rfl, rfl, by decide +kernel, rfl, by decide +kernel, by decide +kernel⟩
theorem ok_up_to_commit {f : Addr} {fd : FuncData} (F : FnP K "up_to_commit" s_up_to_commit f fd) (Z : FreeS mg) :
    FnOk P w K mg base CX0 1 f fd ["chain"] spUpTo := by
  refine F.ok sc_up_to_commit (fun vs H Q E h => ?_) (fun cdv A outer s H vs Q E hr h => ?_)
  · obtain ⟨c, ls, xs, N, rfl, _⟩ := h
    rfl
  · obtain ⟨c, ls, xs, N, rfl, hc, px, l60, up, k⟩ := h
    have lx := paired_len px
    have sl : (3000 : Nat) ≤ sizeLine := by decide
    have nd := sc_up_to_commit.nd
    refine ⟨_, PSs.nox (pss_cons (ps_set (i := 1) nd rfl (Or.inl rfl) (pe_callBK (cr_maxDf rfl) (by rfl) Z.max (by decide +kernel) (pa_cons (pe_lc (own := [("at", 2), ("line", 3)]) (g := gTup K 2 (gCons (gName 2) (gCons (gName 3) (gNil)))) (tt := tB (tOp (rIxT K) (tVar 3) (tC (.int 2)))) (te := tOp (rI0 fun i j => .int (i + j)) (tVar 2) (tC (.int 1))) (by rfl) nd (pi_enum (by rfl) Z.enumerate (pa_cons (pv 0) (pa_nil)))
          (blkOk_by (own := [("at", 2), ("line", 3)]) (N := N_up_to_commit) (sc := defScope s_up_to_commit) (by decide +kernel)) (fun _ _ _ _ _ => pg_tup rfl (pgs_cons (pg_name (i := 2) nd rfl (Or.inl rfl)) (pgs_cons (pg_name (i := 3) nd rfl (Or.inl rfl)) (pgs_nil)))) (fun _ _ _ _ _ => pts_one (pt_val (pe_ix ix_tup (pv 3) (pe_int) (fun _ _ => rfl))))
          (fun _ _ _ _ _ => pe_op op_add (pv 2) (pe_int))) (pa_nil)) (pk_cons (pe_int) pk_nil)))
      (pss_one (ps_ret (pe_slice sl_list (pv 0) (po_none) (po_some (pv 1)))))), ?_⟩
    refine ⟨_, rfl, c, _, rfl, SqL.of hc, fun D hD => ?_⟩
    refine lc_sel (n := xs.length) (walk_enum (K := K) (a := c) (xs := xs)) (fun i => (ls[i]?).bind fun l => if l.c = true then some (V.int ((i + 1 : Nat) : Int)) else none) (by omega) hD (fun G s => SqL.of (s _ _ hc)) ?_ ?_
    · rintro i v H5 H6 Qy Qn hi s6 ⟨T, x1, x2, rfl, nT, rfl, g1, g2⟩ ky kn
      dsimp only at g1 g2
      obtain rfl := Option.some.inj g1
      obtain ⟨l, el, t, xd, rfl, ht, _⟩ := paired_get2 px g2
      have sT := Same.updf (o := .tup [V.int (i : Nat), V.ref t]) nT
      rw [el, Option.bind_some] at ky kn
      refine ⟨T, [_, _], rfl, .inl (.inl upd_same), rfl, _, [_], rfl, _, [], rfl, rfl, ?_⟩
      refine ⟨rfl, _, rfl, t, _, 2, _, rfl, rfl, SqT.of ((s6.trans sT) _ _ ht), rfl, _, rfl, ?_⟩
      cases hcc : l.c with
      | true =>
        rw [hcc] at ky
        exact iteT ⟨_, rfl, _, _, rfl, rfl, ky _ _ sT rfl⟩
      | false =>
        rw [hcc] at kn
        exact iteF (kn _ sT rfl)
    · intro H5 s5 hR
      obtain ⟨ns, ens⟩ : ∃ ns : List Int, ns = (List.range xs.length).filterMap fun i => (ls[i]?).bind fun l => if l.c = true then some (((i + 1 : Nat) : Int)) else none := ⟨_, rfl⟩
      have mem : ∀ x : Int, x ∈ ns ↔ ∃ i l, ls[i]? = some l ∧ l.c = true ∧ x = ((i + 1 : Nat) : Int) := fun x => by
        rw [ens, List.mem_filterMap]
        constructor
        · rintro ⟨i, _, h⟩
          cases el : ls[i]? with
          | none =>
            rw [el] at h
            cases h
          | some l =>
            rw [el, Option.bind_some] at h
            split at h
            · next hcc => exact ⟨i, l, el, hcc, (Option.some.inj h).symm⟩
            · cases h
        · rintro ⟨i, l, el, hcc, rfl⟩
          refine ⟨i, List.mem_range.mpr ?_, ?_⟩
          · have := (List.getElem?_eq_some_iff.mp el).1
            omega
          · rw [el, Option.bind_some, if_pos hcc]
      have hR2 : H5 D = some (.lst (ns.map V.int)) := by
        rw [hR, ens, List.map_filterMap]
        refine congrArg (fun f => some (HO.lst ((List.range xs.length).filterMap f))) (funext fun i => ?_)
        cases ls[i]? with
        | none => rfl
        | some l =>
          rw [Option.bind_some, Option.bind_some]
          split <;> rfl
      refine ⟨D, ns, 0, rfl, rfl, SqL.of hR2, fun m h1 h2 => ?_⟩
      have em : m = (N : Int) := by
        have inN : N ≠ 0 → (N : Int) ∈ ns := fun h0 => by
          rcases up.at_ with z | ⟨l, el, hcc⟩
          · exact absurd z h0
          · exact (mem _).mpr ⟨N - 1, l, el, hcc, by omega⟩
        by_cases e0 : ns = []
        · rw [h1 e0]
          by_cases n0 : N = 0
          · rw [n0]
            rfl
          · have := inN n0
            rw [e0] at this
            cases this
        · obtain ⟨h3, h4⟩ := h2 e0
          obtain ⟨i, l, el, hcc, e⟩ := (mem m).mp h3
          have := up.lt i l el hcc
          have := h4 _ (inN (by omega))
          omega
      subst em
      refine ⟨_, rfl, _, rfl, _, rfl, c, xs, rfl, SqL.of (s5 _ _ hc), fun q hq => ?_⟩
      rw [cut_n]
      exact k q _ (s5.trans (Same.updf hq)) (none_back s5 hq) upd_same
abbrev s_beginning : Stmt := top 38
abbrev N_beginning : List Str := ["lines"]
theorem sc_beginning : FnScope N_beginning ["lines"] (defScope s_beginning) := ⟨rfl, rfl, rfl, by decide +kernel, rfl, by decide +kernel, by decide +kernel⟩
theorem ok_beginning {f : Addr} {fd : FuncData} (F : FnP K "beginning" s_beginning f fd) (Z : FreeS mg) :
    FnOk P w K mg base CX0 1 f fd ["lines"] spBegin := by
  refine F.ok sc_beginning (fun vs H Q E h => ?_) (fun cdv A outer s H vs Q E hr h => ?_)
  · obtain ⟨c, ls, rfl, _⟩ := h
    rfl
  · obtain ⟨c, ls, rfl, ⟨xs, hc, px⟩, k⟩ := h
    have nd := sc_beginning.nd
    refine ⟨_, PSs.nox (pss_cons (ps_if (pt_not (pt_truth (pv 0) (fun _ => rfl))) (pss_one (ps_ret (pe_int))) (pss_nil))
      (pss_one (ps_ret (pe_ix ix_tup (pe_ix ix_list (pv 0) (pe_int) (fun _ _ => rfl)) (pe_int) (fun _ _ => rfl))))), ?_⟩
    cases px with
    | nil => exact ⟨_, rfl, false, .inl ⟨[], SqL.of hc, rfl⟩, iteT k⟩
    | cons r t =>
      obtain ⟨T, xd, rfl, hT, _⟩ := r
      exact ⟨_, rfl, true, .inl ⟨_, SqL.of hc, rfl⟩, iteF ⟨_, rfl, c, _, 0, _, rfl, rfl, SqL.of hc, atI_nat (j := 0) rfl, T, _, 1, _, rfl, rfl, SqT.of hT, rfl, k⟩⟩
abbrev s_deeds_of : Stmt := top 40
abbrev N_deeds_of : List Str := ["lines", "line"]
theorem sc_deeds_of : FnScope N_deeds_of ["lines"] (defScope s_deeds_of) := ⟨rfl, rfl, rfl, by decide +kernel, rfl, by decide +kernel, by decide +kernel⟩
theorem ok_deeds_of {f : Addr} {fd : FuncData} (F : FnP K "deeds_of" s_deeds_of f fd) (Z : FreeS mg)
    {f_up_to_commit : Addr} {d_up_to_commit : FuncData} (g_up_to_commit : mg "up_to_commit" = some (.ref f_up_to_commit)) (F_up_to_commit : FnP K "up_to_commit" s_up_to_commit f_up_to_commit d_up_to_commit) (G_up_to_commit : FnOk P w K mg base CX0 1 f_up_to_commit d_up_to_commit ["chain"] spUpTo) :
    FnOk P w K mg base CX0 2 f fd ["lines"] spDeedsOf := by
  have b_up_to_commit : Binds K d_up_to_commit ["chain"] [] := F_up_to_commit.bindsN fun _ _ _ _ _ _ us hl => match us, hl with | [_], _ => rfl
  refine F.ok sc_deeds_of (fun vs H Q E h => ?_) (fun cdv A outer s H vs Q E hr h => ?_)
  · obtain ⟨c, ls, N, rfl, _⟩ := h
    rfl
  · obtain ⟨c, ls, N, rfl, ⟨xs, hc, px⟩, l60, up, k⟩ := h
    have lx := paired_len px
    have nd := sc_deeds_of.nd
    refine ⟨_, PSs.nox (pss_one (ps_ret (pe_lc (own := [("line", 1)]) (g := gName 1) (tt := tYes) (te := tOp (rIxT K) (tVar 1) (tC (.int 3))) (by rfl) nd (pi_list (pe_call G_up_to_commit (hr.mono (by decide)) rfl g_up_to_commit F_up_to_commit.kp b_up_to_commit .nil pass0 (pa_cons (pv 0) (pa_nil))))
          (blkOk_by (own := [("line", 1)]) (N := N_deeds_of) (sc := defScope s_deeds_of) (by decide +kernel)) (fun _ _ _ _ _ => pg_name (i := 1) nd rfl (Or.inl rfl)) (fun _ _ _ _ _ => pts_nil)
          (fun _ _ _ _ _ => pe_ix ix_tup (pv 1) (pe_int) (fun _ _ => rfl))))), ?_⟩
    refine ⟨_, rfl, c, ls, xs, N, rfl, hc, px, l60, up, fun q G1 s1 nq hq => ⟨q, rfl, ⟨_, SqL.of hq⟩, fun D hD => ?_⟩⟩
    have lt := List.length_take (i := N) (l := xs)
    refine lc_rel (walk_list (K := K) (a := q) (xs := xs.take N)) (fun _ => true) (fun i y G => ∃ l, ls[i]? = some l ∧ DeedAt G y l.d) (fun i y G G' s ⟨l, e, h⟩ => ⟨l, e, h.same s⟩) (by omega) hD (fun G s => SqL.of (s _ _ hq)) ?_ ?_
    · rintro i y G3 G4 Qy Qn hi s3 ⟨acc, hacc⟩ ⟨rfl, hv⟩ ky_ kn_
      have hv2 : xs[i]? = some y := by
        rw [List.getElem?_take] at hv
        split at hv
        · exact hv
        · cases hv
      obtain ⟨l, el, t, xd, rfl, ht, hd⟩ := paired_get2 px hv2
      refine ⟨rfl, _, rfl, t, _, 3, _, rfl, rfl, SqT.of ((s1.trans s3) _ _ ht), rfl, ky_ _ _ rfl (Same.refl _) ⟨l, el, ?_⟩⟩
      exact hd.same fun b o e => by
        rw [off_at (ne_of_none (s1 _ _ e) hD)]
        exact (s1.trans s3) _ _ e
    · rintro G3 ys s3 hys py
      rw [filter_true] at py
      refine k D G3 (s1.trans s3) (none_back s1 hD) ⟨ys, hys, ?_, fun i x d e1 e2 => ?_⟩
      · have := paired_len py
        rw [List.length_range] at this
        rw [List.length_map, List.length_take, lx, ← this, List.length_take]
      · obtain ⟨j, ej, l, el, hd⟩ := paired_get2 py e1
        have hj : j = i := by
          obtain ⟨h1, h2⟩ := List.getElem?_eq_some_iff.mp ej
          simpa using h2.symm
        subst hj
        rw [List.getElem?_map, List.getElem?_take] at e2
        split at e2
        · rw [el] at e2
          cases e2
          exact hd.same (off_le _ _)
        · cases e2
end
end K33
set_option Elab.async false
set_option linter.all false
set_option maxRecDepth 100000
set_option maxHeartbeats 8000000
namespace K33
open PySem PySem.Spec PyProof.Rows L2 KB
def spNeedC : Sp := fun vs H Q _ => ∃ n : Nat, vs = [.int (n : Int)] ∧ Q .non H
def spNeedSL : Sp := fun vs H Q _ => ∃ (b c : Addr) (ks : List Nat) (m : Nat → Nat) (ls : List Ln) (N : Nat), vs = [.ref b, .ref c] ∧ MkAt H b ks m ∧ ks.length ≤ 60 ∧ ChAt H c ls ∧ Ch ls ∧ IsUp ls N ∧ (∀ l ∈ ls.take N, ∀ p ∈ l.d.r, p ∈ ks) ∧ ∀ H', Same H H' → Q .non H'
def spNeedP : Sp := fun vs H Q _ => ∃ (b a : Addr) (ks : List Nat) (m : Nat → Nat) (ps : List Nat), vs = [.ref b, .ref a] ∧ MkAt H b ks m ∧ H a = some (.lst (numsV ps)) ∧ ps.Pairwise (· < ·) ∧ ps.length ≤ 60 ∧ (∀ p ∈ ps, p ∈ ks) ∧ ∀ H', Same H H' → Q .non H'
def spNeedPg : Sp := fun vs H Q _ => ∃ (b : Addr) (ks : List Nat) (m : Nat → Nat) (p : Nat), vs = [.ref b, .int (p : Int)] ∧ MkAt H b ks m ∧ p ∈ ks ∧ Q .non H
theorem unlock {H H2 : Hp} {b : Addr} {od : Obj} {o : HO} (hb : H b = some o) (q : Same (upd H b (.frz od o)) H2) : Same H (upd H2 b o) := fun c u e => by
  by_cases z : c = b
  · rw [z, hb] at e
    cases e
    rw [z, upd_same]
  · rw [upd_ne z]
    exact q _ _ (by rw [upd_ne z]; exact e)
section
variable {P : Program} {w : World} {K : PySem.W.Frag} {mg : Str → Option Value} {base : Heap}
abbrev s_need_count : Stmt := top 17
abbrev N_need_count : List Str := ["number"]
theorem sc_need_count : FnScope N_need_count ["number"] (defScope s_need_count) := ⟨rfl, rfl, rfl, by decide +kernel, rfl, by decide +kernel, by decide +kernel⟩
theorem ok_need_count {f : Addr} {fd : FuncData} (F : FnP K "need_count" s_need_count f fd) (Z : FreeS mg)
    {f_is_count : Addr} {d_is_count : FuncData} (g_is_count : mg "is_count" = some (.ref f_is_count)) (F_is_count : FnP K "is_count" s_is_count f_is_count d_is_count) (G_is_count : FnOk P w K mg base CX0 2 f_is_count d_is_count ["value"] spCount) :
    FnOk P w K mg base CX0 3 f fd ["number"] spNeedC := by
  have b_is_count : Binds K d_is_count ["value"] [] := F_is_count.bindsN fun _ _ _ _ _ _ us hl => match us, hl with | [_], _ => rfl
  refine F.ok sc_need_count (fun vs H Q E h => ?_) (fun cdv A outer s H vs Q E hr h => ?_)
  · obtain ⟨n, rfl, _⟩ := h
    rfl
  · obtain ⟨n, rfl, k⟩ := h
    have nd := sc_need_count.nd
    refine ⟨_, PSs.nox (pss_one (ps_if (pt_not (pt_val (pe_call G_is_count (hr.mono (by decide)) rfl g_is_count F_is_count.kp b_is_count .nil pass0 (pa_cons (pv 0) (pa_nil))))) (pss_one (ps_dead)) (pss_nil))), ?_⟩
    refine ⟨_, rfl, .inl ⟨_, rfl, _, rfl, ?_⟩⟩
    rw [decide_eq_true (show (n : Int) ≥ 0 by omega)]
    exact iteF k
abbrev s_need_stamps_and_lines : Stmt := top 41
abbrev N_need_stamps_and_lines : List Str := ["stamps", "lines", "stamp", "deed", "page"]
theorem sc_need_stamps_and_lines : FnScope N_need_stamps_and_lines ["stamps", "lines"] (defScope s_need_stamps_and_lines) := ⟨rfl, rfl, rfl, by decide +kernel, rfl, by decide +kernel, by decide +kernel⟩
theorem ok_need_stamps_and_lines {f : Addr} {fd : FuncData} (F : FnP K "need_stamps_and_lines" s_need_stamps_and_lines f fd) (Z : FreeS mg)
    {f_need_chain : Addr} {d_need_chain : FuncData} (g_need_chain : mg "need_chain" = some (.ref f_need_chain)) (F_need_chain : FnP K "need_chain" s_need_chain f_need_chain d_need_chain) (G_need_chain : FnOk P w K mg base CX0 6 f_need_chain d_need_chain ["chain"] spNeedCh)
    {f_is_count : Addr} {d_is_count : FuncData} (g_is_count : mg "is_count" = some (.ref f_is_count)) (F_is_count : FnP K "is_count" s_is_count f_is_count d_is_count) (G_is_count : FnOk P w K mg base CX0 2 f_is_count d_is_count ["value"] spCount)
    {f_deeds_of : Addr} {d_deeds_of : FuncData} (g_deeds_of : mg "deeds_of" = some (.ref f_deeds_of)) (F_deeds_of : FnP K "deeds_of" s_deeds_of f_deeds_of d_deeds_of) (G_deeds_of : FnOk P w K mg base CX0 2 f_deeds_of d_deeds_of ["lines"] spDeedsOf) :
    FnOk P w K mg base CX0 7 f fd ["stamps", "lines"] spNeedSL := by
  have b_need_chain : Binds K d_need_chain ["chain"] [] := F_need_chain.bindsN fun _ _ _ _ _ _ us hl => match us, hl with | [_], _ => rfl
  have b_is_count : Binds K d_is_count ["value"] [] := F_is_count.bindsN fun _ _ _ _ _ _ us hl => match us, hl with | [_], _ => rfl
  have b_deeds_of : Binds K d_deeds_of ["lines"] [] := F_deeds_of.bindsN fun _ _ _ _ _ _ us hl => match us, hl with | [_], _ => rfl
  refine F.ok sc_need_stamps_and_lines (fun vs H Q E h => ?_) (fun cdv A outer s H vs Q E hr h => ?_)
  · obtain ⟨b, c, ks, m, ls, N, rfl, _⟩ := h
    rfl
  · obtain ⟨b, c, ks, m, ls, N, rfl, hb, lk, hc, hC, up, sub, k⟩ := h
    have sl : (3000 : Nat) ≤ sizeLine := by decide
    have hu65 : _ + 65 < cLine := Nat.lt_of_le_of_lt (Nat.add_le_add_left (by decide : 65 ≤ 200) _) (Nat.lt_of_le_of_lt (Nat.add_le_add_right (Nat.le_add_right _ _) _) hr.un)
    have hu := Nat.lt_of_le_of_lt (Nat.add_le_add_left (by decide : 1 ≤ 65) _) hu65
    have nd := sc_need_stamps_and_lines.nd
    refine ⟨_, PSs.nox (pss_cons (ps_if (PW.pt (pw_or (pt_not (pt_val (pe_callB call_isi (by rfl) Z.isi (by decide +kernel) (pa_cons (pv 0) (pa_cons (pe_bltn (v := .ty "dict") (by rfl) Z.tdict (by decide +kernel) rfl) pa_nil))))) (pw_or1 (pt_not (pt_val (pe_callB (cr_all rfl) (by rfl) Z.all (by decide +kernel) (pa_cons (pe_lock (pe_lc (own := [("page", 4)]) (g := gName 4) (tt := tYes) (te := tCall spCount [] E0 (tCons (tVar 4) (tNil))) (by rfl) nd (pi_keys (pv 0))
          (blkOk_by (own := [("page", 4)]) (N := N_need_stamps_and_lines) (sc := defScope s_need_stamps_and_lines) (by decide +kernel)) (fun _ _ _ _ _ => pg_name (i := 4) nd rfl (Or.inl rfl)) (fun _ _ _ _ _ => pts_nil)
          (fun _ _ _ _ _ => pe_call G_is_count (hr.mono (by decide)) rfl g_is_count F_is_count.kp b_is_count .nil pass0 (pa_cons (pv 4) (pa_nil))))) (pa_nil)))))))) (pss_one (ps_dead)) (pss_nil))
      (pss_cons (ps_if (pt_not (pt_val (pe_callB (cr_all rfl) (by rfl) Z.all (by decide +kernel) (pa_cons (pe_lock (pe_lc (own := [("stamp", 2)]) (g := gName 2) (tt := tYes) (te := tCall spCount [] E0 (tCons (tVar 2) (tNil))) (by rfl) nd (pi_values (pv 0))
          (blkOk_by (own := [("stamp", 2)]) (N := N_need_stamps_and_lines) (sc := defScope s_need_stamps_and_lines) (by decide +kernel)) (fun _ _ _ _ _ => pg_name (i := 2) nd rfl (Or.inl rfl)) (fun _ _ _ _ _ => pts_nil)
          (fun _ _ _ _ _ => pe_call G_is_count (hr.mono (by decide)) rfl g_is_count F_is_count.kp b_is_count .nil pass0 (pa_cons (pv 2) (pa_nil))))) (pa_nil))))) (pss_one (ps_dead)) (pss_nil))
      (pss_cons (ps_expr (pe_call G_need_chain (hr.mono (by decide)) rfl g_need_chain F_need_chain.kp b_need_chain .nil pass0 (pa_cons (pv 1) (pa_nil))))
      (pss_one (ps_if (pt_not (pt_val (pe_callB (cr_all rfl) (by rfl) Z.all (by decide +kernel) (pa_cons (pe_lc2 (own := [("deed", 3), ("page", 4)]) (vs1 := [4]) (g := gName 3) (g1 := gName 4) (tt := tYes) (tt1 := tYes) (te := tDIn (tVar 4) (tVar 0)) (wi1 := iList K (tOp (rIxT K) (tVar 3) (tC (.int 2)))) rfl nd (pi_list (pe_call G_deeds_of (hr.mono (by decide)) rfl g_deeds_of F_deeds_of.kp b_deeds_of .nil pass0 (pa_cons (pv 1) (pa_nil)))) (blkOk_by (own := [("deed", 3), ("page", 4)]) (N := N_need_stamps_and_lines) (sc := defScope s_need_stamps_and_lines) (by decide +kernel)) (by decide) (fun _ _ _ _ _ => pg_name (i := 3) nd rfl (Or.inl rfl)) (fun _ _ _ _ _ => pts_nil) (fun _ _ _ _ _ => pi_list (pe_ix ix_tup (pv 3) (pe_int) (fun _ _ => rfl))) (fun _ _ _ _ _ => pg_name (i := 4) nd rfl (Or.inl rfl)) (fun _ _ _ _ _ => pts_nil) (fun _ _ _ _ _ => pe_cmp (pc_din hu (pv 4) (pv 0)))) (pa_nil))))) (pss_one (ps_dead)) (pss_nil)))))), ?_⟩
    have ldk : ∀ f : Nat → V, (dV ks f).length = ks.length := fun f => dV_len _ _
    have at_ : ∀ i, (hi : i < ks.length) → (mV ks m)[i]? = some (ky ks[i], .int (m ks[i] : Int)) := fun i hi => by
      unfold mV dV
      rw [List.getElem?_map, List.getElem?_eq_getElem hi]
      rfl
    refine ⟨_, rfl, .ref b, .ty "dict", .type "dict", .type "dict", true, rfl, .ty _, .base (.dK hb), kit_ty (by decide +kernel), true, rfl, iteF ?_⟩
    refine ⟨b, _, hb, trivial, fun od => ?_⟩
    refine ⟨_, rfl, b, od, rfl, .inl ⟨_, upd_same, fun D hD => ?_⟩⟩
    have nDb : D ≠ b := fun z => by
      rw [z, upd_same] at hD
      cases hD
    refine lc_sel (n := ks.length) (by have := walk_keys (d := b) (o := od) (kvs := mV ks m); rw [ldk] at this; exact this) (fun _ => some (.bl true)) (by omega) hD (fun G s => s _ _ upd_same) ?_ ?_
    · rintro i v H2 H3 Qy Qn hi sH ⟨rfl, k', v', ek, rfl⟩ ky' kn
      rw [at_ i hi] at ek
      cases ek
      refine ⟨rfl, _, rfl, .inl ⟨_, rfl, ky' _ _ (Same.refl _) ?_⟩⟩
      rw [decide_eq_true (show ((ks[i] : Nat) : Int) ≥ 0 by omega)]
    · intro H2 q2 hR
      refine ⟨q2 _ _ upd_same, ?_⟩
      have hR2 : (upd H2 b (.dK (mV ks m))) D = some (.lst ((List.range ks.length).filterMap fun _ => some (V.bl true))) := (upd_ne nDb).trans hR
      obtain ⟨bs, hB, hb'⟩ := all_bits (K := K) hR2
      refine ⟨D, bs, rfl, hB, ?_⟩
      rw [hb']
      refine ⟨true, rfl, iteF ?_⟩
      have u1 := unlock hb q2
      clear hR hR2 hB hb' q2
      generalize upd H2 b (.dK (mV ks m)) = U1 at *
      have hb1 := u1 _ _ hb
      refine ⟨b, _, hb1, trivial, fun od2 => ?_⟩
      refine ⟨_, rfl, b, od2, _, rfl, upd_same, fun D2 hD2 => ?_⟩
      have nD2b : D2 ≠ b := fun z => by
        rw [z, upd_same] at hD2
        cases hD2
      refine lc_sel (n := ks.length) (by have := walk_values (d := b) (o := od2) (kvs := mV ks m); rw [ldk] at this; exact this) (fun _ => some (.bl true)) (by omega) hD2 (fun G s => s _ _ upd_same) ?_ ?_
      · rintro i v H2 H3 Qy Qn hi sH ⟨rfl, k', ek⟩ ky' kn
        rw [at_ i hi] at ek
        cases ek
        refine ⟨rfl, _, rfl, .inl ⟨_, rfl, ky' _ _ (Same.refl _) ?_⟩⟩
        rw [decide_eq_true (show ((m ks[i] : Nat) : Int) ≥ 0 by omega)]
      · intro H4 q4 hR
        refine ⟨q4 _ _ upd_same, ?_⟩
        have hR2 : (upd H4 b (.dK (mV ks m))) D2 = some (.lst ((List.range ks.length).filterMap fun _ => some (V.bl true))) := (upd_ne nD2b).trans hR
        obtain ⟨bs2, hB2, hb2'⟩ := all_bits (K := K) hR2
        refine ⟨D2, bs2, rfl, hB2, ?_⟩
        rw [hb2']
        refine ⟨true, rfl, iteF ?_⟩
        have u2 := u1.trans (unlock hb1 q4)
        clear hR hR2 hB2 hb2' q4
        generalize upd H4 b (.dK (mV ks m)) = U2 at *
        have hb2 := u2 _ _ hb
        refine ⟨_, rfl, c, ls, rfl, hc.same u2, hC, fun G5 s5 => ?_⟩
        have l60 := hC.len
        refine ⟨_, rfl, c, ls, N, rfl, (hc.same u2).same s5, l60, up, fun q G6 s6 nq hL => ?_⟩
        obtain ⟨xs, hq, lx, hx⟩ := hL
        refine ⟨q, rfl, ⟨_, SqL.of hq⟩, fun D3 hD3 => ?_⟩
        have hb6 := (s5.trans s6) _ _ hb2
        have ldm : ((ls.take N).map (·.d)).length ≤ 60 := by
          rw [List.length_map, List.length_take]
          omega
        refine cl_walk (walk_list (K := K) (a := q) (xs := xs)) (fun i G => Same G6 G ∧ ∃ n, n ≤ 6 * i ∧ G D3 = some (.lst (List.replicate n (V.bl true)))) ⟨Same.updf hD3, 0, Nat.le_refl _, upd_same⟩ (fun i G _ hh => SqL.of (hh.1 _ _ hq)) ?_ ?_
        · rintro i x G7 G8 hi ⟨s8, n, ln, hn⟩ ⟨rfl, hv⟩
          have li : i < ((ls.take N).map (·.d)).length := by omega
          have hdi : ((ls.take N).map (·.d))[i]? = some ((ls.take N).map (·.d))[i] := List.getElem?_eq_getElem li
          obtain ⟨t, rd, tw, rfl, ht, hr1, _⟩ := (hx i x _ hv hdi).same s8
          obtain ⟨l, ml, el⟩ := List.mem_map.mp (List.getElem_mem li)
          rw [← el] at ht hr1
          have okl := hC.ok l (List.mem_of_mem_take ml)
          have l6 := okl.fit.l6
          have lr : (numsV l.d.r).length = l.d.r.length := List.length_map _
          refine ⟨rfl, ?_⟩
          refine ⟨_, rfl, t, _, 2, _, rfl, rfl, SqT.of ht, rfl, rd, rfl, ⟨_, SqL.of hr1⟩, ?_⟩
          refine cl_walk (walk_list (K := K) (a := rd) (xs := numsV l.d.r)) (fun j G => Same G6 G ∧ G rd = some (.lst (numsV l.d.r)) ∧ ∃ n', n' ≤ 6 * i + j ∧ G D3 = some (.lst (List.replicate n' (V.bl true)))) ⟨s8, hr1, n, by omega, hn⟩ (fun j G _ hh => SqL.of hh.2.1) ?_ ?_
          · rintro j y G9 G10 hj ⟨s10, hr10, n', ln', hn'⟩ ⟨rfl, hy⟩
            have lj : j < l.d.r.length := by omega
            unfold numsV at hy
            rw [List.getElem?_map, List.getElem?_eq_getElem lj] at hy
            obtain rfl := Option.some.inj hy
            have dg : DGet G10 b (.int (l.d.r[j] : Int)) (some (.int (m l.d.r[j] : Int))) := by
              have := DGet.k (k := ky l.d.r[j]) (s10 _ _ hb6)
              rw [mV_val (sub l ml _ (List.getElem_mem lj))] at this
              exact this
            have nrd : rd ≠ D3 := fun z => by
              rw [z, hn'] at hr10
              have := congrArg List.length (HO.lst.inj (Option.some.inj hr10))
              cases n' with
              | zero =>
                rw [lr] at this
                simp at this
                omega
              | succ n' =>
                have h2 := HO.lst.inj (Option.some.inj hr10)
                cases hz : l.d.r with
                | nil =>
                  rw [hz] at lj
                  simp at lj
                | cons a as =>
                  rw [hz] at h2
                  cases h2
            refine ⟨rfl, _, rfl, _, rfl, b, _, rfl, dg, List.replicate n' (V.bl true), hn', by rw [List.length_replicate]; omega, ?_⟩
            refine ⟨fun c' o e => ?_, (upd_ne nrd).trans hr10, n' + 1, by omega, ?_⟩
            · rw [upd_ne (ne_of_none e hD3)]
              exact s10 _ _ e
            · rw [upd_same, List.replicate_succ']
              rfl
          · rintro G9 ⟨s9, _, n', ln', hn'⟩
            exact ⟨s9, n', by omega, hn'⟩
        · rintro G7 ⟨s7, n, ln, hn⟩
          refine ⟨D3, List.replicate n true, rfl, SqL.of (by rw [hn, List.map_replicate]), ?_⟩
          have ea : (List.replicate n true).all id = true := by
            rw [List.all_eq_true]
            intro x hx
            rw [(List.mem_replicate.mp hx).2]
            rfl
          rw [ea]
          exact ⟨true, rfl, iteF (k _ (u2.trans (s5.trans (s6.trans s7))))⟩
end
end K33
set_option Elab.async false
set_option linter.all false
set_option maxRecDepth 100000
set_option maxHeartbeats 4000000
/-! An own exception class over ValueError called with keywords: the same object comes as without. -/
namespace PySem
namespace KwX
open PySem.W PySem.Calls PyProof.Rows PySem.HandSPX
section
variable {M : Model} {A : Around} {E : Value → Shared → Prop} {h : Heap} {g : Array GenState} {d : Drawn} {t : Nat} {os : OsState}
variable {nm q : Str} {C N : Addr} {bs bm bmB : List Value} {hdct : Bool} {sn : List Str} {sub : List Value} {ab : Bool} {col : Option Bool} {dd : Option Addr}
variable {k0 k1 k2 k3 k5 : Option Value} {B newId initId : String} {kw : List (Str × Value)}

theorem chk (F : ExcBaseFacts B newId initId bmB) (hT : ∀ X : String, bm.contains (.type X) = bmB.contains (.type X))
    {rest : List Value} {Q : Unit → Shared → Prop}
    (hC : h.get? C = some (excClassObj nm q C N bs bm hdct sn sub ab col dd k0 k1 k2 k3 k5 newId))
    (hq : Q () ⟨h, g, d, t, os⟩) :
    wpAny M A (checkBuiltinCall newId ⟨.ref C :: rest, kw⟩) Q E ⟨h, g, d, t, os⟩ := by
  have hB : (Value.ref C :: bm).contains (.type B) = true := by
    rw [List.contains_cons, hT, F.hasB, Bool.or_true]
  have hs := F.noStar
  simp only [checkBuiltinCall, F.newKind, F.newSplit, F.newRow]
  repeat (first
    | refine wpAny_loadPart_at hC ?_
    | (refine wpAny_isSubtype_exc hC ?_; rw [hB])
    | refine wpAny_staticBase_exc hC ?_
    | refine wpAny_madeBy_exc hC ?_
    | simp only [bne_self_eq_false, Bool.false_eq_true, if_false]
    | wp_step)
  exact hq
end

section
variable {prog : Program} {w : World} {A : Around} {E : Value → Shared → Prop} {R : Result → Shared → Prop} {h : Heap} {g : Array GenState} {d : Drawn} {t : Nat} {os : OsState}
variable {nm q : Str} {C N : Addr} {bs bm bmB : List Value} {hdct : Bool} {sn : List Str} {sub : List Value} {ab : Bool} {col : Option Bool} {dd : Option Addr}
variable {k0 k1 k2 k3 k5 : Option Value} {B newId initId : String} {kw : List (Str × Value)}

theorem made (F : ExcBaseFacts B newId initId bmB) (hT : ∀ X : String, bm.contains (.type X) = bmB.contains (.type X)) {rest : List Value}
    (hC : h.get? C = some (excClassObj nm q C N bs bm hdct sn sub ab col dd k0 k1 k2 k3 k5 newId))
    (hq : R (.ok (.ret (.ref (h.objs.size + 1)))) ⟨(h.push (W.kdv_tup rest)).push (excO C h.objs.size), g, d, t, os⟩)
    (hrest : rest.length ≤ sizeLine) : codeAny (model prog w) A (.builtin newId ⟨.ref C :: rest, kw⟩) R ⟨h, g, d, t, os⟩ := by
  have he := F.ends
  have hB : (Value.ref C :: bm).contains (.type B) = true := by
    rw [List.contains_cons, hT, F.hasB, Bool.or_true]
  have hA : (Value.ref C :: bm).contains (.type "AttributeError") = false := by
    rw [List.contains_cons, hT, F.noAttr]
    rfl
  have hN : (Value.ref C :: bm).contains (.type "NameError") = false := by
    rw [List.contains_cons, hT, F.noName]
    rfl
  refine codeAny_builtinAt F.entry ?_
  unfold Builtin.«BaseException.__new__»
  refine wpAt_bind ?_
  show wpAt _ _ _ (stack >>= _) _ _ _
  refine wpAt_bind (wpAt_stack fun p below => wpAt_of_wpAny ?_)
  wp_walk
  refine wpAt_of_wpAny ?_
  rw [F.owner]
  repeat (first
    | with_reducible refine wpAny_madeHere_exc F.canon hC ?_
    | with_reducible refine wpAny_loadPart_at hC ?_
    | (with_reducible refine wpAny_isSubtype_exc hC ?_; first | rw [hB] | rw [hA] | rw [hN])
    | wp_step)
  show R _ _
  rw [Heap.size_push]
  exact hq

theorem tcall (F : ExcBaseFacts B newId initId bmB) (hT : ∀ X : String, bm.contains (.type X) = bmB.contains (.type X)) {rest : List Value} {fI : Addr} {Q : Fin → Shared → Prop}
    (hC : h.get? C = some (excClassObj nm q C N bs bm hdct sn sub ab col dd k0 k1 k2 k3 k5 newId))
    (hi : W.Looks (model prog w) h (typeLookup (.ref C) "__init__") (some (.ref fI)))
    (hb : ∀ self, W.Looks (model prog w) h (bindSpecial (.ref fI) self) (.ref fI, [self])) (hrest : rest.length ≤ sizeLine)
    (hq : codeAny (model prog w) A (.call (.ref fI) ⟨.ref (h.objs.size + 1) :: rest, kw⟩)
      (fun r s' => match r with
        | .ok (.ret v) => v = .none ∧ Q (.done (.ret (.ref (h.objs.size + 1)))) s'
        | .ok _ => False
        | .error e => E e s') ⟨(h.push (W.kdv_tup rest)).push (excO C h.objs.size), g, d, t, os⟩) :
    wpAny (model prog w) A (Builtin.«type.__call__» ⟨.ref C :: rest, kw⟩) Q E ⟨h, g, d, t, os⟩ := by
  repeat (first
    | with_reducible refine wpAny_loadPart_at hC ?_
    | with_reducible refine wpAny_madeBy_exc hC ?_
    | wp_step)
  refine codeAny_call_builtin_code (Code.quiet_builtin _ F.quiet) (chk F hT hC ?_)
  refine made F hT hC ?_ hrest
  show wpAny _ _ _ _ _ _
  have k : ∀ b o, h.get? b = some o → ((h.push (W.kdv_tup rest)).push (excO C h.objs.size)).get? b = some o :=
    fun b o e => Heap.get?_push_of_some _ (Heap.get?_push_of_some _ e)
  have c1 := k _ _ hC
  have hg : ((h.push (W.kdv_tup rest)).push (excO C h.objs.size)).get? (h.objs.size + 1) = some (excO C h.objs.size) := by heap_get
  have cc : (Value.ref C :: bm).contains (.ref C) = true := by simp
  have i1 := hi.keeps k
  have b1 := (hb (.ref (h.objs.size + 1))).keeps k
  unfold isInstance
  repeat (first
    | with_reducible refine wpAny_loadPart_at hg ?_
    | (with_reducible refine wpAny_isSubtype_exc c1 ?_; rw [cc])
    | wp_step)
  show wpAny _ _ (typeLookup (.ref C) _) _ _ _
  refine i1.at (wpAny_holding (wpAny_bind (b1.at ?_)))
  refine wpAny_bind (wpAny_call (codeAny_mono hq fun r s' z => ?_))
  rcases r with e | (v | _ | _ | _) <;> first | exact z | exact z.elim | skip
  obtain ⟨rfl, z⟩ := z
  first
    | exact wpAny_pure (wpAny_pure z)
    | (wp_walk; exact z)

/-- C(.., k = v): the object, then __init__ with the same arguments -/
theorem callk (F : ExcBaseFacts B newId initId bmB) (hT : ∀ X : String, bm.contains (.type X) = bmB.contains (.type X)) {rest : List Value} {fI : Addr}
    (hC : h.get? C = some (excClassObj nm q C N bs bm hdct sn sub ab col dd k0 k1 k2 k3 k5 newId))
    (hi : W.Looks (model prog w) h (typeLookup (.ref C) "__init__") (some (.ref fI)))
    (hb : ∀ self, W.Looks (model prog w) h (bindSpecial (.ref fI) self) (.ref fI, [self])) (hrest : rest.length ≤ sizeLine)
    (hq : codeAny (model prog w) (A.under (.builtin "type.__call__" ⟨.ref C :: rest, kw⟩)) (.call (.ref fI) ⟨.ref (h.objs.size + 1) :: rest, kw⟩)
      (W.InitBack (h.objs.size + 1) R) ⟨(h.push (W.kdv_tup rest)).push (excO C h.objs.size), g, d, t, os⟩) :
    codeAny (model prog w) A (.call (.ref C) ⟨rest, kw⟩) R ⟨h, g, d, t, os⟩ := by
  have f1 := tc_lookup
  have f2 := tc_bind (.ref C)
  have hTy : (⟨h, g, d, t, os⟩ : Shared).TypeIs (.ref C) "type" := ⟨_, hC, rfl⟩
  refine codeAny_of_tree ?_
  show wpAny _ _ (callAny (.ref C) _) _ _ _
  repeat (any_goals (first
    | assumption
    | with_reducible refine wpAny_loadPart_at hC ?_
    | wp_step))
  refine ⟨rfl, ?_⟩
  refine codeAny_call_builtin_at (Code.quiet_builtin _ (by decide +kernel)) entry_typeCall (wpAny_check_type_call_sub hC (tcall F hT hC hi hb hrest ?_))
  refine codeAny_mono hq fun r s' z => ?_
  rcases r with e | (v | _ | _ | _) <;> exact z
end
end KwX
end PySem
set_option Elab.async false
set_option linter.all false
set_option maxRecDepth 100000
set_option maxHeartbeats 4000000
/-! Errors of the program's own as values: made, asked for their class, read. -/
namespace PySem.W
open PySem PySem.Spec PySem.Calls PyProof.Rows
section
variable {prog : Program} {w : World} {A : Around} {E : Value → Shared → Prop} {s : Shared} {K : Frag} {x D : Addr} {ox : Obj} {od : Option Obj}
theorem err_find (hc : (clsIn K D).isSome = true) (ha : findIn K (.ref D) "__class__" = some (some (.builtin "object.__class__")))
    (hg : specialIn K (.builtin "object.__class__") "__get__" = some (some (.builtin "getset_descriptor.__get__"))) (ht : takesIn K (.builtin "object.__class__") = some true) :
    findObj K D od "__class__" = some (.bind (.builtin "getset_descriptor.__get__") (.builtin "object.__class__")) := by
  cases od with
  | none => exact findObj_dataN hc ha hg ht
  | some o => exact findObj_data hc ha hg ht
/-- x.__class__ of an error, with a dict of its own or without one -/
theorem err_class {Q : Option Value → Shared → Prop} (T : L2.ExcC K D) (X : K.In s.heap) (I : InstAt s.heap x ox D od)
    (h : Q (some (.ref D)) { s with toks := s.toks + 1 }) : wpAny (model prog w) A (getAttr? (.ref x) "__class__") Q E s := by
  have hf := err_find (od := od) (K := K) (D := D) (by obtain ⟨cd, hc, _⟩ := any_some T.hd; rw [hc]; rfl) T.ha T.hn T.ht
  obtain ⟨hp, g, d, t, os⟩ := s
  have A0 := I.type (M := model prog w)
  have A1 := looks_findIn (M := model prog w) X T.hg
  have A2 := looks_findIn (M := model prog w) X T.hk
  have A3 := looks_find (M := model prog w) X I hf
  have A4 : Looks (model prog w) hp (isInstance (.ref x) (.type "BaseException")) true := A0.andThen (looks_subIn X T.hs)
  have n0 : (false && onTheHeap (Value.builtin "BaseException.__getattribute__")) = false := rfl
  have n2 : (Value.builtin "BaseException.__getattribute__" == Value.builtin "object.__getattribute__") = false := by decide +kernel
  have n1 : (onTheHeap (Value.ref D) && Value.builtin "BaseException.__getattribute__" == Value.builtin "object.__getattribute__") = false := by
    rw [n2]
    rfl
  unfold getAttr? getAttrBy? getAttrBy
  refine wpAny_bind (wpAny_mkText (wpAny_bind (wpAny_attempt (wpAny_holding (wpAny_bind (A0.at (wpAny_bind (A1.at ?_))))))))
  show wpAny _ _ (if (onTheHeap (Value.ref D) && Value.builtin "BaseException.__getattribute__" == Value.builtin "object.__getattribute__") = true then _ else _) _ _ _
  rw [n1, if_neg Bool.false_ne_true]
  unfold getAttrByItsOwn hookBefore
  refine wpAny_bind ?_
  rw [if_pos (show onTheHeap (Value.ref D) = true from rfl)]
  refine A2.at (wpAny_bind (wpAny_attempt (wpAny_holding ?_)))
  unfold callGetattribute
  rw [n0, if_neg Bool.false_ne_true]
  unfold boundAndCalled
  rw [PySem.F.excAttr_ValueError.ga.bind (.ref x)]
  refine wpAny_bind (wpAny_pure ?_)
  show wpAny _ _ (call (.builtin "BaseException.__getattribute__") [.ref x, .str "__class__" t]) _ _ _
  refine wpAny_call (codeAny_call_builtin PySem.F.excAttr_ValueError.ga.plain PySem.F.entry_bexc_ga ?_)
  refine @check_slot (model prog w) _ _ ⟨hp, g, d, t + 1, os⟩ "BaseException.__getattribute__" "BaseException" "__getattribute__" (.ref x) [.str "__class__" t] [] _
    (by decide +kernel) (by decide +kernel) A4 (PySem.F.args_bexc_ga (.ref x) (.str "__class__" t)) ?_
  unfold Builtin.«object.__getattribute__»
  refine wpAny_bind (wpAny_of_eq (a := ((Value.ref x : Value), [Value.str "__class__" t])) (by first | rfl | (simp only [slotArgs]; rfl)) ?_)
  refine wpAny_bind (wpAny_pure (wpAny_bind (A0.at (wpAny_bind (A3.at ?_)))))
  show wpAny _ _ (holding [Value.builtin "object.__class__"] (call (.builtin "getset_descriptor.__get__") [.builtin "object.__class__", .ref x, .ref D]) >>= ret) _ _ _
  refine wpAny_bind (wpAny_holding (wpAny_call (class_get (s := ⟨hp, g, d, t + 1, os⟩) (ox := ox) (od := od) X I T.hm ?_)))
  refine wpAny_pure ?_
  show wpAny _ _ (handedOut (.ref D)) _ _ _
  rw [handedOut_of (v := .ref D) rfl]
  first
    | exact wpAny_pure (wpAny_pure h)
    | exact wpAny_pure h
    | exact wpAny_pure (wpAny_bind (wpAny_pure (wpAny_pure h)))
theorem err_kit (T : L2.ExcC K D) : KitX K (.ref x) (.ref D) (fun h => ∃ ox od, InstAt h x ox D od) where
  ty := fun _ _ _ ⟨_, _, I⟩ => I.type
  it := fun _ _ X _ => by
    obtain ⟨cd, hc, _⟩ := any_some T.hd
    unfold clsIn at hc
    split at hc
    · rename_i c1 d1 cd1 sl1 ho
      intro A' Q' E' s' k q
      unfold isType loadHead
      exact wpAny_bind (wpAny_loadPart (k _ _ (X _ _ ho)) (wpAny_pure q))
    · cases hc
  ne := fun h tp dd its n sl X htp => by
    obtain ⟨cd, hc, _⟩ := any_some T.hd
    refine Bool.eq_false_iff.mpr fun q => ?_
    have e : D = tp := Value.ref.inj (beq_iff_eq.mp q)
    subst e
    unfold clsIn at hc
    split at hc
    · rename_i c1 d1 cd1 sl1 ho
      have z := (X _ _ ho).symm.trans htp
      cases z
    · cases hc
  ca := fun X ⟨_, _, I⟩ k => err_class T X I k
end
end PySem.W
set_option Elab.async false
set_option linter.all false
set_option maxRecDepth 100000
set_option maxHeartbeats 4000000
namespace L2
open PySem PySem.Spec PyProof.Rows
/-- what the written part says of a class of errors at C whose __init__ stands at fI -/
structure ErrC (K : PySem.W.Frag) (C fI : Addr) : Prop where
  ox : OexC K C
  xf : XfC K C
  xc : ExcC K C
  iC : PySem.W.findIn K (.ref C) "__init__" = some (some (.ref fI))
  tI : PySem.W.typeIn K (.ref fI) = some (.type "function")
  nv : PySem.W.findIn K (.ref C) "value" = some none
/-- x is an error of the class at C whose field holds v -/
def ErrAt (H : Hp) (C : Addr) (v x : V) : Prop := ∃ e d, x = .ref e ∧ H e = some (exo e C (some d)) ∧ H d = some (exd d [("value", v)])
theorem ErrAt.same {H H' : Hp} {C : Addr} {v x : V} (k : Same H H') (h : ErrAt H C v x) : ErrAt H' C v x := by
  obtain ⟨e, d, e1, e2, e3⟩ := h
  exact ⟨e, d, e1, k _ _ e2, k _ _ e3⟩
/-- its __init__ -/
def spErr (C : Addr) : Sp := fun vs H Q _ => ∃ (e : Addr) (v : V), vs = [.ref e, v] ∧ H e = some (exo e C none) ∧
  ∀ d, H d = none → d ≠ e → Q .non (upd (upd H d (exd d [("value", v)])) e (exo e C (some d)))
def errScope : Scope := { kind := .function, names := [("self", .local), ("value", .local)], isGenerator := false, isCoroutine := false, more := [] }
def errBody (p1 p2 p3 p4 : Pos) : List Stmt := [.Assign [.Attribute (.Name "self" p1) "value" p2] (.Name "value" p3) p4]
theorem errSc : FnScope ["self", "value"] ["self", "value"] errScope := ⟨rfl, rfl, rfl, by decide +kernel, rfl, by decide +kernel, by decide +kernel⟩
section
variable {P : Program} {w : World} {K : PySem.W.Frag} {mg : Str → Option Value} {base : Heap}
theorem ok_err {qual : Str} {params : Arguments} {C fI : Addr} {fd : FuncData} {p1 p2 p3 p4 : Pos} (F : FunD K "__init__" qual params (errBody p1 p2 p3 p4) errScope [.non] [] fI fd) (T : ErrC K C fI) :
    FnOk P w K mg base CX0 1 fI fd ["self", "value"] (spErr C) := by
  refine F.ok errSc (fun vs H Q E h => ?_) (fun cdv A outer s H vs Q E hr h => ?_)
  · obtain ⟨e, v, rfl, _⟩ := h
    rfl
  · obtain ⟨e, v, rfl, he, k⟩ := h
    refine ⟨_, PSs.nox (pss_one (ps_ost (pv 0) (pv 1))), ?_⟩
    exact ⟨_, rfl, _, rfl, e, C, rfl, T.ox, T.nv, Or.inl ⟨he, fun d h1 h2 => k d h1 h2⟩⟩
end
section
variable {X : Cx} {pins : List (Addr × Obj)} {σ : St} {H : Hp} {s : Shared} {C fI : Addr} {fd : FuncData} {k : Nat}
/-- C(..), however the value comes to its parameter -/
theorem run_err {Q : VK} {us : List Value} {kw : List (Str × Value)} {u : Value} {v : V} (T : ErrC X.K C fI) (F1 : FnOk X.prog X.w X.K X.mg X.base CX0 k fI fd ["self", "value"] (spErr C)) (hr : Room (k + 1) X.A)
    (hus : us.length ≤ sizeLine) (hb : ∀ (s' : Shared) (e : Addr), X.K.In s'.heap → BindsTo s' fd ⟨.ref e :: us, kw⟩ ((["self", "value"] : List Str).zip [.ref e, u])) (rv : RelV v u)
    (I : Inv X pins σ H s) (h : ∀ e H', Same H H' → ErrAt H' C v (.ref e) → Q (.ref e) H') :
    wpAny (model X.prog X.w) X.A (call (.ref C) us kw) (EP X pins σ Q) X.xe s := by
  obtain ⟨nm, q, N, bs, bm, sn, sub, ab, col, dd, k0, k1, k2, k3, k5, hC, hbm⟩ := T.ox.cls
  obtain ⟨hp, g, dr, tk, os⟩ := s
  have hsz : hp.objs.size ≤ hp.objs.size + 1 := Nat.le_succ _
  have hn : H (hp.objs.size + 1) = none := I.hok.fresh hsz
  have kk : ∀ b o, hp.get? b = some o → ((hp.push (PySem.W.kdv_tup us)).push (PySem.HandSPX.excO C hp.objs.size)).get? b = some o :=
    fun b o e => Heap.get?_push_of_some _ (Heap.get?_push_of_some _ e)
  have hget : ((hp.push (PySem.W.kdv_tup us)).push (PySem.HandSPX.excO C hp.objs.size)).get? (hp.objs.size + 1) = some (PySem.HandSPX.excO C hp.objs.size) := by heap_get
  have I2 : Inv X pins σ (upd H (hp.objs.size + 1) (exo (hp.objs.size + 1) C none)) ⟨(hp.push (PySem.W.kdv_tup us)).push (PySem.HandSPX.excO C hp.objs.size), g, dr, tk, os⟩ :=
    I.laid (t' := tk) (a := hp.objs.size + 1) (o := exo (hp.objs.size + 1) C none) (h' := (hp.push (PySem.W.kdv_tup us)).push (PySem.HandSPX.excO C hp.objs.size)) kk hsz (exo_ok hget)
  have hq : spErr C [.ref (hp.objs.size + 1), v] (upd H (hp.objs.size + 1) (exo (hp.objs.size + 1) C none))
      (fun v' H3 => v' = .non ∧ Q (.ref (hp.objs.size + 1)) H3) (fun _ _ _ => False) := by
    refine ⟨_, v, rfl, upd_same, fun d hd hne => ⟨rfl, ?_⟩⟩
    rw [upd_ne hne] at hd
    refine h _ _ (fun b o e => ?_) ⟨_, d, rfl, upd_same, ?_⟩
    · rw [upd_ne (ne_of_none e hn), upd_ne (ne_of_none e hd), upd_ne (ne_of_none e hn)]
      exact e
    · rw [upd_ne hne, upd_same]
  refine wpAny_call (PySem.KwX.callk F.excBase_ValueError (fun Y => PySem.HandSPX.refsVE_contains Y bm hbm) (I.kIn _ _ hC) (PySem.W.looks_findIn I.kIn T.iC) (fun self => PySem.W.bind_fn I.kIn self T.tI) hus
    (codeAny_mono (F1.run _ X.stack _ _ ⟨Value.ref (hp.objs.size + 1) :: us, kw⟩ [Value.ref (hp.objs.size + 1), u] [V.ref (hp.objs.size + 1), v] _ (fun _ _ _ => False) (hr.make C us kw) (I2.env0.make C us kw) (hb _ _ I2.kIn)
      (.cons rfl (.cons rv .nil)) hq) fun r s' hq' => ?_))
  cases r with
  | error er => exact absurd hq' id
  | ok fl =>
    cases fl with
    | ret u' =>
      obtain ⟨v', H', I3, rv', ev, q3⟩ := I2.after hq'
      subst ev
      have e1 : ∀ b o, hp.get? b = some o → H b = none → upd H (hp.objs.size + 1) (exo (hp.objs.size + 1) C none) b = none := fun b o e n => by
        rw [upd_ne (Nat.ne_of_lt (Nat.lt_of_lt_of_le (Heap.lt_size e) hsz))]
        exact n
      exact ⟨rv', V.ref (hp.objs.size + 1), H', I3, rfl, q3⟩
    | next => exact False.elim hq'
    | brk => exact False.elim hq'
    | cont => exact False.elim hq'
end
/-! ### the rules: C(), C(e), C(value=e) -/
section
variable {X : Cx} {C fI : Addr} {fd : FuncData} {k : Nat} {x : Str} {p pos : Pos} {e : Expr} {te : TE}
/-- how an argument comes to the parameter: none, by place, by name -/
structure ErrB (K : PySem.W.Frag) (fd : FuncData) : Prop where
  b0 : ∀ (s : Shared) (a : Value), K.In s.heap → BindsTo s fd ⟨[a], []⟩ ((["self", "value"] : List Str).zip [a, .none])
  b1 : ∀ (s : Shared) (a u : Value), K.In s.heap → BindsTo s fd ⟨[a, u], []⟩ ((["self", "value"] : List Str).zip [a, u])
  bk : ∀ (s : Shared) (a u : Value), K.In s.heap → BindsTo s fd ⟨[a], [("value", u)]⟩ ((["self", "value"] : List Str).zip [a, u])
/-- what a call of the class leaves -/
def newErr (C : Addr) (v : V) (H : Hp) (Q : VK) : Prop := ∀ e H', Same H H' → ErrAt H' C v (.ref e) → Q (.ref e) H'
def tErr (C : Addr) (te : TE) : TE := fun σ H Q => te σ H fun v H1 => newErr C v H1 Q
theorem pe_err0 (T : ErrC X.K C fI) (F1 : FnOk X.prog X.w X.K X.mg X.base CX0 k fI fd ["self", "value"] (spErr C)) (B : ErrB X.K fd) (hr : Room (k + 1) X.A) (hm : X.mg x = some (.ref C)) (hg : Gl X x := by rfl)
    (hdb : (x == ("__debug__" : Str)) = false := by decide) : PE X (.Call (.Name x p) [] [] pos) (fun _ H Q => newErr C .non H Q) := by
  refine ⟨fun pins s σ H Q I h => ?_⟩
  refine wpAny_Call_Name_kw (ld_glob I hg hm ?_ hdb)
  refine PySem.W.callWith_K0 I.kIn T.ox.kC ?_
  exact run_err (us := []) (kw := []) T F1 hr (Nat.zero_le _) (fun s' a X' => B.b0 s' _ X') (v := .non) rfl I h
theorem pe_err1 (T : ErrC X.K C fI) (F1 : FnOk X.prog X.w X.K X.mg X.base CX0 k fI fd ["self", "value"] (spErr C)) (B : ErrB X.K fd) (hr : Room (k + 1) X.A) (hm : X.mg x = some (.ref C)) (he : PE X e te) (hg : Gl X x := by rfl)
    (hdb : (x == ("__debug__" : Str)) = false := by decide) (hs : starEach [e] X.env = (false, eval e X.env) :: starEach [] X.env := by rfl) (hpl : (backTo pos (starEach [] X.env)).any (·.1) = false := by rfl) :
    PE X (.Call (.Name x p) [e] [] pos) (tErr C te) := by
  refine ⟨fun pins s σ H Q I h => ?_⟩
  refine wpAny_Call_Name_kw (ld_glob I hg hm ?_ hdb)
  refine PySem.W.callWith_K (h₀ := X.base) I.ok.mod.kin T.ox.kC ?_ hs hpl
  rw [hs]
  show wpAny _ _ (spliced ((false, eval e X.env) :: backTo pos (starEach [] X.env))) _ _ s
  refine Calls.spliced_cons (thn (he.run pins s σ H _ I h) fun u s1 ⟨v, H1, I1, r1, q1⟩ => ?_)
  refine Calls.spliced_nil ⟨I1.kIn, ?_⟩
  exact run_err (us := [u]) (kw := []) T F1 hr (by show 1 ≤ sizeLine; decide) (fun s' a X' => B.b1 s' _ u X') r1 I1 q1
theorem pe_errk {pk : Pos} (T : ErrC X.K C fI) (F1 : FnOk X.prog X.w X.K X.mg X.base CX0 k fI fd ["self", "value"] (spErr C)) (B : ErrB X.K fd) (hr : Room (k + 1) X.A) (hm : X.mg x = some (.ref C))
    {ta : TA} (hkw : PK X [⟨some "value", e, pk⟩] ta) (hg : Gl X x := by rfl) (hdb : (x == ("__debug__" : Str)) = false := by decide)
    (hall : (backToKw pos (keywordEach [⟨some "value", e, pk⟩] X.env)).all (·.1.isSome) = true := by rfl) (hks : (backToKw pos (keywordEach [⟨some "value", e, pk⟩] X.env)).filterMap (·.1) = (["value"] : List Str) := by rfl)
    (hpl : ((backTo pos (starEach [] X.env)).any (·.1) || (backToKw pos (keywordEach [⟨some "value", e, pk⟩] X.env)).any (·.1.isNone)) = false := by rfl) :
    PE X (.Call (.Name x p) [] [⟨some "value", e, pk⟩] pos) (fun σ H Q => ta σ H fun vs H1 => ∃ v, vs = [v] ∧ newErr C v H1 Q) := by
  refine ⟨fun pins s σ H Q I h => ?_⟩
  refine wpAny_Call_Name_kw (ld_glob I hg hm ?_ hdb)
  refine PySem.W.callWith_KW0 (h₀ := X.base) I.ok.mod.kin T.ox.kC hall ?_ hpl
  refine thn (hkw.run pos pins s σ H _ I h) fun us s1 ⟨vs, H1, I1, r1, v, ev, q1⟩ => ?_
  subst ev
  rw [hks]
  cases r1 with
  | @cons _ u _ _ ru rn =>
    cases rn
    exact ⟨I1.kIn, run_err (us := []) (kw := [("value", u)]) T F1 hr (Nat.zero_le _) (fun s' a X' => B.bk s' _ u X') ru I1 q1⟩
end
/-! ### isinstance, the field -/
/-- an error, with or without a field -/
def AnErr (H : Hp) (C : Addr) (x : V) : Prop := ∃ e, x = .ref e ∧ (H e = some (exo e C none) ∨ ∃ d fs, H e = some (exo e C (some d)) ∧ H d = some (exd d fs))
theorem ErrAt.an {H : Hp} {C : Addr} {v x : V} (h : ErrAt H C v x) : AnErr H C x := by
  obtain ⟨e, d, e1, e2, e3⟩ := h
  exact ⟨e, e1, .inr ⟨d, _, e2, e3⟩⟩
theorem AnErr.same {H H' : Hp} {C : Addr} {x : V} (k : Same H H') (h : AnErr H C x) : AnErr H' C x := by
  obtain ⟨e, e1, e2 | ⟨d, fs, e2, e3⟩⟩ := h
  · exact ⟨e, e1, .inl (k _ _ e2)⟩
  · exact ⟨e, e1, .inr ⟨d, fs, k _ _ e2, k _ _ e3⟩⟩
section
variable {X : Cx} {pins : List (Addr × Obj)} {σ : St} {H : Hp} {s : Shared} {C : Addr}
theorem AnErr.inst {e : Addr} (I : Inv X pins σ H s) (h : AnErr H C (.ref e)) : ∃ ox od, PySem.W.InstAt s.heap e ox C od := by
  obtain ⟨e', e1, h⟩ := h
  cases e1
  rcases h with h | ⟨d, fs, h, hd⟩
  · obtain ⟨t1, ho⟩ := exo_at I.hok h
    exact ⟨_, none, ho, rfl, rfl, trivial⟩
  · obtain ⟨t1, ho⟩ := exo_at I.hok h
    obtain ⟨mA, hn, _⟩ := exd_at I.hok hd
    obtain ⟨o, es, ep, hod, _⟩ := hn
    exact ⟨_, some o, ho, rfl, rfl, hod⟩
def rIsX (K : PySem.W.Frag) : List V → Hp → VK → Prop := fun xs H Q => ∃ (x : V) (C : Addr) (c : V) (cv : Value) (b : Bool), xs = [x, c] ∧ AnErr H C x ∧ ExcC K C ∧ ClsV c cv ∧ PySem.W.kitOne K (.ref C) cv = some b ∧ Q (.bl b) H
theorem call_isX : CallR X (.builtin "isinstance") (rIsX X.K) := by
  intro pins s σ H xs us Q I r h
  obtain ⟨x, C, c, cv, b, rfl, hx, T, kc, e, q⟩ := h
  obtain ⟨u1, u2, rfl, r1, r2⟩ := vals2 r
  have e2 := kc.eq r2
  subst e2
  obtain ⟨a, rfl, hh⟩ := id hx
  obtain rfl : u1 = Value.ref a := r1
  exact PySem.W.kia_one (PySem.W.err_kit T) I.kIn (hx.inst I) e (fun z => nomatch z) fun tk => ⟨.bl b, H, I.tok tk, rfl, q⟩
/-- e.value -/
def tErrVal (K : PySem.W.Frag) (te : TE) : TE := fun σ H Q => te σ H fun x H1 => ∃ C fI v, ErrAt H1 C v x ∧ ErrC K C fI ∧ Q v H1
theorem pe_errVal {e : Expr} {te : TE} {pos : Pos} (he : PE X e te) (hb : attributeBase e "value" X.env (eval e X.env) = eval e X.env := by rfl) : PE X (.Attribute e "value" pos) (tErrVal X.K te) := by
  refine ⟨fun pins s σ H Q I h => ?_⟩
  refine attr_of hb (thn (he.run pins s σ H _ I h) fun u s1 hh => ?_)
  obtain ⟨x, H1, I1, rx, C, fI, v, ⟨a, d, rfl, ha, hd⟩, T, q⟩ := hh
  obtain rfl : u = Value.ref a := rx
  obtain ⟨t1, ho⟩ := exo_at I1.hok ha
  obtain ⟨mA, hns, hr⟩ := exd_at I1.hok hd
  obtain ⟨od, hod, hl⟩ := lookIn_ns hns
  obtain ⟨w, hw, rw'⟩ := RelO.some_of (v := v) (o := mA "value") (hr "value")
  have J : PySem.W.InstAt s1.heap a _ C (some od) := ⟨ho, rfl, rfl, hod⟩
  exact HandSPX.exc_get I1.kIn J T.xf.ga T.xf.gg T.xf.exC (PySem.W.findObj_own T.xf.hdC T.nv rfl (by rw [hl, hw])) (handed_of rw') ⟨v, H1, I1.tok _, rw', q⟩
end
end L2
set_option Elab.async false
set_option linter.all false
set_option maxRecDepth 100000
set_option maxHeartbeats 4000000
/-! try: .. except C as e: suite, the error kept behind the suite (note = e). -/
namespace KB
open PySem PySem.Spec PyProof.Rows L2
/-- an error that was raised and caught, at a: of the class cls, its dict d -/
def ExK (cls : Value) (d : Option Addr) (a : Addr) : HO := .ext fun h => ∃ (oe : Obj) (fs : Array Value), h.get? a = some oe ∧ Zc cls d oe ∧ oe.data = .fields fs
theorem exk_ok {P : Program} {w : World} {H : Hp} {h : Heap} {a : Addr} {cls : Value} {d : Option Addr} {oe : Obj} {fs : Array Value} (e : h.get? a = some oe) (z : Zc cls d oe) (f : oe.data = .fields fs) : ObjOk P w H h a (ExK cls d a) :=
  ⟨⟨oe, fs, e, z, f⟩, ⟨oe, e⟩, fun h1 h2 p k => by
    obtain ⟨o1, f1, e1, r1⟩ := p
    exact ⟨o1, f1, k _ e1, r1⟩⟩
/-- an object that nobody tracks, new since the def was entered, is tracked from here on -/
theorem note {X : Cx} {pins : List (Addr × Obj)} {σ : L2.St} {H : Hp} {s : Shared} {a : Addr} {cls : Value} {d : Option Addr} {oe : Obj} {fs : Array Value} (J : Inv X pins σ H s) (e : s.heap.get? a = some oe) (z : Zc cls d oe) (f : oe.data = .fields fs) (na : H a = none)
    (nL : a ≠ X.env.locals) (nC : ∀ x c, X.env.cells.lookup x = some c → c ≠ a) (nP : ∀ p ∈ X.pn ++ pins, p.1 ≠ a) (n0 : X.s_0.heap.get? a = none) : Inv X pins σ (upd H a (ExK cls d a)) s where
  ok := J.ok
  os := J.os
  bare := J.bare
  base := {
    keep := J.base.keep
    slot := J.base.slot
    free := fun b o q n hx => by
      rw [upd_ne (fun y => by rw [y, n0] at q; cases q)]
      exact J.base.free b o q n hx
    there := J.base.there
    tups := fun b xs q => by
      have y := J.base.tups b xs q
      rw [upd_ne (ne_of_none y na)]
      exact y
    frzs := fun b o u q => by
      have y := J.base.frzs b o u q
      rw [upd_ne (ne_of_none y na)]
      exact y
    tbls := fun b ps q => by
      obtain ⟨more, y⟩ := J.base.tbls b ps q
      exact ⟨more, by rw [upd_ne (ne_of_none y na)]; exact y⟩ }
  loc := J.loc
  cell := J.cell
  free := by
    rw [upd_ne nL.symm]
    exact J.free
  freeC := fun x c y => by
    rw [upd_ne (nC x c y)]
    exact J.freeC x c y
  pin := fun p hp => ⟨(J.pin p hp).1, by rw [upd_ne (nP p hp)]; exact (J.pin p hp).2.1, (J.pin p hp).2.2⟩
  hok := J.hok.laidN (fun _ _ y => y) na (exk_ok e z f)
  len := J.len
/-- what the handler makes of an error: kept at a behind the suite -/
def wKeep (K : PySem.W.Frag) (c : Value) (i : Nat) (ts : Addr → Value → Option Addr → TS) (Wout : WX) (D : Ends) : WX := fun cls d σ H =>
  ∃ b, PySem.W.exmOne K cls c = some b ∧ (b = false → Wout cls d σ H) ∧
    (b = true → ∀ a, H a = none → ts a cls d ⟨fun τ G => D.nx (τ.set i none) (upd G a (ExK cls d a)), fun _ _ => False, fun _ _ => False, fun _ _ => False⟩ (σ.set i (some (.ref a))) H)
section
variable {X : Cx} {x n : Str} {c : Value} {i : Nat} {body suite : List Stmt} {b₀ : Stmt} {np pos pos' : Pos} {tb : WX → TS} {ts : Addr → Value → Option Addr → TS} {Wout : WX}
theorem ps_try_keep (hs : X.stack = X.env :: X.outer) (hf : X.env.frame = some X.env.locals) (hex : X.ex = []) (hN : X.N.Nodup) (hi : X.N[i]? = some n) (hln : X.env.kindOf n = some .local) (hc : Names X x c) (tk : Takes X Wout)
    (hb : ∀ (W : WX) (pn : List (Addr × Obj)) (xe : Value → Shared → Prop), Takes (X.tr pn xe) W → PassesOwn (model X.prog X.w) X.A X.env xe → PSs (X.tr pn xe) body (tb W))
    (hsu : ∀ (a : Addr) (oe : Obj) (cls : Value) (d : Option Addr) (pn : List (Addr × Obj)), Zc cls d oe → (∃ fs, oe.data = .fields fs) → PSs (X.suite a ((a, oe) :: pn)) (b₀ :: suite) (ts a cls d)) :
    PS X (.Try body [.ExceptHandler (some (.Name x np)) (some n) (b₀ :: suite) pos'] [] [] pos) (fun D σ H => tb (wKeep X.K c i ts Wout D) D σ H) := by
  refine ⟨fun pins s σ H D I h => wpAny_Try_except ?_⟩
  have ok := I.ok
  have fr : X.A.frames = some (X.env :: X.outer) := by rw [ok.frames, hs]
  have run := (hb (wKeep X.K c i ts Wout D) (X.pn ++ pins) (fun u s1 => wpAny (model X.prog X.w) X.A (noteFrame u X.env) (fun _ s2 => wpAny (model X.prog X.w) X.A (setFlight u none) (fun _ s3 =>
    wpAny (model X.prog X.w) X.A (handleBy u X.env [.ExceptHandler (some (.Name x np)) (some n) (b₀ :: suite) pos']) (SP X pins D) X.xe s3) X.xe s2) X.xe s1) (fun u s1 hx => ?_) PassesOwn.looking).run [] s σ H D (I.toTry _) h
  · refine wpAny_mono run (fun f s1 q => ?_) fun _ _ y => y
    match f, q with
    | .next, ⟨τ, G, J, q⟩ => exact wpAny_execs_nil ⟨τ, G, J.ofTry ok, q⟩
    | .brk, ⟨τ, G, J, q⟩ => exact ⟨τ, G, J.ofTry ok, q⟩
    | .cont, ⟨τ, G, J, q⟩ => exact ⟨τ, G, J.ofTry ok, q⟩
    | .ret _, ⟨v, τ, G, J, r, q⟩ => exact ⟨v, τ, G, J.ofTry ok, r, q⟩
  · obtain ⟨a, B, sI, pl, τ, G, cls, d, rfl, J0, nb, up, sky, na, os, ag, b, hb1, hno, hyes⟩ := hx
    have J : Inv X pins τ G sI := J0.ofTry ok
    rw [hs] at sky
    show wpAny (model X.prog X.w) X.A (noteFrame (.ref a) X.env) _ _ _
    refine Sky.land Zc.steady fr hf sky fun h3 fl3 up3 => ?_
    -- the error's object is none of the frames'
    have off : ∀ {h : Heap}, HandSPX.FlyingZ B (X.env :: X.outer) a (Zc cls d) h → a ∉ frs (X.env :: X.outer) := fun {h} fl hm => by
      obtain ⟨o, fs, e, _, ef⟩ := fl.there
      obtain ⟨_, o', e', no⟩ := fl.2.2.1.mem hm
      rw [e] at e'
      cases e'
      exact no _ ef
    have nF := off fl3
    have nL : a ≠ X.env.locals := fun y => nF (List.mem_filterMap.mpr ⟨X.env, List.mem_cons_self, by rw [hf, y]⟩)
    have nX : a ∉ X.fs := fun hm => by
      obtain ⟨e, he, q⟩ := List.mem_filterMap.mp hm
      exact nF (List.mem_filterMap.mpr ⟨e, List.mem_cons_of_mem _ he, q⟩)
    have nI : sI.heap.get? a = none := by
      cases e : sI.heap.get? a with
      | none => rfl
      | some o =>
        have y := nb a o e (by rw [hs]; exact nF)
        rw [fl3.2.1] at y
        cases y
    have J3 : Inv X pins τ G { s1 with heap := h3 } := J.landed nb fl3.1 (up.trans up3) os ag
    obtain ⟨o3, f3, e3, z3, d3⟩ := fl3.there
    have S3 := J3.suite e3 d3 na nL nX
    refine wpAny_handleBy_cons (codeAny_handlers_test ?_) (by intro q; cases q)
    have LM := PySem.W.exm_one (M := model X.prog X.w) J3.kIn (show PySem.W.Looks (model X.prog X.w) h3 (typeOf (.ref a)) cls from fun A Q E s k q => wpAny_typeOf_ref (k _ _ e3) (by rw [z3.1]; exact q)) hb1
    have named : ∀ {Q : Value → Shared → Prop} {E : Value → Shared → Prop}, Q c { s1 with heap := h3 } → wpAny (model X.prog X.w) (X.A.mark (some (.ref a))) (eval (.Name x np) X.env) Q E { s1 with heap := h3 } := fun {Q E} q => by
      obtain ⟨hg, hd, hm | ⟨hm, hv, hn⟩⟩ := hc
      · exact ld_glob (X := X.suite a ((a, o3) :: (X.pn ++ pins))) S3 hg hm q hd
      · exact ld_blt (X := X.suite a ((a, o3) :: (X.pn ++ pins))) S3 hg hm hv q hn hd
    refine named (LM.here ?_)
    cases b with
    | false =>
      show wpAny _ X.A (handleBy (.ref a) X.env []) _ _ _
      refine wpAny_handleBy_nil ?_
      obtain ⟨_, _, _, oe, fs, T, _, _, e5, _, d5, h1, _⟩ := id fl3
      unfold PySem.passOn
      refine wpAny_bind (wpAny_field e5 d5 h1 ?_)
      rw [if_neg (show ¬ ((Value.ref T == Value.none) = true) from by simp)]
      have out : wpAny (model X.prog X.w) X.A (setFlight (.ref a) X.env.frame) (fun _ s4 => wpAny (model X.prog X.w) X.A (throw (.ref a) : Sem Flow) (SP X pins D) X.xe s4) X.xe { s1 with heap := h3 } := by
        rw [hf]
        refine HandSPX.setFlight_upZ fl3 fun h4 l4 up4 => wpAny_throw (tk _ _ ⟨a, B, sI, pins, τ, G, cls, d, rfl, J, nb, (up.trans up3).trans up4, .inr (.inr (by rw [hs]; exact l4)), na, os, ag, hno rfl⟩)
      first
        | exact wpAny_bind (wpAny_pure (wpAny_bind out))
        | exact wpAny_bind out
    | true =>
      refine codeAny_handlers_suite_as ?_
      refine HandSPX.lands_againZ fl3 fun h4 fl4 up4 => ?_
      have J4 : Inv X pins τ G { s1 with heap := h4 } := J.landed nb fl4.1 ((up.trans up3).trans up4) os ag
      obtain ⟨o4, f4, e4, z4, d4⟩ := fl4.there
      have S4 := J4.suite e4 d4 na nL nX
      refine store_ok (X := X.suite a ((a, o4) :: (X.pn ++ pins))) (v := .ref a) S4 hN hi (.inl hln) rfl (fun s5 S5 => ?_) (.inr hln)
      refine wpAny_mono ((hsu a o4 cls d (X.pn ++ pins) z4 ⟨_, d4⟩).run [] s5 _ G _ S5 (hyes rfl a na)) (fun f s6 q => ?_) fun _ _ y => False.elim y
      match f, q with
      | .next, ⟨τ6, G6, S6, q6⟩ =>
        have p6 := S6.pin (a, o4) (List.mem_append_left _ List.mem_cons_self)
        have J6 := S6.unsuite ok
        have K6 : Inv X pins τ6 (upd G6 a (ExK cls d a)) s6 := note J6 p6.1 z4 d4 p6.2.1 p6.2.2.1 (fun y l hl e => ?_) (fun p hp e => ?_) ?_
        · exact gone_ok K6 hN hi hln fun s7 J7 => ⟨_, _, J7, q6⟩
        · obtain ⟨v, hv⟩ := J6.cell y l hl
          obtain ⟨ov, e1, e2⟩ := hv
          rw [e, p6.1] at e1
          cases e1
          exact p6.2.2.2.2 _ e2
        · have e1 := (J.pin p hp).1
          rw [e, nI] at e1
          cases e1
        · cases e : X.s_0.heap.get? a with
          | none => rfl
          | some o =>
            obtain ⟨o', e'⟩ := J.base.there a o e (by rw [hex]; exact List.not_mem_nil)
            rw [nI] at e'
            cases e'
      | .brk, ⟨_, _, _, q6⟩ => exact False.elim q6
      | .cont, ⟨_, _, _, q6⟩ => exact False.elim q6
      | .ret _, ⟨_, _, _, _, _, q6⟩ => exact False.elim q6
end
end KB
set_option Elab.async false
set_option linter.all false
set_option maxRecDepth 100000
set_option maxHeartbeats 4000000
/-! Errors with a field: raised, kept, asked what they are, their field read. -/
namespace KB
open PySem PySem.Spec PyProof.Rows L2
theorem errBinds {K : PySem.W.Frag} {fd : FuncData} (B : ErrB K fd) : Binds K fd ["self", "value"] [] := fun s us X hl => by
  rw [List.append_nil] at hl ⊢
  match us, hl with
  | [a, u], _ => exact B.b1 s a u X
/-- raise C(e), as a wish -/
def tRaise (C : Addr) (te : TE) : L2.St → Hp → XK → Prop := tMkO C (spErr C) [] (tCons te tNil)
/-- what is left to be shown of it, behind e -/
theorem raise_in {C : Addr} {v : V} {H : Hp} {Q : XK} {E : XK} (q : ∀ d, H d = none → Q (.ref C) (some d) (upd H d (.xd [("value", v)]))) : ([v] : List V).length ≤ 1000 ∧ ∀ a, H a = none → spErr C (.ref a :: ([v] ++ [])) (upd H a (exo a C none))
    (fun u H2 => u = .non ∧ ∃ (d : Addr) (fs : List (Str × V)), H2 a = some (exo a C (some d)) ∧ H2 d = some (exd d fs) ∧ H d = none ∧ Q (.ref C) (some d) (upd (del H2 a) d (.xd fs))) E := by
  refine ⟨Nat.le_of_ble_eq_true rfl, fun a na => ⟨a, v, rfl, upd_same, fun d hd ne => ⟨rfl, d, [("value", v)], upd_same, by rw [upd_ne ne, upd_same], ?_, ?_⟩⟩⟩
  · rw [upd_ne ne] at hd
    exact hd
  · rw [upd_ne ne] at hd
    have e : upd (del (upd (upd (upd H a (exo a C none)) d (exd d [("value", v)])) a (exo a C (some d))) a) d (.xd [("value", v)]) = upd H d (.xd [("value", v)]) := by
      funext b
      by_cases h1 : b = d
      · rw [h1, upd_same, upd_same]
      · rw [upd_ne h1, upd_ne h1]
        by_cases h2 : b = a
        · rw [h2, na]
          exact del_same
        · rw [del_ne h2, upd_ne h2, upd_ne h1, upd_ne h2]
    rw [e]
    exact q d hd
section
variable {X : Cx} {C fI : Addr} {fd : FuncData} {k : Nat} {x : Str} {p pos : Pos} {e : Expr} {te : TE}
theorem pmk_err (T : ErrC X.K C fI) (F1 : FnOk X.prog X.w X.K X.mg X.base CX0 k fI fd ["self", "value"] (spErr C)) (B : ErrB X.K fd) (hr : Room (k + 1) X.A) (hm : X.mg x = some (.ref C)) (he : PE X e te) (hg : Gl X x := by rfl)
    (hdb : (x == ("__debug__" : Str)) = false := by decide) (hs : starEach [e] X.env = (false, eval e X.env) :: starEach [] X.env := by rfl) (hpl : (backTo pos (starEach [] X.env)).any (·.1) = false := by rfl) :
    PMk X (.Call (.Name x p) [e] [] pos) (tRaise C te) :=
  pmk_oex T.ox T.iC T.tI F1 hr (errBinds B) .nil pass0 hg hm (pa_cons he pa_nil hs) hdb hs hpl
end
/-- x is a caught error of the class at C whose field holds v -/
def Kept (H : Hp) (C : Addr) (v x : V) : Prop := ∃ a d, x = .ref a ∧ H a = some (ExK (.ref C) (some d) a) ∧ H d = some (.xd [("value", v)])
theorem Kept.same {H H' : Hp} {C : Addr} {v x : V} (k : Same H H') (h : Kept H C v x) : Kept H' C v x := by
  obtain ⟨a, d, e1, e2, e3⟩ := h
  exact ⟨a, d, e1, k _ _ e2, k _ _ e3⟩
section
variable {X : Cx} {pins : List (Addr × Obj)} {σ : L2.St} {H : Hp} {s : Shared} {C : Addr} {v : V}
theorem kept_inst {a : Addr} (I : Inv X pins σ H s) (h : Kept H C v (.ref a)) : ∃ ox od, PySem.W.InstAt s.heap a ox C (some od) ∧ ∃ dd mA, ox.dict = some dd ∧ s.heap.Ns1 dd mA ∧ RelO (some v) (mA "value") ∧ s.heap.get? dd = some od := by
  obtain ⟨a', d, e1, ha, hd⟩ := h
  cases e1
  obtain ⟨⟨oe, fs, he, hz, hf⟩, _⟩ := I.hok a _ ha
  have hx : ObjOk X.prog X.w H s.heap d (.xd [("value", v)]) := I.hok d _ hd
  obtain ⟨mA, hns, hr⟩ := hx
  obtain ⟨od, ho, _⟩ := lookIn_ns hns
  exact ⟨oe, od, ⟨he, hz.1, by unfold PySem.W.notCls; rw [hf] <;> rfl, by rw [hz.2]; exact ho⟩, d, mA, hz.2, hns, hr "value", ho⟩
/-- isinstance(x, c) of a kept error -/
def rIsK (K : PySem.W.Frag) : List V → Hp → VK → Prop := fun xs H Q => ∃ (x : V) (C : Addr) (v c : V) (cv : Value) (b : Bool), xs = [x, c] ∧ Kept H C v x ∧ ExcC K C ∧ ClsV c cv ∧ PySem.W.kitOne K (.ref C) cv = some b ∧ Q (.bl b) H
theorem call_isK : CallR X (.builtin "isinstance") (rIsK X.K) := by
  intro pins s σ H xs us Q I r h
  obtain ⟨x, C, v, c, cv, b, rfl, hx, T, kc, e, q⟩ := h
  obtain ⟨u1, u2, rfl, r1, r2⟩ := vals2 r
  obtain rfl := kc.eq r2
  obtain ⟨a, d, rfl, _⟩ := id hx
  obtain rfl : u1 = Value.ref a := r1
  obtain ⟨ox, od, J, _⟩ := kept_inst I hx
  exact PySem.W.kia_one (PySem.W.err_kit T) I.kIn ⟨ox, some od, J⟩ e (fun z => nomatch z) fun tk => ⟨.bl b, H, I.tok tk, rfl, q⟩
/-- x.value of a kept error -/
def tKeptVal (K : PySem.W.Frag) (te : TE) : TE := fun σ H Q => te σ H fun x H1 => ∃ C fI v, Kept H1 C v x ∧ ErrC K C fI ∧ Q v H1
theorem pe_keptVal {e : Expr} {te : TE} {pos : Pos} (he : PE X e te) (hb : attributeBase e "value" X.env (eval e X.env) = eval e X.env := by rfl) : PE X (.Attribute e "value" pos) (tKeptVal X.K te) := by
  refine ⟨fun pins s σ H Q I h => ?_⟩
  refine attr_of hb (thn (he.run pins s σ H _ I h) fun u s1 hh => ?_)
  obtain ⟨x, H1, I1, rx, C, fI, v, hk, T, q⟩ := hh
  obtain ⟨a, d, rfl, _⟩ := id hk
  obtain rfl : u = Value.ref a := rx
  obtain ⟨ox, od, J, dd, mA, ed, hns, hr, ho⟩ := kept_inst I1 hk
  obtain ⟨w, hw, rw'⟩ := RelO.some_of (v := v) (o := mA "value") hr
  obtain ⟨od', ho', hl⟩ := lookIn_ns hns
  rw [ho] at ho'
  cases ho'
  exact HandSPX.exc_get I1.kIn J T.xf.ga T.xf.gg T.xf.exC (PySem.W.findObj_own T.xf.hdC T.nv rfl (by rw [hl, hw])) (handed_of rw') ⟨v, H1, I1.tok _, rw', q⟩
end
end KB
set_option Elab.async false
set_option linter.all false
set_option maxRecDepth 100000
set_option maxHeartbeats 8000000
namespace K33
open PySem PySem.Spec PyProof.Rows L2 KB
theorem sel_own (ds : List Dd) (p : Nat) : ((List.range ds.length).filterMap fun i => (ds[i]?).bind fun d => if d.p = p then some (V.int (d.n : Int)) else none) = numsV ((ds.filter fun d => decide (d.p = p)).map (·.n)) := by
  induction ds with
  | nil => rfl
  | cons x r ih =>
    rw [List.length_cons, List.range_succ_eq_map, List.filterMap_cons, List.filterMap_map, List.filter_cons]
    have e : ((fun i => ((x :: r)[i]?).bind fun d => if d.p = p then some (V.int (d.n : Int)) else none) ∘ Nat.succ) = fun i => (r[i]?).bind fun d => if d.p = p then some (V.int (d.n : Int)) else none := rfl
    rw [e, ih]
    by_cases h : x.p = p
    · simp [h, numsV]
    · simp [h, numsV]
/-- drawn marks -/
def spDrawnM : Sp := fun vs H Q _ => ∃ (pu a : Addr) (ds : List Dd) (N : Nat), vs = [.ref pu, .ref a] ∧ Purse H pu N ∧ N ≤ 2 ^ 38 ∧ LogAt (off H pu) a ds ∧ Lg ds ∧ ∀ q m H', But pu H H' → Purse H' pu (N + 30) → H q = none → MkAt H' q (pgs ds) m → Mk ds m → Q (.ref q) H'
section
variable {P : Program} {w : World} {K : PySem.W.Frag} {mg : Str → Option Value} {base : Heap}
abbrev s_drawn_marks : Stmt := top 60
abbrev N_drawn_marks : List Str := ["_law_purse_here", "_law_log_here", "_law_found", "_law_page", "_law_deed"]
theorem sc_drawn_marks : FnScope N_drawn_marks ["_law_purse_here", "_law_log_here"] (defScope s_drawn_marks) := ⟨rfl, rfl, rfl, by decide +kernel, rfl, by decide +kernel, by decide +kernel⟩
theorem ok_drawn_marks {f : Addr} {fd : FuncData} (F : FnP K "_law_drawn_marks" s_drawn_marks f fd) (Z : FreeS mg)
    {f_of_pages : Addr} {d_of_pages : FuncData} (g_of_pages : mg "_law_of_pages" = some (.ref f_of_pages)) (F_of_pages : FnP K "_law_of_pages" s_of_pages f_of_pages d_of_pages) (G_of_pages : FnOk P w K mg base CX0 1 f_of_pages d_of_pages ["_law_log_here"] spOfP)
    {f_one_of : Addr} {d_one_of : FuncData} (g_one_of : mg "_law_one_of" = some (.ref f_one_of)) (F_one_of : FnP K "_law_one_of" s_one_of f_one_of d_one_of) (G_one_of : FnOk P w K mg base CX0 3 f_one_of d_one_of ["_law_purse_here", "_law_some"] (spOne K)) :
    FnOk P w K mg base CX0 4 f fd ["_law_purse_here", "_law_log_here"] spDrawnM := by
  have b_of_pages : Binds K d_of_pages ["_law_log_here"] [] := F_of_pages.bindsN fun _ _ _ _ _ _ us hl => match us, hl with | [_], _ => rfl
  have b_one_of : Binds K d_one_of ["_law_purse_here", "_law_some"] [] := F_one_of.bindsN fun _ _ _ _ _ _ us hl => match us, hl with | [_, _], _ => rfl
  refine F.ok sc_drawn_marks (fun vs H Q E h => ?_) (fun cdv A outer s H vs Q E hr h => ?_)
  · obtain ⟨pu, a, ds, N, rfl, _⟩ := h
    rfl
  · obtain ⟨pu, a, ds, N, rfl, hP, hN, hL, hG, k⟩ := h
    obtain ⟨xs, ha', lx, hx⟩ := id hL
    have na : a ≠ pu := fun z => by
      unfold off at ha'
      rw [if_pos z] at ha'
      cases ha'
    have ha : H a = some (.lst xs) := off_le _ _ _ _ ha'
    have l60 := hG.len
    have pl := hG.pl
    have sl : (2000 : Nat) ≤ sizeLine := by decide
    have hu : (A.deeper (envOfC "_law_drawn_marks" (defScope s_drawn_marks) s.heap.objs.size f cdv)).units + 1 < cLine := by
      have := hr.units
      omega
    have nd := sc_drawn_marks.nd
    refine ⟨_, PSs.nox (pss_cons (ps_set (i := 2) nd rfl (Or.inl rfl) (pe_dnewK))
      (pss_cons (ps_for PassesOwn.never rfl (pi_list (pe_call G_of_pages (hr.mono (by decide)) rfl g_of_pages F_of_pages.kp b_of_pages .nil pass0 (pa_cons (pv 1) (pa_nil)))) (pg_name (i := 3) nd rfl (Or.inr rfl))
        (pss_one (ps_dput hu (pv 2) (pv 3) (pe_call G_one_of (hr.mono (by decide)) rfl g_one_of F_one_of.kp b_one_of .nil pass0 (pa_cons (pv 0) (pa_cons (pe_op op_cat (pe_lst (pa_cons (pe_int) (pa_nil))) (pe_lc (own := [("_law_deed", 4)]) (g := gName 4) (tt := tTest (tOp rEq (tOp (rIxT K) (tVar 4) (tC (.int 1))) (tVar 3))) (te := tOp (rIxT K) (tVar 4) (tC (.int 0))) (by rfl) nd (pi_list (pv 1))
          (blkOk_by (own := [("_law_deed", 4)]) (N := N_drawn_marks) (sc := defScope s_drawn_marks) (by decide +kernel)) (fun _ _ _ _ _ => pg_name (i := 4) nd rfl (Or.inl rfl)) (fun _ _ _ _ _ => pts_one (pt_cmpR op_eq (pe_ix ix_tup (pv 4) (pe_int) (fun _ _ => rfl)) (pv 3) (nomark _)))
          (fun _ _ _ _ _ => pe_ix ix_tup (pv 4) (pe_int) (fun _ _ => rfl)))) (pa_nil)))) rfl)))
      (pss_one (ps_ret (pv 2))))), ?_⟩
    refine fun q hq => ?_
    have nq : q ≠ pu := fresh_ne hP hq
    have s1 := Same.updf (o := .dK []) hq
    refine ⟨_, rfl, a, ds, rfl, (hL.same (off_le _ _)).same s1, hG, fun pq G1 s2 npq hpq => ⟨pq, rfl, ⟨_, SqL.of hpq⟩, ?_⟩⟩
    have s12 := s1.trans s2
    have P1 := hP.same s12
    have npu : pq ≠ pu := fresh_ne (hP.same s1) npq
    have nqp : pq ≠ q := (ne_of_none (upd_same (H := H) (a := q)) npq).symm
    have ln : (numsV (pgs ds)).length = (pgs ds).length := List.length_map _
    refine for_it (walk_list (K := K) (a := pq) (xs := numsV (pgs ds))) (fun i σ G => But pu H G ∧ (∃ M, Purse G pu M ∧ M ≤ N + i) ∧ G pq = some (.lst (numsV (pgs ds))) ∧ ∃ m v3, G q = some (.dK (mV ((pgs ds).take i) m)) ∧ (∀ p ∈ (pgs ds).take i, m p ∈ nbp ds p) ∧ σ = [some (.ref pu), some (.ref a), some (.ref q), v3, none])
      ⟨But.of s12, ⟨_, P1, Nat.le_refl _⟩, hpq, fun _ => 0, _, s2 _ _ upd_same, (fun p m => by simp at m), rfl⟩ (fun i σ G _ hh => SqL.of hh.2.2.1) ?_ ?_
    · rintro i x σ G G' hi ⟨bG, ⟨M, PM, lM⟩, hp, m, v3, hm, mk, rfl⟩ ⟨rfl, hv⟩
      have li : i < (pgs ds).length := by omega
      unfold numsV at hv
      rw [List.getElem?_map, List.getElem?_eq_getElem li] at hv
      obtain rfl := Option.some.inj hv
      have haG := bG _ _ na ha
      have hLG : LogAt G' a ds := (hL.same (but_off bG)).same (off_le _ _)
      obtain ⟨xs2, ha2, lx2, hx2⟩ := id hLG
      rw [haG] at ha2
      cases ha2
      refine ⟨_, rfl, (by show 1 ≤ sizeLine; omega), fun A1 hA1 => ?_⟩
      have s3 := Same.updf (o := .lst [V.int 0]) hA1
      refine ⟨_, rfl, a, rfl, ⟨_, SqL.of (s3 _ _ haG)⟩, fun D hD => ?_⟩
      have hxs : ∀ (i : Nat) (x : V) (d : Dd), xs[i]? = some x → ds[i]? = some d → DeedAt G' x d := hx2
      refine lc_sel (n := xs.length) (walk_list (K := K) (a := a) (xs := xs)) (fun j => (ds[j]?).bind fun d => if d.p = (pgs ds)[i] then some (V.int (d.n : Int)) else none) (by omega) hD (fun H2 s4 => SqL.of (s4 _ _ (s3 _ _ haG))) ?_ ?_
      · rintro j y H5 H6 Qy Qn hj s5 ⟨rfl, hy⟩ ky_ kn
        have lj : j < ds.length := by omega
        have hd : ds[j]? = some ds[j] := List.getElem?_eq_getElem lj
        obtain ⟨t, rd, tw, rfl, ht, hr1, _⟩ := (hxs j _ _ hy hd).same (s3.trans s5)
        refine ⟨rfl, _, rfl, t, _, 1, _, rfl, rfl, SqT.of ht, rfl, _, rfl, rfl, _, rfl, ?_⟩
        rw [hd, Option.bind_some] at ky_ kn
        by_cases c : ds[j].p = (pgs ds)[i]
        · rw [if_pos c] at ky_
          rw [decide_eq_true (show V.int (ds[j].p : Int) = V.int ((pgs ds)[i] : Int) by rw [c])]
          exact iteT ⟨_, rfl, t, _, 0, _, rfl, rfl, SqT.of ht, rfl, ky_ _ _ (Same.refl _) rfl⟩
        · rw [if_neg c] at kn
          rw [decide_eq_false (show ¬ V.int (ds[j].p : Int) = V.int ((pgs ds)[i] : Int) from fun z => c (by have := V.int.inj z; omega))]
          exact iteF (kn _ (Same.refl _) rfl)
      · intro H5 s5 hR
        rw [lx, sel_own] at hR
        have lnb := nbp_len ds (pgs ds)[i]
        unfold nbp at lnb
        rw [List.length_cons] at lnb
        have lz : (numsV ((ds.filter fun d => decide (d.p = (pgs ds)[i])).map (·.n))).length ≤ 61 := by
          unfold numsV
          rw [List.length_map]
          omega
        refine ⟨A1, D, [.int 0], _, rfl, rfl, s5 _ _ upd_same, hR, (by show 1 + _ ≤ sizeLine; omega), fun A2 hA2 => ?_⟩
        have s6 := Same.updf (o := .lst ([V.int 0] ++ numsV ((ds.filter fun d => decide (d.p = (pgs ds)[i])).map (·.n)))) hA2
        have s36 := (s3.trans s5).trans s6
        have P6 := PM.same s36
        have nA2 : A2 ≠ pu := fresh_ne (PM.same (s3.trans s5)) hA2
        refine ⟨pu, A2, numsV (nbp ds (pgs ds)[i]), M, rfl, nA2, SqL.of upd_same, by unfold numsV nbp; simp, by unfold numsV; rw [List.length_map]; have := nbp_len ds (pgs ds)[i]; omega, P6, by omega, fun y H7 hy b7 P7 => ?_⟩
        obtain ⟨v, mv, rfl⟩ := List.mem_map.mp hy
        have bAll : But pu G' H7 := (But.of s36).trans b7
        have hm7 := bAll _ _ nq hm
        refine ⟨_, rfl, _, rfl, q, _, rfl, DPut.k (k := ky (pgs ds)[i]) hm7 (by rw [dV_len, List.length_take]; omega), ?_⟩
        refine ⟨fun b o n e => ?_, ⟨_, P7.same' (upd_ne nq.symm), by omega⟩, by rw [upd_ne nqp]; exact bAll _ _ npu hp, putN m (pgs ds)[i] v, _, ?_, fun p hp => ?_, rfl⟩
        · rw [upd_ne (ne_of_none e hq)]
          exact bAll _ _ n (bG _ _ n e)
        · rw [upd_same, dV_new (tk_notin li), tk_snoc li]
          refine congrArg (fun z => some (HO.dK z)) (dV_congr fun p _ => ?_)
          unfold put putN
          split <;> rfl
        · unfold putN
          split
          · next e =>
            rw [e]
            exact mv
          · next e =>
            rw [tk_snoc li] at hp
            rcases List.mem_append.mp hp with hp | hp
            · exact mk p hp
            · exact absurd (List.mem_singleton.mp hp) e
    · rintro σ G ⟨bG, ⟨M, PM, lM⟩, hp, m, v3, hm, mk, rfl⟩
      rw [ln, List.take_length] at hm mk
      exact ⟨_, rfl, k q m G bG (PM.mono (by omega)) hq hm mk⟩
end
end K33
set_option Elab.async false
set_option linter.all false
set_option maxRecDepth 100000
set_option maxHeartbeats 8000000
namespace K33
open PySem PySem.Spec PyProof.Rows L2 KB LiI
/-! logs as data -/
def numsD (l : List Nat) : List PyData := l.map fun i : Nat => PyData.int (i : Int)
def deedD (d : Dd) : PyData := .tuple [.int (d.n : Int), .int (d.p : Int), .list (numsD d.r), .tuple d.w]
def logD (ds : List Dd) : PyData := .list (ds.map deedD)
theorem tr_nums {H : Hp} {n : Nat} {a : Addr} {l : List Nat} (h : H a = some (.lst (numsV l))) (k : l.length ≤ 1000) : Tr H (n + 1) (.ref a) (.list (numsD l)) := by
  refine Tr.lst h (by unfold numsV numsD; rw [List.length_map, List.length_map]) (by unfold numsD; rw [List.length_map]; exact k) fun i u e h1 h2 => ?_
  unfold numsV at h1
  unfold numsD at h2
  rw [List.getElem?_map] at h1 h2
  obtain ⟨p, q1, rfl⟩ := Option.map_eq_some_iff.mp h1
  rw [q1] at h2
  cases h2
  exact Tr.flat (.int _)
theorem tr_nums_of {H : Hp} {n : Nat} {x : V} {l : List Nat} (h : Tr H n x (.list (numsD l))) : ∃ a, x = .ref a ∧ H a = some (.lst (numsV l)) := by
  cases n with
  | zero => exact (FlatD.noL h).elim
  | succ n =>
    rcases h with h | ⟨a, xs, ds, rfl, l1, l2, t, c⟩
    · exact (FlatD.noL h).elim
    · rcases t with ⟨ha, e⟩ | ⟨_, e⟩
      · cases e
        refine ⟨a, rfl, ?_⟩
        rw [ha]
        refine congrArg (fun z => some (HO.lst z)) (List.ext_getElem? fun i => ?_)
        have ll : (numsD l).length = l.length := List.length_map _
        have lv : (numsV l).length = l.length := List.length_map _
        by_cases hi : i < l.length
        · have e1 : xs[i]? = some (xs[i]'(by omega)) := List.getElem?_eq_getElem (by omega)
          have e2 : (numsD l)[i]? = some (.int (l[i] : Int)) := by
            unfold numsD
            rw [List.getElem?_map, List.getElem?_eq_getElem hi]
            rfl
          have e3 : (numsV l)[i]? = some (.int (l[i] : Int)) := by
            unfold numsV
            rw [List.getElem?_map, List.getElem?_eq_getElem hi]
            rfl
          have tt := c i _ _ e1 e2
          rw [e1, e3]
          cases n with
          | zero =>
            have tt' : FlatD _ _ := tt
            cases hx : xs[i]'(by omega) <;> rw [hx] at tt' <;> cases tt'
            rfl
          | succ n =>
            rcases tt with tt | ⟨_, _, _, _, _, _, t, _⟩
            · cases hx : xs[i]'(by omega) <;> rw [hx] at tt <;> cases tt
              rfl
            · rcases t with ⟨_, z⟩ | ⟨_, z⟩ <;> cases z
        · rw [List.getElem?_eq_none (by omega), List.getElem?_eq_none (by omega)]
      · cases e
theorem DeedAt.tr {H : Hp} {x : V} {d : Dd} (h : DeedAt H x d) (k : d.r.length ≤ 20) : Tr H 6 x (deedD d) := by
  obtain ⟨t, rd, tw, rfl, ht, hr, hw⟩ := h
  exact Tr.tup ht rfl (by simp) (tr_cons (Tr.flat (.int _)) (tr_cons (Tr.flat (.int _)) (tr_cons (tr_nums hr (by omega)) (tr_cons hw tr_nil))))
theorem LogAt.tr {H : Hp} {a : Addr} {ds : List Dd} (h : LogAt H a ds) (hG : Lg ds) : Tr H 7 (.ref a) (logD ds) := by
  obtain ⟨xs, ha, lx, hx⟩ := h
  have l60 := hG.len
  refine Tr.lst ha (by rw [List.length_map]; exact lx) (by rw [List.length_map]; omega) fun i u e h1 h2 => ?_
  rw [List.getElem?_map] at h2
  obtain ⟨d, q1, rfl⟩ := Option.map_eq_some_iff.mp h2
  exact (hx i u d h1 q1).tr (hG.ok d (List.mem_of_getElem? q1)).len
theorem flat_int {x : V} {n : Nat} {H : Hp} {i : Int} (h : Tr H n x (.int i)) : x = .int i := by
  cases n with
  | zero =>
    have h' : FlatD x _ := h
    cases h'
    rfl
  | succ n =>
    rcases h with h | ⟨_, _, _, _, _, _, t, _⟩
    · cases h
      rfl
    · rcases t with ⟨_, z⟩ | ⟨_, z⟩ <;> cases z
theorem deed_of_tr {H : Hp} {x : V} {d : Dd} (h : Tr H 6 x (deedD d)) : DeedAt H x d := by
  rcases h with h | ⟨t, xs, ds, rfl, l1, l2, tt, c⟩
  · cases h
  · rcases tt with ⟨_, e⟩ | ⟨ht, e⟩
    · cases e
    · cases e
      match xs, l1, ht, c with
      | [x0, x1, x2, x3], _, ht, c =>
        have e0 := flat_int (c 0 _ _ rfl rfl)
        have e1 := flat_int (c 1 _ _ rfl rfl)
        obtain ⟨rd, e2, hr⟩ := tr_nums_of (c 2 _ _ rfl rfl)
        have h3 := c 3 _ _ rfl rfl
        have e3 : ∃ tw, x3 = .ref tw := by
          rcases h3 with h3 | ⟨tw, _, _, e, _⟩
          · cases h3
          · exact ⟨tw, e⟩
        obtain ⟨tw, e3⟩ := e3
        subst e0 e1 e2 e3
        exact ⟨t, rd, tw, rfl, ht, hr, h3⟩
theorem log_of_tr {H : Hp} {x : V} {ds : List Dd} (h : Tr H 7 x (logD ds)) : ∃ a, x = .ref a ∧ LogAt H a ds := by
  rcases h with h | ⟨a, xs, es, rfl, l1, l2, tt, c⟩
  · cases h
  · rcases tt with ⟨ha, e⟩ | ⟨_, e⟩
    · cases e
      rw [List.length_map] at l1
      refine ⟨a, rfl, xs, ha, l1, fun i x d h1 h2 => deed_of_tr (c i x (deedD d) h1 ?_)⟩
      rw [List.getElem?_map, h2]
      rfl
    · cases e

theorem LogAt.keep {H H' : Hp} {a : Addr} {ds : List Dd} (k : KeepLT H H') (h : LogAt H a ds) : LogAt H' a ds := by
  obtain ⟨xs, h1, h2, h3⟩ := h
  refine ⟨xs, (k _ _).1 h1, h2, fun i x d e1 e2 => ?_⟩
  obtain ⟨t, rd, tw, e, ht, hr, hw⟩ := h3 i x d e1 e2
  exact ⟨t, rd, tw, e, (k _ _).2 ht, (k _ _).1 hr, Tr.keep k hw⟩
theorem keep_frz {B : Hp} {b pu : Addr} {kvs : List (Key × V)} {o : HO} (hb : B b = some (.dK kvs)) : KeepLT (off B pu) (off (upd B b o) pu) := fun c xs => by
  have n1 : ∀ u, off B pu c = some u → c ≠ pu := fun u e z => by
    unfold off at e
    rw [if_pos z] at e
    cases e
  constructor
  · intro e
    have n := n1 _ e
    rw [off_at n] at e ⊢
    rw [upd_ne (fun z => by
      rw [z, hb] at e
      cases e)]
    exact e
  · intro e
    have n := n1 _ e
    rw [off_at n] at e ⊢
    rw [upd_ne (fun z => by
      rw [z, hb] at e
      cases e)]
    exact e
theorem rep_bool (c : Bool) (x : V) : -(2 ^ 63 : Int) ≤ (if c = true then 1 else 0 : Int) ∧ (if c = true then 1 else 0 : Int) < 2 ^ 63 ∧ ([x] : List V).length * (if c = true then 1 else 0 : Int).toNat ≤ sizeLine ∧ (List.replicate (if c = true then 1 else 0 : Int).toNat [x]).flatten = if c = true then [x] else [] := by
  have sl : (3000 : Nat) ≤ sizeLine := by decide
  cases c with
  | true => exact ⟨by decide, by decide, by show 1 * 1 ≤ sizeLine; omega, rfl⟩
  | false => exact ⟨by decide, by decide, by show 1 * 0 ≤ sizeLine; omega, rfl⟩
theorem paired_ifB {F : PyData → V → Prop} {c : Bool} {P : Prop} [Decidable P] (e : c = decide P) {d : PyData} {y : V} (h : F d y) : Paired F (if P then [d] else []) (if c = true then [y] else []) := by
  subst e
  by_cases p : P
  · rw [if_pos p, decide_eq_true p, if_pos rfl]
    exact .cons h .nil
  · rw [if_neg p, decide_eq_false p, if_neg Bool.false_ne_true]
    exact .nil
theorem len_ifB (c : Bool) (y : V) : (if c = true then [y] else []).length ≤ 1 := by
  cases c <;> simp
theorem td_le {H : Hp} {x : V} {d : PyData} {n : Nat} (h : TD H n x d) : ∀ k, TD H (n + k) x d
  | 0 => h
  | k + 1 => (td_le h k).up
theorem td_list {α : Type} {H : Hp} {n : Nat} {a : Addr} {ts : List α} {ys : List V} {f : α → PyData} (h : H a = some (.lst ys)) (p : Paired (fun t y => TD H n y (f t)) ts ys) (l : ts.length ≤ 1000) : TD H (n + 1) (.ref a) (.list (ts.map f)) := by
  refine TD.lst h (by rw [List.length_map]; exact (paired_len p).symm) (by rw [List.length_map]; exact l) fun i u e h1 h2 => ?_
  rw [List.getElem?_map] at h2
  obtain ⟨t, q, rfl⟩ := Option.map_eq_some_iff.mp h2
  obtain ⟨y, e1, e2⟩ := paired_get1 p q
  rw [h1] at e1
  cases e1
  exact e2
theorem ints_td {H : Hp} {t : List Int} {y : V} (h : IntsAt H t y) (l : t.length ≤ 9) : TD H 1 y (intsD t) := by
  obtain ⟨T, rfl, h⟩ := h
  refine TD.of (Tr.tup (n := 0) h (by rw [List.length_map, List.length_map]) (by rw [List.length_map]; omega) fun i u e h1 h2 => ?_)
  rw [List.getElem?_map] at h1 h2
  obtain ⟨j, q, rfl⟩ := Option.map_eq_some_iff.mp h1
  rw [q] at h2
  cases h2
  exact Tr.flat (.int _)
theorem nums_td {H : Hp} {a : Addr} {l : List Nat} (h : H a = some (.lst (numsV l))) (k : l.length ≤ 1000) : TD H 1 (.ref a) (.list (numsD l)) := TD.of (tr_nums h k)
def itD (ps : List Nat) (m : Nat → Nat) : PyData := .list (ps.map fun p : Nat => .tuple [.int (p : Int), .int (m p : Int)])
theorem it_td {H : Hp} {a : Addr} {ps : List Nat} {m : Nat → Nat} {ts : List Addr} (h : H a = some (.lst (ts.map V.ref))) (p : Paired (fun (t : Addr) (q : Key × V) => H t = some (.tup [kV q.1, q.2])) ts (mV ps m)) (l : ps.length ≤ 1000) : TD H 2 (.ref a) (itD ps m) := by
  unfold itD
  have lp := paired_len p
  rw [dV_len] at lp
  refine TD.lst h (by rw [List.length_map, List.length_map]; exact lp) (by rw [List.length_map]; exact l) fun i u e h1 h2 => ?_
  rw [List.getElem?_map] at h1 h2
  obtain ⟨t, q, rfl⟩ := Option.map_eq_some_iff.mp h1
  obtain ⟨r, q2, rfl⟩ := Option.map_eq_some_iff.mp h2
  obtain ⟨y, e1, e2⟩ := paired_get1 p q
  have e3 : (mV ps m)[i]? = some (ky r, .int (m r : Int)) := by
    unfold mV dV
    rw [List.getElem?_map, q2]
    rfl
  rw [e3] at e1
  cases e1
  exact TD.of (Tr.tup (n := 0) e2 rfl (by simp) (tr_cons (Tr.flat (.int _)) (tr_cons (Tr.flat (.int _)) tr_nil)))
theorem dp_list {α : Type} {K : PySem.W.Frag} {H : Hp} : ∀ {ts : List Nat}, DpAll K H (numsV ts) (numsD ts)
  | [] => .nil
  | t :: ts => .cons (.int _) (dp_list (α := α))
theorem lay_nums : ∀ l : List Nat, PyData.canLayAll0 (numsD l) = true ∧ PyData.depthAll (numsD l) = 0
  | [] => ⟨rfl, rfl⟩
  | x :: l => by
    obtain ⟨h1, h2⟩ := lay_nums l
    constructor
    · show PyData.canLayAll0 (.int (x : Int) :: numsD l) = true
      simp only [PyData.canLayAll0, PyData.canLay0, h1, Bool.and_self]
    · show PyData.depthAll (.int (x : Int) :: numsD l) = 0
      simp only [PyData.depthAll, PyData.depth, h2]
      rfl
theorem shaped_nums (l : List Nat) : SeqAt.shaped (.list (numsD l)) = true := by
  obtain ⟨h1, h2⟩ := lay_nums l
  unfold SeqAt.shaped
  rw [Bool.and_eq_true]
  constructor
  · simp only [PyData.canLay0]
    exact h1
  · refine decide_eq_true ?_
    simp only [PyData.depth, h2]
    decide
theorem eqv_nums : ∀ l : List Nat, PyData.eqvAll (numsD l) (numsD l) = true
  | [] => by simp [numsD, PyData.eqvAll]
  | x :: l => by
    show PyData.eqvAll (.int (x : Int) :: numsD l) (.int (x : Int) :: numsD l) = true
    simp only [PyData.eqvAll, PyData.eqv, eqv_nums l, Bool.and_true]
    simp
/-- the keys of a merge -/
theorem putK_keys {kvs : List (Key × V)} {k : Key} {v : V} (j : Key) : (∃ x, (j, x) ∈ putK kvs k v) ↔ (∃ x, (j, x) ∈ kvs) ∨ j = k := by
  unfold putK
  split
  · next h =>
    rw [List.any_eq_true] at h
    obtain ⟨q, hq, e⟩ := h
    have e : q.1 = k := of_decide_eq_true e
    constructor
    · rintro ⟨x, hx⟩
      obtain ⟨r, hr, e2⟩ := List.mem_map.mp hx
      split at e2
      · next z =>
        cases e2
        exact .inr z
      · cases e2
        exact .inl ⟨_, hr⟩
    · rintro (⟨x, hx⟩ | rfl)
      · by_cases z : j = k
        · exact ⟨v, List.mem_map.mpr ⟨(j, x), hx, by simp [z]⟩⟩
        · exact ⟨x, List.mem_map.mpr ⟨(j, x), hx, by simp [z]⟩⟩
      · exact ⟨v, List.mem_map.mpr ⟨q, hq, by simp [e]⟩⟩
  · constructor
    · rintro ⟨x, hx⟩
      rcases List.mem_append.mp hx with hx | hx
      · exact .inl ⟨x, hx⟩
      · rw [List.mem_singleton] at hx
        cases hx
        exact .inr rfl
    · rintro (⟨x, hx⟩ | rfl)
      · exact ⟨x, List.mem_append_left _ hx⟩
      · exact ⟨v, List.mem_append_right _ List.mem_cons_self⟩
theorem merge_keys (j : Key) : ∀ (more kvs : List (Key × V)), (∃ x, (j, x) ∈ mergeK kvs more) ↔ (∃ x, (j, x) ∈ kvs) ∨ ∃ x, (j, x) ∈ more
  | [], kvs => by simp [mergeK]
  | q :: more, kvs => by
    have e : mergeK kvs (q :: more) = mergeK (putK kvs q.1 q.2) more := rfl
    rw [e, merge_keys j more, putK_keys]
    constructor
    · rintro ((h | h) | ⟨x, hx⟩)
      · exact .inl h
      · exact .inr ⟨q.2, by rw [h]; exact List.mem_cons_self⟩
      · exact .inr ⟨x, List.mem_cons_of_mem _ hx⟩
    · rintro (h | ⟨x, hx⟩)
      · exact .inl (.inl h)
      · rcases List.mem_cons.mp hx with e2 | hx
        · exact .inl (.inr (by rw [← e2]))
        · exact .inr ⟨x, hx⟩
theorem val_some {kvs : List (Key × V)} {k : Key} : (valV kvs k).isSome = true ↔ ∃ x, (k, x) ∈ kvs := by
  unfold valV
  rw [Option.isSome_map, List.find?_isSome]
  constructor
  · rintro ⟨q, hq, e⟩
    have e : q.1 = k := by simpa using e
    exact ⟨q.2, by rw [← e]; exact hq⟩
  · rintro ⟨x, hx⟩
    exact ⟨_, hx, by simp⟩
end K33
set_option Elab.async false
set_option linter.all false
set_option maxRecDepth 100000
set_option maxHeartbeats 8000000
namespace K33
open PySem PySem.Spec PyProof.Rows L2 KB
theorem atL {xs : List V} {x : V} (h : xs[xs.length - 1]? = some x) : atI xs (-1) = some x := by
  have l : 0 < xs.length := by
    have := (List.getElem?_eq_some_iff.mp h).1
    omega
  unfold atI ixN
  rw [if_neg (by omega), if_pos (by omega)]
  have e : (-1 + (xs.length : Int)).toNat = xs.length - 1 := by omega
  simp only [e, Option.bind_some]
  exact h
theorem paired_fm {α : Type} {f : Nat → Option α} {R : α → V → Prop} : ∀ {is : List Nat} {ys : List V}, Paired (fun i y => ∃ d, f i = some d ∧ R d y) is ys → Paired R (is.filterMap f) ys
  | _, _, .nil => .nil
  | i :: is, _, .cons r t => by
    obtain ⟨d, e, h⟩ := r
    rw [List.filterMap_cons, e]
    exact .cons h (paired_fm t)
theorem sel_map {α : Type} (c : α → Bool) (l : List α) : (((List.range l.length).filter fun i => ((l[i]?).map c).getD false).filterMap fun i => l[i]?) = l.filter c := by
  induction l with
  | nil => rfl
  | cons x r ih =>
    rw [List.length_cons, List.range_succ_eq_map, List.filter_cons, List.filter_map]
    have e : ((fun i => (((x :: r)[i]?).map c).getD false) ∘ Nat.succ) = fun i => ((r[i]?).map c).getD false := rfl
    rw [e]
    have e2 : ∀ is : List Nat, ((is.map Nat.succ).filterMap fun i => (x :: r)[i]?) = is.filterMap fun i => r[i]? := fun is => by
      rw [List.filterMap_map]
      rfl
    by_cases h : c x = true
    · rw [if_pos (by simpa using h), List.filterMap_cons, e2, ih, List.filter_cons, if_pos h]
      rfl
    · rw [if_neg (by simpa using h), e2, ih, List.filter_cons, if_neg h]
theorem paired_selA {α : Type} {l : List α} {c : α → Bool} {R : α → V → Prop} {ys : List V} (h : Paired (fun i y => ∃ d, l[i]? = some d ∧ R d y) ((List.range l.length).filter fun i => ((l[i]?).map c).getD false) ys) : Paired R (l.filter c) ys := by
  have := paired_fm h
  rw [sel_map] at this
  exact this
theorem sel_all {α : Type} (f : α → V) : ∀ l : List α, ((List.range l.length).filterMap fun i => (l[i]?).map f) = l.map f := fun l => by
  induction l with
  | nil => rfl
  | cons x r ih =>
    rw [List.length_cons, List.range_succ_eq_map, List.filterMap_cons, List.filterMap_map]
    have e : ((fun i => ((x :: r)[i]?).map f) ∘ Nat.succ) = fun i => (r[i]?).map f := rfl
    rw [e, ih]
    rfl
theorem mergeP {R goal : Prop} (a : R → goal) (b : R) : goal := a b
theorem mergeG {J R : Hp → Prop} {goal : Prop} (a : (∀ G, J G → R G) → goal) (b : ∀ G, J G → R G) : goal := a b
theorem at0 {xs : List V} {x : V} (h : xs[0]? = some x) : atI xs 0 = some x := by
  have l : 0 < xs.length := (List.getElem?_eq_some_iff.mp h).1
  unfold atI ixN
  simp only [if_pos (Int.le_refl 0)]
  rw [if_pos (by simpa using l)]
  exact h
theorem sel_n (c : Nat → Bool) (l : List Nat) : ((List.range l.length).filterMap fun i => (l[i]?).bind fun p => if c p = true then some (V.int (p : Int)) else none) = numsV (l.filter c) := by
  induction l with
  | nil => rfl
  | cons x r ih =>
    rw [List.length_cons, List.range_succ_eq_map, List.filterMap_cons, List.filterMap_map, List.filter_cons]
    have e : ((fun i => ((x :: r)[i]?).bind fun p => if c p = true then some (V.int (p : Int)) else none) ∘ Nat.succ) = fun i => (r[i]?).bind fun p => if c p = true then some (V.int (p : Int)) else none := rfl
    rw [e, ih]
    by_cases h : c x = true
    · simp [h, numsV]
    · simp [h, numsV]
theorem sort_uniq {l ps : List Nat} (pm : l.Perm ps) (asc : ps.Pairwise (· < ·)) {ns : List Int} (h1 : ns.Perm (l.map fun x : Nat => (x : Int))) (h2 : ns.Pairwise (· ≤ ·)) : ns.map V.int = numsV ps := by
  have e : ns = ps.map fun x : Nat => (x : Int) := le_uniq (h1.trans (pm.map _)) h2 (List.pairwise_map.mpr (asc.imp fun h => by omega))
  rw [e, List.map_map]
  rfl
theorem mmV (l : List Nat) : (l.map fun x : Nat => (x : Int)).map V.int = numsV l := by
  rw [List.map_map]
  rfl
/-- the newest number of the lines up to N -/
def lastC (ls : List Ln) (N : Nat) : Nat := if N = 0 then (ls.head?.map (·.a)).getD 0 else ((ls[N - 1]?).map (·.d.n)).getD 0
def spLastC : Sp := fun vs H Q _ => ∃ (c : Addr) (ls : List Ln) (N : Nat), vs = [.ref c] ∧ ChAt H c ls ∧ ls.length ≤ 60 ∧ IsUp ls N ∧ N ≤ ls.length ∧ ∀ H', Same H H' → Q (.int (lastC ls N : Int)) H'
def spLinesT : Sp := fun vs H Q _ => ∃ (b c : Addr) (ks ps : List Nat) (m : Nat → Nat) (ls : List Ln) (N : Nat), vs = [.ref b, .ref c] ∧ MkAt H b ks m ∧ ks.Perm ps ∧ ps.Pairwise (· < ·) ∧ ks.length ≤ 40 ∧ ChAt H c ls ∧ Ch ls ∧ IsUp ls N ∧ N ≤ ls.length ∧ (∀ l ∈ ls.take N, ∀ p ∈ l.d.r, p ∈ ks) ∧
  ∀ T A B H', Same H H' → H T = none → H' T = some (.tup [.ref A, .ref B]) → H' A = some (.lst (numsV (ps.filter fun p => decide (m p ≤ lastC ls N)))) → H' B = some (.lst (numsV (ps.filter fun p => !decide (m p ≤ lastC ls N)))) → Q (.ref T) H'
/-- the number of the last committed line, ah if there is none -/
def newC (ls : List Ln) (N ah : Nat) : Nat := if N = 0 then ah else ((ls[N - 1]?).map (·.d.n)).getD 0
/-- what is still to be done of the deeds up to N -/
def dueC (ls : List Ln) (N : Nat) (m : Nat → Nat) : List Nat := (((ls.take N).map (·.d)).filter fun d => decide (m d.p < d.n)).map (·.n)
/-- whether stamps can be opened -/
def OkC (ls : List Ln) (N ah : Nat) (ks : List Nat) (m : Nat → Nat) : Prop := Rt ((ls.take N).map (·.d)) m ∧ ∀ p ∈ ks, m p ≤ newC ls N ah
def spOpened (C : Addr) : Sp := fun vs H Q E => ∃ (b c : Addr) (ks : List Nat) (m : Nat → Nat) (ls : List Ln) (N ah : Nat), vs = [.ref b, .ref c, .int (ah : Int)] ∧ MkAt H b ks m ∧ ks.length ≤ 40 ∧ ChAt H c ls ∧ Ch ls ∧ IsUp ls N ∧ N ≤ ls.length ∧ (∀ l ∈ ls.take N, ∀ p ∈ l.d.r, p ∈ ks) ∧ (∀ l, ls.head? = some l → l.a = ah) ∧
  (OkC ls N ah ks m → ∀ T L H', Same H H' → H T = none → H L = none → H' T = some (.tup [.int (newC ls N ah : Int), .ref L]) → H' L = some (.lst (numsV (dueC ls N m))) → Q (.ref T) H') ∧
  (¬ OkC ls N ah ks m → ∀ d H', Same H H' → H' d = some (.xd [("value", .ref b)]) → E (.ref C) (some d) H')
section
variable {P : Program} {w : World} {K : PySem.W.Frag} {mg : Str → Option Value} {base : Heap}
abbrev s_last_committed : Stmt := top 39
abbrev N_last_committed : List Str := ["lines", "done"]
theorem sc_last_committed : FnScope N_last_committed ["lines"] (defScope s_last_committed) := ⟨rfl, rfl, rfl, by decide +kernel, rfl, by decide +kernel, by decide +kernel⟩
theorem ok_last_committed {f : Addr} {fd : FuncData} (F : FnP K "last_committed" s_last_committed f fd) (Z : FreeS mg)
    {f_up_to_commit : Addr} {d_up_to_commit : FuncData} (g_up_to_commit : mg "up_to_commit" = some (.ref f_up_to_commit)) (F_up_to_commit : FnP K "up_to_commit" s_up_to_commit f_up_to_commit d_up_to_commit) (G_up_to_commit : FnOk P w K mg base CX0 1 f_up_to_commit d_up_to_commit ["chain"] spUpTo)
    {f_beginning : Addr} {d_beginning : FuncData} (g_beginning : mg "beginning" = some (.ref f_beginning)) (F_beginning : FnP K "beginning" s_beginning f_beginning d_beginning) (G_beginning : FnOk P w K mg base CX0 1 f_beginning d_beginning ["lines"] spBegin) :
    FnOk P w K mg base CX0 2 f fd ["lines"] spLastC := by
  have b_up_to_commit : Binds K d_up_to_commit ["chain"] [] := F_up_to_commit.bindsN fun _ _ _ _ _ _ us hl => match us, hl with | [_], _ => rfl
  have b_beginning : Binds K d_beginning ["lines"] [] := F_beginning.bindsN fun _ _ _ _ _ _ us hl => match us, hl with | [_], _ => rfl
  refine F.ok sc_last_committed (fun vs H Q E h => ?_) (fun cdv A outer s H vs Q E hr h => ?_)
  · obtain ⟨c, ls, N, rfl, _⟩ := h
    rfl
  · obtain ⟨c, ls, N, rfl, hc, l60, up, lN, k⟩ := h
    have sl : (3000 : Nat) ≤ sizeLine := by decide
    have nd := sc_last_committed.nd
    refine ⟨_, PSs.nox (pss_cons (ps_set (i := 1) nd rfl (Or.inl rfl) (pe_call G_up_to_commit (hr.mono (by decide)) rfl g_up_to_commit F_up_to_commit.kp b_up_to_commit .nil pass0 (pa_cons (pv 0) (pa_nil))))
      (pss_cons (ps_if (pt_not (pt_truth (pv 1) (fun _ => rfl))) (pss_one (ps_ret (pe_call G_beginning (hr.mono (by decide)) rfl g_beginning F_beginning.kp b_beginning .nil pass0 (pa_cons (pv 0) (pa_nil))))) (pss_nil))
      (pss_one (ps_ret (pe_ix ix_tup (pe_ix ix_list (pv 1) (pe_un un_neg (pe_int)) (fun _ _ => rfl)) (pe_int) (fun _ _ => rfl)))))), ?_⟩
    obtain ⟨xs, hcc, px⟩ := id hc
    have lx := paired_len px
    refine ⟨_, rfl, c, ls, xs, N, rfl, hcc, px, l60, up, fun q G1 s1 nq hq => ?_⟩
    have c1 := hc.same s1
    unfold lastC at k
    by_cases n0 : N = 0
    · rw [n0, List.take_zero] at hq
      rw [if_pos n0] at k
      exact ⟨_, rfl, false, .inl ⟨[], SqL.of hq, rfl⟩, iteT ⟨_, rfl, c, ls, rfl, c1, k _ s1⟩⟩
    · rw [if_neg n0] at k
      obtain ⟨l, el⟩ : ∃ l, ls[N - 1]? = some l := ⟨_, List.getElem?_eq_getElem (by omega)⟩
      rw [el] at k
      obtain ⟨x, ex, t, xd, rfl, ht, _⟩ := paired_get1 px el
      have ltk : (xs.take N).length = N := by
        rw [List.length_take]
        omega
      have ex2 : (xs.take N)[(xs.take N).length - 1]? = some (V.ref t) := by
        rw [ltk, List.getElem?_take, if_pos (by omega)]
        exact ex
      refine ⟨_, rfl, true, .inl ⟨_, SqL.of hq, ?_⟩, iteF ⟨_, rfl, _, rfl, q, _, -1, _, rfl, rfl, SqL.of hq, atL ex2, t, _, 0, _, rfl, rfl, SqT.of (s1 _ _ ht), rfl, k _ s1⟩⟩
      cases hz : xs.take N with
      | nil =>
        rw [hz] at ltk
        exact absurd ltk.symm n0
      | cons y ys => rfl
abbrev s_lines_told : Stmt := top 43
abbrev N_lines_told : List Str := ["stamps", "lines", "newest", "told", "page", "stamp"]
theorem sc_lines_told : FnScope N_lines_told ["stamps", "lines"] (defScope s_lines_told) := ⟨rfl, rfl, rfl, by decide +kernel, rfl, by decide +kernel, by decide +kernel⟩
theorem ok_lines_told {f : Addr} {fd : FuncData} (F : FnP K "lines_told" s_lines_told f fd) (Z : FreeS mg)
    {f_need_stamps_and_lines : Addr} {d_need_stamps_and_lines : FuncData} (g_need_stamps_and_lines : mg "need_stamps_and_lines" = some (.ref f_need_stamps_and_lines)) (F_need_stamps_and_lines : FnP K "need_stamps_and_lines" s_need_stamps_and_lines f_need_stamps_and_lines d_need_stamps_and_lines) (G_need_stamps_and_lines : FnOk P w K mg base CX0 7 f_need_stamps_and_lines d_need_stamps_and_lines ["stamps", "lines"] spNeedSL)
    {f_last_committed : Addr} {d_last_committed : FuncData} (g_last_committed : mg "last_committed" = some (.ref f_last_committed)) (F_last_committed : FnP K "last_committed" s_last_committed f_last_committed d_last_committed) (G_last_committed : FnOk P w K mg base CX0 2 f_last_committed d_last_committed ["lines"] spLastC) :
    FnOk P w K mg base CX0 8 f fd ["stamps", "lines"] spLinesT := by
  have b_need_stamps_and_lines : Binds K d_need_stamps_and_lines ["stamps", "lines"] [] := F_need_stamps_and_lines.bindsN fun _ _ _ _ _ _ us hl => match us, hl with | [_, _], _ => rfl
  have b_last_committed : Binds K d_last_committed ["lines"] [] := F_last_committed.bindsN fun _ _ _ _ _ _ us hl => match us, hl with | [_], _ => rfl
  refine F.ok sc_lines_told (fun vs H Q E h => ?_) (fun cdv A outer s H vs Q E hr h => ?_)
  · obtain ⟨b, c, ks, ps, m, ls, N, rfl, _⟩ := h
    rfl
  · obtain ⟨b, c, ks, ps, m, ls, N, rfl, hb, pm, asc, k40, hc, cc, up, lN, sub, k⟩ := h
    have sl : (3000 : Nat) ≤ sizeLine := by decide
    have nd := sc_lines_told.nd
    refine ⟨_, PSs.nox (pss_cons (ps_expr (pe_call G_need_stamps_and_lines (hr.mono (by decide)) rfl g_need_stamps_and_lines F_need_stamps_and_lines.kp b_need_stamps_and_lines .nil pass0 (pa_cons (pv 0) (pa_cons (pv 1) (pa_nil)))))
      (pss_cons (ps_set (i := 2) nd rfl (Or.inr rfl) (pe_call G_last_committed (hr.mono (by decide)) rfl g_last_committed F_last_committed.kp b_last_committed .nil pass0 (pa_cons (pv 1) (pa_nil))))
      (pss_cons (ps_set (i := 3) nd rfl (Or.inr rfl) (pe_lock (pe_lc (own := [("page", 4), ("stamp", 5)]) (g := gTup K 2 (gCons (gName 4) (gCons (gName 5) (gNil)))) (tt := tTest (tOp (rI0 fun i j => .bl (decide (i ≤ j))) (tVar 5) (tVar 2))) (te := tVar 4) (by rfl) nd (pi_items (pv 0))
          (blkOk_by (own := [("page", 4), ("stamp", 5)]) (N := N_lines_told) (sc := defScope s_lines_told) (by decide +kernel)) (fun _ _ _ _ _ => pg_tup rfl (pgs_cons (pg_name (i := 4) nd rfl (Or.inl rfl)) (pgs_cons (pg_name (i := 5) nd rfl (Or.inl rfl)) (pgs_nil)))) (fun _ _ _ _ _ => pts_one (pt_cmpR op_le (pv 5) (pv 2) (nomark _)))
          (fun _ _ _ _ _ => pv 4))))
      (pss_one (ps_ret (pe_tup (pa_cons (pe_callB (cr_sorted) (by rfl) Z.sorted (by decide +kernel) (pa_cons (pv 3) (pa_nil))) (pa_cons (pe_callB (cr_sorted) (by rfl) Z.sorted (by decide +kernel) (pa_cons (pe_lock (pe_lc (own := [("page", 4)]) (g := gName 4) (tt := tTest (tOp (rIn K true) (tVar 4) (tVar 3))) (te := tVar 4) (by rfl) nd (pi_keys (pv 0))
          (blkOk_by (own := [("page", 4)]) (N := N_lines_told) (sc := defScope s_lines_told) (by decide +kernel)) (fun _ _ _ _ _ => pg_name (i := 4) nd rfl (Or.inl rfl)) (fun _ _ _ _ _ => pts_one (pt_cmpR op_notIn_seq (pv 4) (pv 3) (by rfl)))
          (fun _ _ _ _ _ => pv 4))) (pa_nil))) (pa_nil))))))))), ?_⟩
    have at_ : ∀ i, (hi : i < ks.length) → (mV ks m)[i]? = some (ky ks[i], .int (m ks[i] : Int)) := fun i hi => by
      unfold mV dV
      rw [List.getElem?_map, List.getElem?_eq_getElem hi]
      rfl
    have ldk : (mV ks m).length = ks.length := dV_len _ _
    refine ⟨_, rfl, _, rfl, b, c, ks, m, ls, N, rfl, hb, by omega, hc, cc, up, sub, fun G1 s1 => ?_⟩
    refine ⟨_, rfl, c, ls, N, rfl, hc.same s1, cc.len, up, lN, fun G2 s2 => ?_⟩
    have hb2 := (s1.trans s2) _ _ hb
    generalize lastC ls N = nw at *
    refine ⟨b, _, hb2, trivial, fun od => ⟨_, rfl, b, od, _, rfl, upd_same, fun D hD => ?_⟩⟩
    have nDb : D ≠ b := fun z => by
      rw [z, upd_same] at hD
      cases hD
    refine lc_sel (n := ks.length) (by have := walk_items (d := b) (o := od) (kvs := mV ks m); rw [ldk] at this; exact this) (fun i => (ks[i]?).bind fun p => if decide (m p ≤ nw) = true then some (V.int (p : Int)) else none) (by omega) hD (fun G s => s _ _ upd_same) ?_ ?_
    · rintro i v H5 H6 Qy Qn hi s6 ⟨T, x1, x2, rfl, nT, rfl, g1, g2⟩ ky_ kn
      dsimp only at g1 g2
      rw [at_ i hi] at g1 g2
      cases g1
      cases g2
      rw [List.getElem?_eq_getElem hi, Option.bind_some] at ky_ kn
      have sT := Same.updf (o := .tup [kV (ky ks[i]), V.int (m ks[i] : Int)]) nT
      refine ⟨T, [_, _], rfl, .inl (.inl upd_same), rfl, _, [_], rfl, _, [], rfl, rfl, ?_⟩
      refine ⟨rfl, _, rfl, _, rfl, _, _, rfl, rfl, _, rfl, ?_⟩
      by_cases c1 : m ks[i] ≤ nw
      · rw [decide_eq_true (show (m ks[i] : Int) ≤ (nw : Int) by omega)]
        rw [decide_eq_true c1] at ky_
        exact iteT ⟨_, rfl, ky_ _ _ sT rfl⟩
      · rw [decide_eq_false (show ¬ (m ks[i] : Int) ≤ (nw : Int) by omega)]
        rw [decide_eq_false c1] at kn
        exact iteF (kn _ sT rfl)
    · intro H3 s3 hR
      rw [sel_n] at hR
      have hR2 : (upd H3 b (.dK (mV ks m))) D = some (.lst (numsV (ks.filter fun p => decide (m p ≤ nw)))) := (upd_ne nDb).trans hR
      have u1 := unlock hb2 s3
      refine ⟨s3 _ _ upd_same, ?_⟩
      clear hR s3
      generalize upd H3 b (.dK (mV ks m)) = U1 at *
      have hb3 := u1 _ _ hb2
      have lf : (ks.filter fun p => decide (m p ≤ nw)).length ≤ 40 := Nat.le_trans (List.length_filter_le _ _) k40
      have lfv : ∀ l : List Nat, (numsV l).length = l.length := fun l => List.length_map _
      refine ⟨_, rfl, D, (ks.filter fun p => decide (m p ≤ nw)).map fun x : Nat => (x : Int), rfl, SqL.of (by rw [mmV]; exact hR2), by rw [List.length_map]; omega, fun ns A hpm hso hA => ?_⟩
      rw [sort_uniq (pm.filter _) (asc.filter _) hpm hso]
      have s4 := Same.updf (o := .lst (numsV (ps.filter fun p => decide (m p ≤ nw)))) hA
      have hA' := upd_same (H := U1) (a := A) (o := .lst (numsV (ps.filter fun p => decide (m p ≤ nw))))
      have hD4 := s4 _ _ hR2
      have hb4 := s4 _ _ hb3
      have nHA : H A = none := none_back ((s1.trans s2).trans u1) hA
      have sH4 := ((s1.trans s2).trans u1).trans s4
      generalize upd U1 A (.lst (numsV (ps.filter fun p => decide (m p ≤ nw)))) = U2 at *
      refine ⟨b, _, hb4, trivial, fun od2 => ⟨_, rfl, b, od2, rfl, .inl ⟨_, upd_same, fun D2 hD2 => ?_⟩⟩⟩
      have nD2b : D2 ≠ b := fun z => by
        rw [z, upd_same] at hD2
        cases hD2
      have nDb2 : D ≠ b := fun z => by
        rw [z, hb4] at hD4
        cases hD4
      have hDf : upd U2 b (.frz od2 (.dK (mV ks m))) D = some (.lst (numsV (ks.filter fun p => decide (m p ≤ nw)))) := (upd_ne nDb2).trans hD4
      refine lc_sel (n := ks.length) (by have := walk_keys (d := b) (o := od2) (kvs := mV ks m); rw [ldk] at this; exact this) (fun i => (ks[i]?).bind fun p => if (!decide (m p ≤ nw)) = true then some (V.int (p : Int)) else none) (by omega) hD2 (fun G s => s _ _ upd_same) ?_ ?_
      · rintro i v H5 H6 Qy Qn hi s6 ⟨rfl, k', v', ek, rfl⟩ ky_ kn
        rw [at_ i hi] at ek
        cases ek
        rw [List.getElem?_eq_getElem hi, Option.bind_some] at ky_ kn
        refine ⟨rfl, _, rfl, _, rfl, D, _, rfl, .inl (SqL.of (s6 _ _ hDf)), rfl, flat_nums2 _, _, rfl, ?_⟩
        have e0 : inV (kV (ky ks[i])) (numsV (List.filter (fun p => decide (m p ≤ nw)) ks)) = decide (m ks[i] ≤ nw) := by
          have e1 : inV (kV (ky ks[i])) (numsV (List.filter (fun p => decide (m p ≤ nw)) ks)) = decide (ks[i] ∈ List.filter (fun p => decide (m p ≤ nw)) ks) := inV_nums2 _ _
          rw [e1, Bool.eq_iff_iff, decide_eq_true_eq, decide_eq_true_eq, List.mem_filter]
          exact ⟨fun z => of_decide_eq_true z.2, fun z => ⟨List.getElem_mem hi, decide_eq_true z⟩⟩
        show if (!inV (kV (ky ks[i])) (numsV (List.filter (fun p => decide (m p ≤ nw)) ks))) = true then _ else _
        rw [e0]
        cases c1 : !decide (m ks[i] ≤ nw) with
        | true =>
          rw [c1] at ky_
          exact iteT ⟨_, rfl, ky_ _ _ (Same.refl _) rfl⟩
        | false =>
          rw [c1] at kn
          exact iteF (kn _ (Same.refl _) rfl)
      · intro H7 s7 hR7
        rw [sel_n] at hR7
        have hR8 : (upd H7 b (.dK (mV ks m))) D2 = some (.lst (numsV (ks.filter fun p => !decide (m p ≤ nw)))) := (upd_ne nD2b).trans hR7
        have u2 := unlock hb4 s7
        refine ⟨s7 _ _ upd_same, ?_⟩
        clear hR7 s7
        generalize upd H7 b (.dK (mV ks m)) = U3 at *
        have lf2 : (ks.filter fun p => !decide (m p ≤ nw)).length ≤ 40 := Nat.le_trans (List.length_filter_le _ _) k40
        refine ⟨D2, (ks.filter fun p => !decide (m p ≤ nw)).map fun x : Nat => (x : Int), rfl, SqL.of (by rw [mmV]; exact hR8), by rw [List.length_map]; omega, fun ns2 B hpm2 hso2 hB => ?_⟩
        rw [sort_uniq (pm.filter _) (asc.filter _) hpm2 hso2]
        have s5 := Same.updf (o := .lst (numsV (ps.filter fun p => !decide (m p ≤ nw)))) hB
        have hB' := upd_same (H := U3) (a := B) (o := .lst (numsV (ps.filter fun p => !decide (m p ≤ nw))))
        refine ⟨by show 2 ≤ sizeLine; omega, fun T hT => ?_⟩
        have s6 := Same.updf (o := .tup [V.ref A, V.ref B]) hT
        exact k T A B _ (((sH4.trans u2).trans s5).trans s6) (none_back ((sH4.trans u2).trans s5) hT) upd_same (s6 _ _ (s5 _ _ (u2 _ _ hA'))) (s6 _ _ hB')
abbrev s_opened : Stmt := top 42
abbrev N_opened : List Str := ["stamps", "lines", "ahead", "newest", "lacking", "deed", "page", "stamp"]
theorem sc_opened : FnScope N_opened ["stamps", "lines", "ahead"] (defScope s_opened) := ⟨rfl, rfl, rfl, by decide +kernel, rfl, by decide +kernel, by decide +kernel⟩
theorem ok_opened {f : Addr} {fd : FuncData} (F : FnP K "opened" s_opened f fd) (Z : FreeS mg)
    {f_need_stamps_and_lines : Addr} {d_need_stamps_and_lines : FuncData} (g_need_stamps_and_lines : mg "need_stamps_and_lines" = some (.ref f_need_stamps_and_lines)) (F_need_stamps_and_lines : FnP K "need_stamps_and_lines" s_need_stamps_and_lines f_need_stamps_and_lines d_need_stamps_and_lines) (G_need_stamps_and_lines : FnOk P w K mg base CX0 7 f_need_stamps_and_lines d_need_stamps_and_lines ["stamps", "lines"] spNeedSL)
    {f_need_count : Addr} {d_need_count : FuncData} (g_need_count : mg "need_count" = some (.ref f_need_count)) (F_need_count : FnP K "need_count" s_need_count f_need_count d_need_count) (G_need_count : FnOk P w K mg base CX0 3 f_need_count d_need_count ["number"] spNeedC)
    {f_up_to_commit : Addr} {d_up_to_commit : FuncData} (g_up_to_commit : mg "up_to_commit" = some (.ref f_up_to_commit)) (F_up_to_commit : FnP K "up_to_commit" s_up_to_commit f_up_to_commit d_up_to_commit) (G_up_to_commit : FnOk P w K mg base CX0 1 f_up_to_commit d_up_to_commit ["chain"] spUpTo)
    {f_last_committed : Addr} {d_last_committed : FuncData} (g_last_committed : mg "last_committed" = some (.ref f_last_committed)) (F_last_committed : FnP K "last_committed" s_last_committed f_last_committed d_last_committed) (G_last_committed : FnOk P w K mg base CX0 2 f_last_committed d_last_committed ["lines"] spLastC)
    {f_deeds_of : Addr} {d_deeds_of : FuncData} (g_deeds_of : mg "deeds_of" = some (.ref f_deeds_of)) (F_deeds_of : FnP K "deeds_of" s_deeds_of f_deeds_of d_deeds_of) (G_deeds_of : FnOk P w K mg base CX0 2 f_deeds_of d_deeds_of ["lines"] spDeedsOf) {C fI : Addr} {fdI : FuncData} (T : ErrC K C fI) (F1 : FnOk P w K mg base CX0 1 fI fdI ["self", "value"] (spErr C)) (EB : ErrB K fdI) (gC : mg "Refused" = some (.ref C)) :
    FnOk P w K mg base (L2.CX P w) 8 f fd ["stamps", "lines", "ahead"] (spOpened C) := by
  have b_need_stamps_and_lines : Binds K d_need_stamps_and_lines ["stamps", "lines"] [] := F_need_stamps_and_lines.bindsN fun _ _ _ _ _ _ us hl => match us, hl with | [_, _], _ => rfl
  have b_need_count : Binds K d_need_count ["number"] [] := F_need_count.bindsN fun _ _ _ _ _ _ us hl => match us, hl with | [_], _ => rfl
  have b_up_to_commit : Binds K d_up_to_commit ["chain"] [] := F_up_to_commit.bindsN fun _ _ _ _ _ _ us hl => match us, hl with | [_], _ => rfl
  have b_last_committed : Binds K d_last_committed ["lines"] [] := F_last_committed.bindsN fun _ _ _ _ _ _ us hl => match us, hl with | [_], _ => rfl
  have b_deeds_of : Binds K d_deeds_of ["lines"] [] := F_deeds_of.bindsN fun _ _ _ _ _ _ us hl => match us, hl with | [_], _ => rfl
  refine F.ok sc_opened (fun vs H Q E h => ?_) (fun cdv A outer s H vs Q E hr h => ?_)
  · obtain ⟨b, c, ks, m, ls, N, ah, rfl, _⟩ := h
    rfl
  · obtain ⟨b, c, ks, m, ls, N, ah, rfl, hb, k40, hc, cc, up, lN, sub, hd, kY, kN⟩ := h
    have sl : (3000 : Nat) ≤ sizeLine := by decide
    have hu65 : _ + 65 < cLine := Nat.lt_of_le_of_lt (Nat.add_le_add_left (by decide : 65 ≤ 200) _) (Nat.lt_of_le_of_lt (Nat.add_le_add_right (Nat.le_add_right _ _) _) hr.un)
    have hu := Nat.lt_of_le_of_lt (Nat.add_le_add_left (by decide : 1 ≤ 65) _) hu65
    have nd := sc_opened.nd
    refine ⟨_, id (pss_cons (ps_expr (pe_call G_need_stamps_and_lines (hr.mono (by decide)) rfl g_need_stamps_and_lines F_need_stamps_and_lines.kp b_need_stamps_and_lines .nil pass0 (pa_cons (pv 0) (pa_cons (pv 1) (pa_nil)))))
      (pss_cons (ps_expr (pe_call G_need_count (hr.mono (by decide)) rfl g_need_count F_need_count.kp b_need_count .nil pass0 (pa_cons (pv 2) (pa_nil))))
      (pss_cons (ps_if (PW.pt (pw_and (pt_truth (pv 1) (fun _ => rfl)) (pw_and1 (pt_cmpR op_ne (pe_ix ix_tup (pe_ix ix_list (pv 1) (pe_int) (fun _ _ => rfl)) (pe_int) (fun _ _ => rfl)) (pv 2) (nomark _))))) (pss_one (ps_dead)) (pss_nil))
      (pss_cons (ps_set (i := 3) nd rfl (Or.inr rfl) (pv 2))
      (pss_cons (ps_if (pt_truth (pe_call G_up_to_commit (hr.mono (by decide)) rfl g_up_to_commit F_up_to_commit.kp b_up_to_commit .nil pass0 (pa_cons (pv 1) pa_nil)) (fun _ => rfl)) (pss_one (ps_set (i := 3) nd rfl (Or.inr rfl) (pe_call G_last_committed (hr.mono (by decide)) rfl g_last_committed F_last_committed.kp b_last_committed .nil pass0 (pa_cons (pv 1) (pa_nil))))) (pss_nil))
      (pss_cons (ps_setLc (i := 4) (own := [("deed", 5)]) (g := gName 5) (tt := tTest (tOp (rI0 fun i j => .bl (decide (i < j))) (tDGet (tVar 0) (tOp (rIxT K) (tVar 5) (tC (.int 1)))) (tOp (rIxT K) (tVar 5) (tC (.int 0))))) (te := tVar 5) (by rfl) nd rfl rfl rfl (pi_list (pe_call G_deeds_of (hr.mono (by decide)) rfl g_deeds_of F_deeds_of.kp b_deeds_of .nil pass0 (pa_cons (pv 1) (pa_nil))))
          (blkOk_by (own := [("deed", 5)]) (N := N_opened) (sc := defScope s_opened) (by decide +kernel)) (fun _ _ _ _ _ => pg_name (i := 5) nd rfl (Or.inl rfl)) (fun _ _ _ _ _ => pts_one (pt_cmpR op_lt (pe_dget hu (pv 0) (pe_ix ix_tup (pv 5) (pe_int) (fun _ _ => rfl)) (fun _ _ => rfl)) (pe_ix ix_tup (pv 5) (pe_int) (fun _ _ => rfl)) (nomark _)))
          (fun _ _ _ _ _ => pv 5))
      (pss_cons (ps_if (pt_not (pt_val (pe_callB (cr_all rfl) (by rfl) Z.all (by decide +kernel) (pa_cons (pe_lc2 (own := [("deed", 5), ("page", 6)]) (vs1 := [6]) (g := gName 5) (g1 := gName 6) (tt := tYes) (tt1 := tYes) (te := tOp (rI0 fun i j => .bl (decide (i < j))) (tDGet (tVar 0) (tVar 6)) (tOp (rIxT K) (tVar 5) (tC (.int 0)))) (wi1 := iList K (tOp (rIxT K) (tVar 5) (tC (.int 2)))) rfl nd (pi_list (pv 4)) (blkOk_by (own := [("deed", 5), ("page", 6)]) (N := N_opened) (sc := defScope s_opened) (by decide +kernel)) (by decide) (fun _ _ _ _ _ => pg_name (i := 5) nd rfl (Or.inl rfl)) (fun _ _ _ _ _ => pts_nil) (fun _ _ _ _ _ => pi_list (pe_ix ix_tup (pv 5) (pe_int) (fun _ _ => rfl))) (fun _ _ _ _ _ => pg_name (i := 6) nd rfl (Or.inl rfl)) (fun _ _ _ _ _ => pts_nil) (fun _ _ _ _ _ => pe_cmpR op_lt (pe_dget hu (pv 0) (pv 6) (fun _ _ => rfl)) (pe_ix ix_tup (pv 5) (pe_int) (fun _ _ => rfl)) (nomark _))) (pa_nil))))) (pss_one (ps_raise rfl (takes_of rfl rfl rfl rfl) (pmk_err T F1 EB (hr.mono (by decide)) gC (pv 0)))) (pss_nil))
      (pss_cons (ps_if (pt_not (pt_val (pe_callB (cr_all rfl) (by rfl) Z.all (by decide +kernel) (pa_cons (pe_lock (pe_lc (own := [("stamp", 7)]) (g := gName 7) (tt := tYes) (te := tOp (rI0 fun i j => .bl (decide (i ≤ j))) (tVar 7) (tVar 3)) (by rfl) nd (pi_values (pv 0))
          (blkOk_by (own := [("stamp", 7)]) (N := N_opened) (sc := defScope s_opened) (by decide +kernel)) (fun _ _ _ _ _ => pg_name (i := 7) nd rfl (Or.inl rfl)) (fun _ _ _ _ _ => pts_nil)
          (fun _ _ _ _ _ => pe_cmpR op_le (pv 7) (pv 3) (nomark _)))) (pa_nil))))) (pss_one (ps_raise rfl (takes_of rfl rfl rfl rfl) (pmk_err T F1 EB (hr.mono (by decide)) gC (pv 0)))) (pss_nil))
      (pss_one (ps_ret (pe_tup (pa_cons (pv 3) (pa_cons (pe_lc (own := [("deed", 5)]) (g := gName 5) (tt := tYes) (te := tOp (rIxT K) (tVar 5) (tC (.int 0))) (by rfl) nd (pi_list (pv 4))
          (blkOk_by (own := [("deed", 5)]) (N := N_opened) (sc := defScope s_opened) (by decide +kernel)) (fun _ _ _ _ _ => pg_name (i := 5) nd rfl (Or.inl rfl)) (fun _ _ _ _ _ => pts_nil)
          (fun _ _ _ _ _ => pe_ix ix_tup (pv 5) (pe_int) (fun _ _ => rfl))) (pa_nil)))))))))))))), ?_⟩
    obtain ⟨ds, eds⟩ : ∃ ds, ds = (ls.take N).map (·.d) := ⟨_, rfl⟩
    unfold dueC OkC at kY
    unfold OkC at kN
    rw [← eds] at kY kN
    have l60 := cc.len
    have dl : ds.length ≤ 60 := by
      rw [eds, List.length_map, List.length_take]
      omega
    have dok : ∀ d ∈ ds, d.Ok ∧ d.r.length ≤ 6 ∧ ∀ p ∈ d.r, p ∈ ks := fun d hd => by
      rw [eds] at hd
      obtain ⟨l, ml, rfl⟩ := List.mem_map.mp hd
      have o := cc.ok l (List.mem_of_mem_take ml)
      exact ⟨o.fit.ok, o.fit.l6, sub l ml⟩
    obtain ⟨nw, enw⟩ : ∃ nw, nw = newC ls N ah := ⟨_, rfl⟩
    rw [← enw] at kY kN
    refine ⟨_, rfl, _, rfl, b, c, ks, m, ls, N, rfl, hb, by omega, hc, cc, up, sub, fun G1 s1 => ?_⟩
    refine ⟨_, rfl, ah, rfl, ?_⟩
    have hc1 := hc.same s1
    apply mergeP
    · intro rest
      obtain ⟨xs, hcx, px⟩ := id hc1
      cases px with
      | nil => exact ⟨_, rfl, false, .inl ⟨[], SqL.of hcx, rfl⟩, iteF (iteF rest)⟩
      | @cons l x ls' xs' r px' =>
        obtain ⟨t, xd, rfl, ht, _⟩ := r
        refine ⟨_, rfl, true, .inl ⟨_, SqL.of hcx, rfl⟩, iteT ⟨_, rfl, c, _, 0, _, rfl, rfl, SqL.of hcx, at0 rfl, t, _, 1, _, rfl, rfl, SqT.of ht, rfl, _, rfl, rfl, _, rfl, ?_⟩⟩
        rw [hd l rfl]
        show if (!decide (V.int (ah : Int) = V.int (ah : Int))) = true then _ else _
        rw [decide_eq_true rfl]
        exact iteF rest
    refine ⟨_, rfl, ?_⟩
    apply mergeG (J := fun G => Same H G)
    · intro rest
      obtain ⟨xs, hcx, px⟩ := id hc1
      have lx := paired_len px
      refine ⟨_, rfl, c, ls, xs, N, rfl, hcx, px, l60, up, fun q G2 s2 nq hq => ?_⟩
      by_cases n0 : N = 0
      rotate_left
      · refine ⟨true, .inl ⟨_, SqL.of hq, ?_⟩, iteT ⟨_, rfl, c, ls, N, rfl, hc1.same s2, l60, up, lN, fun G3 s3 => ?_⟩⟩
        · have ltk : (xs.take N).length = N := by
            rw [List.length_take]
            omega
          cases hz : xs.take N with
          | nil =>
            rw [hz] at ltk
            exact absurd ltk.symm n0
          | cons y ys => rfl
        · have e0 : lastC ls N = nw := by rw [enw]; unfold newC lastC; rw [if_neg n0, if_neg n0]
          rw [e0]
          exact rest _ ((s1.trans s2).trans s3)
      · rw [n0, List.take_zero] at hq
        have e0 : nw = ah := by rw [enw]; unfold newC; rw [if_pos n0]
        have r2 := rest _ (s1.trans s2)
        rw [e0] at r2
        exact ⟨false, .inl ⟨[], SqL.of hq, rfl⟩, iteF r2⟩
    clear s1 hc1
    intro G1 s1
    have hc1 := hc.same s1
    refine ⟨_, rfl, c, ls, N, rfl, hc1, l60, up, fun q G2 s2 nq hL => ?_⟩
    rw [← eds] at hL
    obtain ⟨xs, hq, lx, hx⟩ := id hL
    refine ⟨q, rfl, ⟨_, SqL.of hq⟩, fun D hD => ?_⟩
    have s12 := s1.trans s2
    have dg : ∀ {G : Hp} {p : Nat}, Same H G → p ∈ ks → DGet G b (.int (p : Int)) (some (.int (m p : Int))) := fun {G p} s hp => by
      have := DGet.k (k := ky p) (s _ _ hb)
      rw [mV_val hp] at this
      exact this
    refine lc_rel (walk_list (K := K) (a := q) (xs := xs)) (fun i => ((ds[i]?).map fun d => decide (m d.p < d.n)).getD false) (fun i y G => ∃ d, ds[i]? = some d ∧ DeedAt G y d) (fun i y G G' s ⟨d, e, h⟩ => ⟨d, e, h.same s⟩) (by omega) hD (fun G s => SqL.of (s _ _ hq)) ?_ ?_
    · rintro i y G3 G4 Qy Qn hi s3 ⟨acc, hacc⟩ ⟨rfl, hv⟩ ky_ kn_
      have li : i < ds.length := by omega
      have hd : ds[i]? = some ds[i] := List.getElem?_eq_getElem li
      have md := List.getElem_mem li
      rw [hd] at ky_ kn_
      have hy := (hx i y _ hv hd)
      obtain ⟨t, rd, tw, rfl, ht, _, _⟩ := hy.same s3
      refine ⟨rfl, _, rfl, _, rfl, t, _, 1, _, rfl, rfl, SqT.of ht, rfl, b, _, rfl, dg (s12.trans s3) ((dok _ md).2.2 _ (dok _ md).1.own), _, rfl, t, _, 0, _, rfl, rfl, SqT.of ht, rfl, _, _, rfl, rfl, _, rfl, ?_⟩
      by_cases c1 : m ds[i].p < ds[i].n
      · rw [decide_eq_true (show (m ds[i].p : Int) < (ds[i].n : Int) by omega)]
        refine iteT ⟨_, rfl, ky_ _ _ (decide_eq_true c1) (Same.refl _) ⟨ds[i], rfl, ?_⟩⟩
        exact hy.same fun a o e => by
          rw [off_at (ne_of_none e hD)]
          exact s3 _ _ e
      · rw [decide_eq_false (show ¬ (m ds[i].p : Int) < (ds[i].n : Int) by omega)]
        exact iteF (kn_ _ (decide_eq_false c1) (Same.refl _))
    · rintro G3 ys s3 hys py
      rw [lx] at py
      have pl := paired_selA (c := fun d : Dd => decide (m d.p < d.n)) py
      obtain ⟨lk, elk⟩ : ∃ lk, lk = ds.filter fun d => decide (m d.p < d.n) := ⟨_, rfl⟩
      rw [← elk] at pl kY
      have ll : lk.length ≤ 60 := by
        rw [elk]
        exact Nat.le_trans (List.length_filter_le _ _) dl
      have lly := paired_len pl
      have lkd : ∀ d ∈ lk, d ∈ ds ∧ m d.p < d.n := fun d hd => by
        rw [elk] at hd
        obtain ⟨h1, h2⟩ := List.mem_filter.mp hd
        exact ⟨h1, of_decide_eq_true h2⟩
      have s13 := s12.trans s3
      have hL3 : ∀ (i : Nat) (x : V), ys[i]? = some x → ∃ d, lk[i]? = some d ∧ DeedAt G3 x d := fun i x e => by
        obtain ⟨d, e2, h⟩ := paired_get2 pl e
        exact ⟨d, e2, h.same (off_le _ _)⟩
      have hb3 := s13 _ _ hb
      have nHD : H D = none := none_back s12 hD
      clear hL hx hq py pl hD
      refine ⟨_, rfl, D, rfl, ⟨_, SqL.of hys⟩, fun D3 hD3 => ?_⟩
      refine cl_walk (walk_list (K := K) (a := D) (xs := ys)) (fun i G => Same G3 G ∧ ∃ bs : List Bool, G D3 = some (.lst (bs.map V.bl)) ∧ bs.length ≤ 6 * i ∧ (bs.all id = true ↔ ∀ d ∈ lk.take i, ∀ p ∈ d.r, m p < d.n)) ⟨Same.updf hD3, [], upd_same, Nat.le_refl _, ⟨fun _ d hd => (by rw [List.take_zero] at hd; cases hd), fun _ => rfl⟩⟩ (fun i G _ hh => SqL.of (hh.1 _ _ hys)) ?_ ?_
      · rintro i x G7 G8 hi ⟨s8, bs, hbs, lbs, ab⟩ ⟨rfl, hv⟩
        have li : i < lk.length := by omega
        have hdi : lk[i]? = some lk[i] := List.getElem?_eq_getElem li
        obtain ⟨d', e', hd'⟩ := hL3 i x hv
        rw [hdi] at e'
        cases e'
        obtain ⟨t, rd, tw, rfl, ht3, hr3, _⟩ := hd'
        have ht := s8 _ _ ht3
        have hr1 := s8 _ _ hr3
        obtain ⟨mds, _⟩ := lkd _ (List.getElem_mem li)
        obtain ⟨okd, l6, ink⟩ := dok _ mds
        have lr : (numsV lk[i].r).length = lk[i].r.length := List.length_map _
        have tk1 : lk.take (i + 1) = lk.take i ++ [lk[i]] := by
          rw [List.take_succ, hdi]
          rfl
        refine ⟨rfl, ?_⟩
        refine ⟨_, rfl, t, _, 2, _, rfl, rfl, SqT.of ht, rfl, rd, rfl, ⟨_, SqL.of hr1⟩, ?_⟩
        refine cl_walk (walk_list (K := K) (a := rd) (xs := numsV lk[i].r)) (fun j G => Same G3 G ∧ G rd = some (.lst (numsV lk[i].r)) ∧ ∃ bs : List Bool, G D3 = some (.lst (bs.map V.bl)) ∧ bs.length ≤ 6 * i + j ∧ (bs.all id = true ↔ (∀ d ∈ lk.take i, ∀ p ∈ d.r, m p < d.n) ∧ ∀ p ∈ lk[i].r.take j, m p < lk[i].n)) ⟨s8, hr1, bs, hbs, by omega, ⟨fun z => ⟨ab.mp z, fun p hp => (by rw [List.take_zero] at hp; cases hp)⟩, fun z => ab.mpr z.1⟩⟩ (fun j G _ hh => SqL.of hh.2.1) ?_ ?_
        · rintro j y G9 G10 hj ⟨s10, hr10, bs', hbs', lbs', ab'⟩ ⟨rfl, hy⟩
          have lj : j < lk[i].r.length := by omega
          unfold numsV at hy
          rw [List.getElem?_map, List.getElem?_eq_getElem lj] at hy
          obtain rfl := Option.some.inj hy
          have nrd : rd ≠ D3 := fun z => by
            rw [z, hbs'] at hr10
            have h2 := HO.lst.inj (Option.some.inj hr10)
            have m1 : V.int (lk[i].r[j] : Int) ∈ numsV lk[i].r := List.mem_map.mpr ⟨_, List.getElem_mem lj, rfl⟩
            rw [← h2] at m1
            obtain ⟨_, _, e⟩ := List.mem_map.mp m1
            cases e
          have tk2 : lk[i].r.take (j + 1) = lk[i].r.take j ++ [lk[i].r[j]] := by
            rw [List.take_succ, List.getElem?_eq_getElem lj]
            rfl
          refine ⟨rfl, _, rfl, _, rfl, b, _, rfl, dg (s13.trans s10) (ink _ (List.getElem_mem lj)), _, rfl, t, _, 0, _, rfl, rfl, SqT.of (s10 _ _ ht3), rfl, _, _, rfl, rfl, bs'.map V.bl, hbs', by rw [List.length_map]; omega, ?_⟩
          refine ⟨fun c' o e => ?_, (upd_ne nrd).trans hr10, bs' ++ [decide (m lk[i].r[j] < lk[i].n)], ?_, by rw [List.length_append]; show _ + 1 ≤ _; omega, ?_⟩
          · rw [upd_ne (ne_of_none e hD3)]
            exact s10 _ _ e
          · rw [upd_same, List.map_append]
            have e1 : decide ((m lk[i].r[j] : Int) < (lk[i].n : Int)) = decide (m lk[i].r[j] < lk[i].n) := by
              rw [Bool.eq_iff_iff, decide_eq_true_eq, decide_eq_true_eq]
              omega
            show some (HO.lst (List.map V.bl bs' ++ [V.bl (decide ((m lk[i].r[j] : Int) < (lk[i].n : Int)))])) = _
            rw [e1]
            rfl
          · rw [List.all_append, Bool.and_eq_true, ab', tk2]
            constructor
            · rintro ⟨⟨h1, h2⟩, h3⟩
              refine ⟨h1, fun p hp => ?_⟩
              rcases List.mem_append.mp hp with z | z
              · exact h2 p z
              · rw [List.mem_singleton.mp z]
                rw [List.all_cons, Bool.and_eq_true] at h3
                exact of_decide_eq_true h3.1
            · rintro ⟨h1, h2⟩
              refine ⟨⟨h1, fun p hp => h2 p (List.mem_append_left _ hp)⟩, ?_⟩
              rw [List.all_cons, Bool.and_eq_true]
              exact ⟨decide_eq_true (h2 _ (List.mem_append_right _ List.mem_cons_self)), rfl⟩
        · rintro G9 ⟨s9, _, bs', hbs', lbs', ab'⟩
          refine ⟨s9, bs', hbs', by omega, ?_⟩
          rw [ab', lr, List.take_length, tk1]
          constructor
          · rintro ⟨h1, h2⟩ d hd
            rcases List.mem_append.mp hd with z | z
            · exact h1 d z
            · rw [List.mem_singleton.mp z]
              exact h2
          · intro h
            exact ⟨fun d hd => h d (List.mem_append_left _ hd), h _ (List.mem_append_right _ List.mem_cons_self)⟩
      · rintro G7 ⟨s7, bs, hbs, lbs, ab⟩
        refine ⟨D3, bs, rfl, SqL.of hbs, bs.all id, rfl, ?_⟩
        have tkl : lk.take ys.length = lk := by rw [← lly, List.take_length]
        rw [tkl] at ab
        have rtb : bs.all id = true ↔ Rt ds m := by
          rw [ab, rt_iff]
          constructor
          · intro h d hd c1 p hp
            exact h d (by rw [elk]; exact List.mem_filter.mpr ⟨hd, decide_eq_true c1⟩) p hp
          · intro h d hd p hp
            exact h d (lkd d hd).1 (lkd d hd).2 p hp
        cases hba : bs.all id with
        | false =>
          refine iteT ⟨_, rfl, raise_in fun d hd => kN (fun o => ?_) d _ ((s13.trans s7).trans (Same.updf hd)) upd_same⟩
          rw [rtb.mpr o.1] at hba
          cases hba
        | true =>
          have rt := rtb.mp hba
          refine iteF ?_
          have hb7 := s7 _ _ hb3
          have hys7 := s7 _ _ hys
          have sH7 := s13.trans s7
          clear hbs ab rtb hba tkl
          have hL7 : ∀ (i : Nat) (x : V), ys[i]? = some x → ∃ d, lk[i]? = some d ∧ DeedAt G7 x d := fun i x e => by
            obtain ⟨d, e1, e2⟩ := hL3 i x e
            exact ⟨d, e1, e2.same s7⟩
          refine ⟨b, _, hb7, trivial, fun od => ⟨_, rfl, b, od, _, rfl, upd_same, fun D4 hD4 => ?_⟩⟩
          have nD4b : D4 ≠ b := fun z => by
            rw [z, upd_same] at hD4
            cases hD4
          have ldk : ∀ f : Nat → V, (dV ks f).length = ks.length := fun f => dV_len _ _
          have at_ : ∀ i, (hi : i < ks.length) → (mV ks m)[i]? = some (ky ks[i], .int (m ks[i] : Int)) := fun i hi => by
            unfold mV dV
            rw [List.getElem?_map, List.getElem?_eq_getElem hi]
            rfl
          refine lc_sel (n := ks.length) (by have := walk_values (d := b) (o := od) (kvs := mV ks m); rw [ldk] at this; exact this) (fun i => (ks[i]?).map fun p => V.bl (decide (m p ≤ nw))) (by omega) hD4 (fun G s => s _ _ upd_same) ?_ ?_
          · rintro i v H2 H3 Qy Qn hi sH ⟨rfl, k', ek⟩ ky_ kn_
            rw [at_ i hi] at ek
            cases ek
            rw [List.getElem?_eq_getElem hi] at ky_
            refine ⟨rfl, _, rfl, _, rfl, _, _, rfl, rfl, ky_ _ _ (Same.refl _) ?_⟩
            refine congrArg (fun z => some (V.bl z)) ?_
            rw [Bool.eq_iff_iff, decide_eq_true_eq, decide_eq_true_eq]
            show m ks[i] ≤ nw ↔ _
            omega
          · intro H4 q4 hR
            refine ⟨q4 _ _ upd_same, ?_⟩
            have u1 := unlock hb7 q4
            have hR2 : (upd H4 b (.dK (mV ks m))) D4 = some (.lst ((ks.map fun p => decide (m p ≤ nw)).map V.bl)) := by
              rw [upd_ne nD4b, hR]
              refine congrArg (fun z => some (HO.lst z)) ?_
              rw [List.map_map]
              exact sel_all _ ks
            clear hR q4
            generalize upd H4 b (.dK (mV ks m)) = U at *
            refine ⟨D4, _, rfl, SqL.of hR2, _, rfl, ?_⟩
            have sHU := sH7.trans u1
            have alb : ((ks.map fun p => decide (m p ≤ nw)).all id = true) ↔ ∀ p ∈ ks, m p ≤ nw := by
              rw [List.all_eq_true]
              constructor
              · intro h p hp
                exact of_decide_eq_true (h _ (List.mem_map.mpr ⟨p, hp, rfl⟩))
              · intro h x hx
                obtain ⟨p, hp, rfl⟩ := List.mem_map.mp hx
                exact decide_eq_true (h p hp)
            cases hba : (ks.map fun p => decide (m p ≤ nw)).all id with
            | false =>
              refine iteT ⟨_, rfl, raise_in fun d hd => kN (fun o => ?_) d _ (sHU.trans (Same.updf hd)) upd_same⟩
              rw [alb.mpr o.2] at hba
              cases hba
            | true =>
              refine iteF ?_
              have hysU := u1 _ _ hys7
              refine ⟨_, rfl, _, rfl, D, rfl, ⟨_, SqL.of hysU⟩, fun D5 hD5 => ?_⟩
              refine lc_sel (n := ys.length) (walk_list (K := K) (a := D) (xs := ys)) (fun i => (lk[i]?).map fun d => V.int (d.n : Int)) (by omega) hD5 (fun G s => SqL.of (s _ _ hysU)) ?_ ?_
              · rintro i x H5 H6 Qy Qn hi s6 ⟨rfl, hv⟩ ky_ kn_
                obtain ⟨d, e1, t, rd, tw, rfl, ht, _, _⟩ := hL7 i x hv
                rw [e1] at ky_
                exact ⟨rfl, _, rfl, t, _, 0, _, rfl, rfl, SqT.of ((u1.trans s6) _ _ ht), rfl, ky_ _ _ (Same.refl _) rfl⟩
              · intro H5 s5 hR5
                have hR6 : H5 D5 = some (.lst (numsV (lk.map (·.n)))) := by
                  rw [hR5, ← lly]
                  refine congrArg (fun z => some (HO.lst z)) ?_
                  unfold numsV
                  rw [List.map_map]
                  exact sel_all _ lk
                refine ⟨by show 2 ≤ sizeLine; omega, fun T0 hT0 => ?_⟩
                have sT := Same.updf (o := .tup [V.int (nw : Int), V.ref D5]) hT0
                exact kY ⟨rt, alb.mp hba⟩ T0 D5 _ ((sHU.trans s5).trans sT) (none_back (sHU.trans s5) hT0) (none_back sHU hD5) upd_same (sT _ _ hR6)
end
end K33
set_option Elab.async false
set_option linter.all false
set_option maxRecDepth 100000
set_option maxHeartbeats 8000000
namespace K33
open PySem PySem.Spec PyProof.Rows L2 KB
/-- right marks, drawn -/
def spRightM : Sp := fun vs H Q _ => ∃ (pu a : Addr) (ds : List Dd) (N : Nat), vs = [.ref pu, .ref a] ∧ Purse H pu N ∧ N ≤ 2 ^ 38 ∧ LogAt (off H pu) a ds ∧ Lg ds ∧ ds.length ≤ 10 ∧ ∀ q m H', But pu H H' → Purse H' pu (N + 30) → H q = none → MkAt H' q (pgs ds) m → Mk ds m → Rt ds m → Q (.ref q) H'
/-- any lines that hold the log -/
structure Chd (ds : List Dd) (ls : List Ln) : Prop where
  eq : ls.map (·.d) = ds
  lt : ∀ l ∈ ls, l.a < l.d.n
  nx : ∀ (i : Nat) (l m : Ln), ls[i]? = some l → ls[i + 1]? = some m → m.a = l.d.n
  cl : ∀ l, ls[ds.length - 1]? = some l → l.c = true
def spChained : Sp := fun vs H Q _ => ∃ (pu a : Addr) (ds : List Dd) (N : Nat), vs = [.ref pu, .ref a] ∧ Purse H pu N ∧ N ≤ 2 ^ 38 ∧ LogAt (off H pu) a ds ∧ Lg ds ∧ 1 ≤ ds.length ∧ ds.length ≤ 10 ∧ (∀ d ∈ ds, d.n ≤ 200) ∧ ∀ q ls H', But pu H H' → Purse H' pu (N + 100) → H q = none → ChAt (off H' pu) q ls → Chd ds ls → Q (.ref q) H'
/-- what begun makes of a mark -/
def Bg (ds : List Dd) (m m' : Nat → Nat) (p : Nat) : Prop := m' p = m p ∨ (m p = 0 ∧ ∀ d, ds[0]? = some d → m' p < d.n)
def spBegun : Sp := fun vs H Q _ => ∃ (pu a b : Addr) (ds : List Dd) (ks : List Nat) (m : Nat → Nat) (N : Nat), vs = [.ref pu, .ref a, .ref b] ∧ Purse H pu N ∧ N ≤ 2 ^ 38 ∧ LogAt (off H pu) a ds ∧ Lg ds ∧ 1 ≤ ds.length ∧ (∀ d ∈ ds, d.n ≤ 200) ∧ b ≠ pu ∧ MkAt H b ks m ∧ ks.Nodup ∧ ks.length ≤ 30 ∧ ∀ q m' H', But pu H H' → Purse H' pu (N + 30) → H q = none → MkAt H' q ks m' → (∀ p ∈ ks, Bg ds m m' p) → Q (.ref q) H'
/-- deeds with other numbers -/
def up (k : Nat) (d : Dd) : Dd := { d with n := d.n + k }
def spShifted : Sp := fun vs H Q _ => ∃ (pu a : Addr) (ds : List Dd) (k N : Nat), vs = [.ref a, .int (k : Int)] ∧ Purse H pu N ∧ LogAt (off H pu) a ds ∧ ds.length ≤ 60 ∧ (∀ d ∈ ds, d.Ok) ∧ ∀ q H', Same H H' → H q = none → LogAt (off H' pu) q (ds.map (up k)) → Q (.ref q) H'
def spTail : Sp := fun vs H Q _ => ∃ (pu a : Addr) (ds : List Dd) (N : Nat), vs = [.ref pu, .ref a] ∧ Purse H pu N ∧ N ≤ 2 ^ 37 ∧ LogAt (off H pu) a ds ∧ Lg ds ∧ 1 ≤ ds.length ∧ (∀ d ∈ ds, d.n ≤ 200) ∧ (pgs ds).length ≤ 5 ∧ (∀ p ∈ pgs ds, p ≤ 30) ∧ ∀ x l H', But pu H H' → Purse H' pu (N + 100) → LnAt (off H' pu) x l → l.Ok → l.c = false → (∀ d, ds.getLast? = some d → l.a = d.n) → Q x H'
theorem nz_row {ds : List Dd} (h : 1 ≤ ds.length) : ∃ d, ds[0]? = some d := ⟨_, List.getElem?_eq_getElem h⟩
theorem read_pg {ds : List Dd} {d : Dd} {p : Nat} (hd : d ∈ ds) (hp : p ∈ d.r) : p ∈ pgs ds := pgs_mem.mpr ⟨d, hd, hp⟩
theorem mkAt_le {ds : List Dd} {n : Int} (h : 0 ≤ n) (p : Nat) : (mkAt ds n p : Int) ≤ n := by
  unfold mkAt
  rw [List.getLastD_eq_getLast?]
  cases h2 : ((ds.filter fun d => decide (d.p = p ∧ (d.n : Int) ≤ n)).map (·.n)).getLast? with
  | none => exact h
  | some x =>
    obtain ⟨d, hd, rfl⟩ := List.mem_map.mp (List.mem_of_getLast? h2)
    exact (of_decide_eq_true (List.mem_filter.mp hd).2).2
/-- how many deeds are done by marks -/
def doneN (ds : List Dd) (m : Nat → Nat) : Nat := (ds.filter fun d => decide (d.n ≤ m d.p)).length
theorem done_lt {ds : List Dd} {m : Nat → Nat} (mk : Mk ds m) {d : Dd} {p : Nat} (h : (d, p) ∈ wr ds m) {v : Nat} (hv : v < d.n) : doneN ds (putN m p v) < doneN ds m := by
  obtain ⟨hd, c, hp, q⟩ := wr_mem.mp h
  have n0 : m p ≠ 0 := by omega
  have hm := mk p (read_pg hd hp)
  unfold nbp at hm
  rcases List.mem_cons.mp hm with e | e
  · omega
  · obtain ⟨d2, hd2, e⟩ := List.mem_map.mp e
    obtain ⟨h1, h2⟩ := List.mem_filter.mp hd2
    have h3 : d2.p = p := of_decide_eq_true h2
    have gen : ∀ es : List Dd, (es.filter fun d => decide (d.n ≤ putN m p v d.p)).length ≤ (es.filter fun d => decide (d.n ≤ m d.p)).length ∧ (d2 ∈ es → (es.filter fun d => decide (d.n ≤ putN m p v d.p)).length < (es.filter fun d => decide (d.n ≤ m d.p)).length) := by
      intro es
      induction es with
      | nil => exact ⟨Nat.le_refl _, fun h => nomatch h⟩
      | cons x es ih =>
        have lem : x.n ≤ putN m p v x.p → x.n ≤ m x.p := fun z => by
          unfold putN at z
          split at z
          · next y =>
            rw [y]
            omega
          · exact z
        rw [List.filter_cons, List.filter_cons]
        by_cases z : x.n ≤ putN m p v x.p
        · rw [if_pos (decide_eq_true z), if_pos (decide_eq_true (lem z)), List.length_cons, List.length_cons]
          refine ⟨by omega, fun hx => ?_⟩
          rcases List.mem_cons.mp hx with rfl | hx
          · unfold putN at z
            rw [if_pos h3] at z
            omega
          · have := ih.2 hx
            omega
        · rw [if_neg (by simpa using z)]
          by_cases y : x.n ≤ m x.p
          · rw [if_pos (decide_eq_true y), List.length_cons]
            exact ⟨by omega, fun _ => by omega⟩
          · rw [if_neg (by simpa using y)]
            refine ⟨ih.1, fun hx => ?_⟩
            rcases List.mem_cons.mp hx with rfl | hx
            · rw [h3] at y
              omega
            · exact ih.2 hx
    exact (gen ds).2 h1
section
variable {P : Program} {w : World} {K : PySem.W.Frag} {mg : Str → Option Value} {base : Heap}
abbrev s_right_marks : Stmt := top 61
abbrev N_right_marks : List Str := ["_law_purse_here", "_law_log_here", "_law_found", "_law_spin", "_law_bad", "_law_number", "_law_page"]
theorem sc_right_marks : FnScope N_right_marks ["_law_purse_here", "_law_log_here"] (defScope s_right_marks) := ⟨rfl, rfl, rfl, by decide +kernel, rfl, by decide +kernel, by decide +kernel⟩
theorem ok_right_marks {f : Addr} {fd : FuncData} (F : FnP K "_law_right_marks" s_right_marks f fd) (Z : FreeS mg)
    {f_drawn_marks : Addr} {d_drawn_marks : FuncData} (g_drawn_marks : mg "_law_drawn_marks" = some (.ref f_drawn_marks)) (F_drawn_marks : FnP K "_law_drawn_marks" s_drawn_marks f_drawn_marks d_drawn_marks) (G_drawn_marks : FnOk P w K mg base CX0 4 f_drawn_marks d_drawn_marks ["_law_purse_here", "_law_log_here"] spDrawnM)
    {f_too_new : Addr} {d_too_new : FuncData} (g_too_new : mg "_law_too_new" = some (.ref f_too_new)) (F_too_new : FnP K "_law_too_new" s_too_new f_too_new d_too_new) (G_too_new : FnOk P w K mg base CX0 1 f_too_new d_too_new ["_law_log_here", "_law_marks"] spTooNew)
    {f_marks_at : Addr} {d_marks_at : FuncData} (g_marks_at : mg "_law_marks_at" = some (.ref f_marks_at)) (F_marks_at : FnP K "_law_marks_at" s_marks_at f_marks_at d_marks_at) (G_marks_at : FnOk P w K mg base CX0 2 f_marks_at d_marks_at ["_law_log_here", "_law_number"] spMarksAt) :
    FnOk P w K mg base CX0 5 f fd ["_law_purse_here", "_law_log_here"] spRightM := by
  have b_drawn_marks : Binds K d_drawn_marks ["_law_purse_here", "_law_log_here"] [] := F_drawn_marks.bindsN fun _ _ _ _ _ _ us hl => match us, hl with | [_, _], _ => rfl
  have b_too_new : Binds K d_too_new ["_law_log_here", "_law_marks"] [] := F_too_new.bindsN fun _ _ _ _ _ _ us hl => match us, hl with | [_, _], _ => rfl
  have b_marks_at : Binds K d_marks_at ["_law_log_here", "_law_number"] [] := F_marks_at.bindsN fun _ _ _ _ _ _ us hl => match us, hl with | [_, _], _ => rfl
  refine F.ok sc_right_marks (fun vs H Q E h => ?_) (fun cdv A outer s H vs Q E hr h => ?_)
  · obtain ⟨pu, a, ds, N, rfl, _⟩ := h
    rfl
  · obtain ⟨pu, a, ds, N, rfl, hP, hN, hL, hG, l10, k⟩ := h
    have sl : (3000 : Nat) ≤ sizeLine := by decide
    have hu65 : _ + 65 < cLine := Nat.lt_of_le_of_lt (Nat.add_le_add_left (by decide : 65 ≤ 200) _) (Nat.lt_of_le_of_lt (Nat.add_le_add_right (Nat.le_add_right _ _) _) hr.un)
    have hu := Nat.lt_of_le_of_lt (Nat.add_le_add_left (by decide : 1 ≤ 65) _) hu65
    have hu0 := Nat.lt_of_succ_lt hu
    have nd := sc_right_marks.nd
    refine ⟨_, PSs.nox (pss_cons (ps_set (i := 2) nd rfl (Or.inl rfl) (pe_call G_drawn_marks (hr.mono (by decide)) rfl g_drawn_marks F_drawn_marks.kp b_drawn_marks .nil pass0 (pa_cons (pv 0) (pa_cons (pv 1) (pa_nil)))))
      (pss_cons (ps_for PassesOwn.never rfl (pi_range1 (by rfl) Z.range (pa_cons (pe_int) (pa_nil))) (pg_name (i := 3) nd rfl (Or.inl rfl))
        (pss_cons (ps_set (i := 4) nd rfl (Or.inl rfl) (pe_call G_too_new (hr.mono (by decide)) rfl g_too_new F_too_new.kp b_too_new .nil pass0 (pa_cons (pv 1) (pa_cons (pv 2) (pa_nil)))))
      (pss_one (ps_if (pt_cmpR (op_neE hu0) (pv 4) (pe_lst (pa_nil)) (nomark _)) (pss_cons (ps_asg (pe_ix ix_list (pv 4) (pe_int) (fun _ _ => rfl)) (pg_tup rfl (pgs_cons (pg_name (i := 5) nd rfl (Or.inl rfl)) (pgs_cons (pg_name (i := 6) nd rfl (Or.inl rfl)) (pgs_nil)))))
      (pss_one (ps_dput hu (pv 2) (pv 6) (pe_dget hu (pe_call G_marks_at (hr.mono (by decide)) rfl g_marks_at F_marks_at.kp b_marks_at .nil pass0 (pa_cons (pv 1) (pa_cons (pe_op op_sub (pv 5) (pe_int)) (pa_nil)))) (pv 6) (fun _ _ => rfl)) rfl))) (pss_nil)))))
      (pss_one (ps_ret (pv 2))))), ?_⟩
    obtain ⟨xs, ha', lx, hx⟩ := id hL
    have na : a ≠ pu := fun z => by
      unfold off at ha'
      rw [if_pos z] at ha'
      cases ha'
    have l60 := hG.len
    have pl := hG.pl
    refine ⟨_, rfl, _, rfl, pu, a, ds, N, rfl, hP, hN, hL, hG, fun q m G1 b1 P1 nq hq mk => ?_⟩
    have nqu : q ≠ pu := fresh_ne hP nq
    refine ⟨60, rfl, by decide, by decide, ?_⟩
    refine for_it (n := 60) (walk_range (lo := 0) (n := 60)) (fun i σ G => But pu H G ∧ Purse G pu (N + 30) ∧ ∃ m v3 v4 v5 v6, G q = some (.dK (mV (pgs ds) m)) ∧ Mk ds m ∧ (wr ds m = [] ∨ doneN ds m + i ≤ ds.length) ∧ σ = [some (.ref pu), some (.ref a), some (.ref q), v3, v4, v5, v6])
      ⟨b1, P1, m, _, _, _, _, hq, mk, .inr (List.length_filter_le _ _), rfl⟩ (fun i σ G _ _ => trivial) ?_ ?_
    · rintro i x σ G G' hi ⟨bG, PG, m, v3, v4, v5, v6, hm, mk, dn, rfl⟩ ⟨rfl, rfl⟩
      have hLG : LogAt G' a ds := (hL.same (but_off bG)).same (off_le _ _)
      refine ⟨_, rfl, _, rfl, a, q, ds, pgs ds, m, rfl, hLG, hG, hm, (fun p hp => hp), fun w ys G2 s2 nw hw py => ?_⟩
      refine ⟨_, rfl, Nat.zero_le _, fun E hE => ?_⟩
      have s3 := Same.updf (o := .lst []) hE
      have s23 := s2.trans s3
      refine ⟨w, E, ys, rfl, rfl, SqL.of (s3 _ _ hw), SqL.of upd_same, _, rfl, ?_⟩
      cases hwr : wr ds m with
      | nil =>
        rw [hwr] at py
        cases py
        exact iteF ⟨bG.trans (But.of s23), PG.same s23, m, _, _, _, _, s23 _ _ hm, mk, .inl hwr, rfl⟩
      | cons w0 ws =>
        obtain ⟨d, p⟩ := w0
        rw [hwr] at py
        cases py with
        | @cons _ y _ yr hy pr =>
        obtain ⟨T, rfl, hT⟩ := hy
        have mw : (d, p) ∈ wr ds m := by rw [hwr]; exact List.mem_cons_self
        obtain ⟨hd, c1, hp, c2⟩ := wr_mem.mp mw
        have mp := read_pg hd hp
        have n1 := (hG.ok d hd).n1
        refine iteT ⟨_, rfl, w, _, 0, .ref T, rfl, rfl, SqL.of (s3 _ _ hw), (by simp [atI, ixN]), ?_⟩
        refine ⟨T, [_, _], rfl, .inl (.inl (s3 _ _ hT)), rfl, _, [_], rfl, _, [], rfl, rfl, ?_⟩
        refine ⟨_, rfl, _, rfl, _, _, rfl, rfl, a, (d.n : Int) - 1, ds, rfl, hLG.same s23, hG, fun q2 G4 s4 nq2 hq2 => ?_⟩
        have s24 := s23.trans s4
        have dg : DGet G4 q2 (.int (p : Int)) (some (.int (mkAt ds ((d.n : Int) - 1) p : Int))) := by
          have := DGet.k (k := ky p) hq2
          rw [mV_val mp] at this
          exact this
        refine ⟨_, rfl, q2, _, rfl, dg, _, rfl, _, rfl, q, _, rfl, DPut.k (k := ky p) (s24 _ _ hm) (by rw [dV_len]; omega), ?_⟩
        rw [mV_put mp]
        have hv : mkAt ds ((d.n : Int) - 1) p < d.n := by
          have := mkAt_le (ds := ds) (n := (d.n : Int) - 1) (by omega) p
          omega
        have dl := done_lt mk mw hv
        refine ⟨fun c o n e => ?_, ((PG.same s24).same' (upd_ne nqu.symm)), putN m p (mkAt ds ((d.n : Int) - 1) p), _, _, _, _, upd_same, fun r hr => ?_, ?_, rfl⟩
        · rw [upd_ne (ne_of_none e nq)]
          exact s24 _ _ (bG _ _ n e)
        · unfold putN
          split
          · next e =>
            rw [e]
            exact mkAt_mk ds _ p mp
          · exact mk r hr
        · rcases dn with e | e
          · rw [hwr] at e
            cases e
          · exact .inr (by omega)
    · rintro σ G ⟨bG, PG, m, v3, v4, v5, v6, hm, mk, dn, rfl⟩
      have rt : Rt ds m := by
        rcases dn with e | e
        · exact e
        · omega
      exact ⟨_, rfl, k q m G bG PG nq hm mk rt⟩
abbrev s_begun : Stmt := top 66
abbrev N_begun : List Str := ["_law_purse_here", "_law_log_here", "_law_marks", "_law_found", "_law_page"]
theorem sc_begun : FnScope N_begun ["_law_purse_here", "_law_log_here", "_law_marks"] (defScope s_begun) := ⟨rfl, rfl, rfl, by decide +kernel, rfl, by decide +kernel, by decide +kernel⟩
theorem ok_begun {f : Addr} {fd : FuncData} (F : FnP K "_law_begun" s_begun f fd) (Z : FreeS mg)
    {f_draw : Addr} {d_draw : FuncData} (g_draw : mg "_law_draw" = some (.ref f_draw)) (F_draw : FnP K "_law_draw" s_draw f_draw d_draw) (G_draw : FnOk P w K mg base CX0 2 f_draw d_draw ["_law_purse_here", "_law_many"] spDraw) :
    FnOk P w K mg base CX0 3 f fd ["_law_purse_here", "_law_log_here", "_law_marks"] spBegun := by
  have b_draw : Binds K d_draw ["_law_purse_here", "_law_many"] [] := F_draw.bindsN fun _ _ _ _ _ _ us hl => match us, hl with | [_, _], _ => rfl
  refine F.ok sc_begun (fun vs H Q E h => ?_) (fun cdv A outer s H vs Q E hr h => ?_)
  · obtain ⟨pu, a, b, ds, ks, m, N, rfl, _⟩ := h
    rfl
  · obtain ⟨pu, a, b, ds, ks, m, N, rfl, hP, hN, hL, hG, d1, n200, npb, hb, nd0, k30, k⟩ := h
    have sl : (3000 : Nat) ≤ sizeLine := by decide
    have hu65 : _ + 65 < cLine := Nat.lt_of_le_of_lt (Nat.add_le_add_left (by decide : 65 ≤ 200) _) (Nat.lt_of_le_of_lt (Nat.add_le_add_right (Nat.le_add_right _ _) _) hr.un)
    have hu := Nat.lt_of_le_of_lt (Nat.add_le_add_left (by decide : 1 ≤ 65) _) hu65
    have nd := sc_begun.nd
    refine ⟨_, PSs.nox (pss_cons (ps_set (i := 3) nd rfl (Or.inl rfl) (pe_dnewK))
      (pss_cons (ps_lock (ps_for PassesOwn.never rfl (pi_keys (pv 2)) (pg_name (i := 4) nd rfl (Or.inl rfl))
        (pss_one (ps_dput hu (pv 3) (pv 4) (pe_ifExp (pt_cmpR op_gt (pe_dget hu (pv 2) (pv 4) (fun _ _ => rfl)) (pe_int) (nomark _)) (pe_dget hu (pv 2) (pv 4) (fun _ _ => rfl)) (pe_call G_draw (hr.mono (by decide)) rfl g_draw F_draw.kp b_draw .nil pass0 (pa_cons (pv 0) (pa_cons (pe_ix ix_tup (pe_ix ix_list (pv 1) (pe_int) (fun _ _ => rfl)) (pe_int) (fun _ _ => rfl)) (pa_nil))))) rfl))))
      (pss_one (ps_ret (pv 3))))), ?_⟩
    obtain ⟨xs, ha', lx, hx⟩ := id hL
    have na : a ≠ pu := fun z => by
      unfold off at ha'
      rw [if_pos z] at ha'
      cases ha'
    have ha : H a = some (.lst xs) := off_le _ _ _ _ ha'
    refine fun q hq => ?_
    have nq : q ≠ pu := fresh_ne hP hq
    have s1 := Same.updf (o := .dK []) hq
    have hb1 := s1 _ _ hb
    have ha1 := s1 _ _ ha
    have nqb : q ≠ b := (ne_of_none hb hq).symm
    have nab : a ≠ b := fun z => by
      unfold MkAt at hb
      rw [z, hb] at ha
      cases ha
    have P1 := hP.same s1
    have hq1 : upd H q (.dK []) q = some (.dK (mV (ks.take 0) m)) := upd_same
    have hL1 : LogAt (off (upd H q (.dK [])) pu) a ds := hL.same (but_off (But.of s1))
    obtain ⟨d0, e0⟩ := nz_row d1
    have m0 : d0 ∈ ds := List.mem_of_getElem? e0
    have o0 := (hG.ok d0 m0).n1
    have b0 := n200 d0 m0
    obtain ⟨x0, ex0⟩ : ∃ x0, xs[0]? = some x0 := ⟨_, List.getElem?_eq_getElem (by omega)⟩
    obtain ⟨t0, r0, w0, rfl, ht0', _⟩ := hx 0 _ _ ex0 e0
    have nt0 : t0 ≠ pu := fun z => by
      unfold off at ht0'
      rw [if_pos z] at ht0'
      cases ht0'
    have ht0 := s1 _ _ (off_le _ _ _ _ ht0')
    have nt0b : t0 ≠ b := fun z => by
      rw [z, hb1] at ht0
      cases ht0
    generalize upd H q (.dK []) = G1 at *
    refine ⟨b, _, hb1, trivial, fun od => ?_⟩
    have PF : Purse (upd G1 b (.frz od (.dK (mV ks m)))) pu N := P1.same' (upd_ne npb.symm)
    have bF : upd G1 b (.frz od (.dK (mV ks m))) b = some (.frz od (.dK (mV ks m))) := upd_same
    have aF : upd G1 b (.frz od (.dK (mV ks m))) a = some (.lst xs) := (upd_ne nab).trans ha1
    have tF := (upd_ne (H := G1) (o := .frz od (.dK (mV ks m))) nt0b).trans ht0
    have qF : upd G1 b (.frz od (.dK (mV ks m))) q = some (.dK (mV (ks.take 0) m)) := (upd_ne nqb).trans hq1
    have back : ∀ {G2 : Hp}, (∀ c o, c ≠ pu → c ≠ q → upd G1 b (.frz od (.dK (mV ks m))) c = some o → G2 c = some o) → ∀ c o, c ≠ pu → H c = some o → upd G2 b (.dK (mV ks m)) c = some o := fun {G2} k c o n e => by
      by_cases z : c = b
      · rw [z] at e ⊢
        rw [hb] at e
        rw [upd_same]
        exact e
      · rw [upd_ne z]
        exact k c o n (ne_of_none e hq) (by rw [upd_ne z]; exact s1 _ _ e)
    generalize upd G1 b (.frz od (.dK (mV ks m))) = F at *
    have lk : (mV ks m).length = ks.length := dV_len _ _
    refine ⟨_, rfl, b, od, rfl, .inl ⟨_, bF, ?_⟩⟩
    refine for_it (walk_keys (d := b) (o := od) (kvs := mV ks m)) (fun i σ G => (∀ c o, c ≠ pu → c ≠ q → F c = some o → G c = some o) ∧ (∃ M, Purse G pu M ∧ M ≤ N + i) ∧ ∃ m' v4, G q = some (.dK (mV (ks.take i) m')) ∧ (∀ p ∈ ks.take i, Bg ds m m' p) ∧ σ = [some (.ref pu), some (.ref a), some (.ref b), some (.ref q), v4])
      ⟨fun c o _ _ e => e, ⟨N, PF, by omega⟩, m, _, qF, fun p _ => .inl rfl, rfl⟩ (fun i σ G _ hh => hh.1 _ _ npb nqb.symm bF) ?_ ?_
    · rintro i x σ G G' hi ⟨bG, ⟨M, PM, lM⟩, m', v4, hm', hbg, rfl⟩ ⟨rfl, k', v', ek, rfl⟩
      have li : i < ks.length := by omega
      have ei : (mV ks m)[i]? = some (ky ks[i], .int (m ks[i] : Int)) := by
        unfold mV dV
        rw [List.getElem?_map, List.getElem?_eq_getElem li]
        rfl
      rw [ei] at ek
      cases ek
      have mp := List.getElem_mem li
      have bG' := bG _ _ npb nqb.symm bF
      have aG' := bG _ _ na (fun z => by rw [z, qF] at aF; cases aF) aF
      have tG' := bG _ _ nt0 (fun z => by rw [z, qF] at tF; cases tF) tF
      have dgb : DGet G' b (.int (ks[i] : Int)) (some (.int (m ks[i] : Int))) := .inl ⟨_, ky ks[i], .inr ⟨od, bG'⟩, rfl, (mV_val mp).symm⟩
      have fin : ∀ (v : Nat) (G7 : Hp), But pu G' G7 → (∃ M', Purse G7 pu M' ∧ M' ≤ N + (i + 1)) → G7 q = some (.dK (mV (ks.take i) m')) ∧ ∀ G8, G8 = upd G7 q (.dK (mV (ks.take (i + 1)) (putN m' ks[i] v))) → (∀ c o, c ≠ pu → c ≠ q → F c = some o → G8 c = some o) ∧ (∃ M, Purse G8 pu M ∧ M ≤ N + (i + 1)) := fun v G7 b7 ⟨M', P7, l7⟩ => ⟨b7 _ _ nq hm', fun G8 e8 => by
        subst e8
        exact ⟨fun c o n1 n2 e => (upd_ne n2).trans (b7 _ _ n1 (bG _ _ n1 n2 e)), M', P7.same' (upd_ne nq.symm), l7⟩⟩
      have nin : ks[i] ∉ ks.take i := fun z => by
        obtain ⟨j, hj, e⟩ := List.getElem_of_mem z
        rw [List.getElem_take] at e
        rw [List.length_take] at hj
        exact List.pairwise_iff_getElem.mp nd0 j i (by omega) li (by omega) e
      have tk : ks.take (i + 1) = ks.take i ++ [ks[i]] := by
        rw [List.take_succ, List.getElem?_eq_getElem li]
        rfl
      have putE : ∀ v : Nat, putK (mV (ks.take i) m') (ky ks[i]) (.int (v : Int)) = mV (ks.take (i + 1)) (putN m' ks[i] v) := fun v => by
        rw [dV_new nin, tk]
        refine dV_congr fun p _ => ?_
        unfold put putN
        split <;> rfl
      have l100 : (mV (ks.take i) m').length ≤ 30 := by rw [dV_len, List.length_take]; omega
      refine ⟨_, rfl, _, rfl, b, _, rfl, dgb, _, _, rfl, rfl, _, rfl, ?_⟩
      have dput : ∀ (v : Nat) (G7 : Hp), (v = m ks[i] ∨ (m ks[i] = 0 ∧ v < d0.n)) → But pu G' G7 → (∃ M', Purse G7 pu M' ∧ M' ≤ N + (i + 1)) → sDPut (tVar 3) (tVar 4) (tC (.int (v : Int))) { nx := fun σ G => (∀ (c : Addr) (o : HO), c ≠ pu → c ≠ q → F c = some o → G c = some o) ∧ (∃ M, Purse G pu M ∧ M ≤ N + (i + 1)) ∧ ∃ m' v4, G q = some (.dK (mV (ks.take (i + 1)) m')) ∧ (∀ p ∈ ks.take (i + 1), Bg ds m m' p) ∧ σ = [some (.ref pu), some (.ref a), some (.ref b), some (.ref q), v4], rt := Q } [some (.ref pu), some (.ref a), some (.ref b), some (.ref q), some (kV (ky ks[i]))] G7 := fun v G7 hv b7 p7 => by
        obtain ⟨h1, h2⟩ := fin v G7 b7 p7
        refine ⟨_, rfl, _, rfl, q, _, rfl, DPut.k (k := ky ks[i]) h1 (by omega), ?_⟩
        obtain ⟨h3, h4⟩ := h2 _ rfl
        rw [putE]
        refine ⟨h3, h4, _, _, upd_same, fun p hp => ?_, rfl⟩
        unfold Bg putN
        split
        · next e =>
          rw [e]
          rcases hv with hv | ⟨h5, h6⟩
          · exact .inl hv
          · exact .inr ⟨h5, fun d ed => by
              rw [e0] at ed
              cases ed
              exact h6⟩
        · next e =>
          rw [tk] at hp
          rcases List.mem_append.mp hp with z | z
          · exact hbg p z
          · exact absurd (List.mem_singleton.mp z) e
      by_cases c : 0 < m ks[i]
      · rw [show decide ((0 : Int) < (m ks[i] : Int)) = true from decide_eq_true (by omega)]
        exact iteT ⟨_, rfl, _, rfl, b, _, rfl, dgb, dput (m ks[i]) G' (.inl rfl) (But.refl _ _) ⟨M, PM, by omega⟩⟩
      · rw [show decide ((0 : Int) < (m ks[i] : Int)) = false from decide_eq_false (by omega)]
        have mx : mixes (d0.n : Int) = 1 := mixes_one (by omega) (by omega)
        refine iteF ⟨_, rfl, _, rfl, a, xs, 0, _, rfl, rfl, SqL.of aG', (at0 ex0), t0, _, 0, _, rfl, rfl, SqT.of tG', rfl, pu, (d0.n : Int), M, rfl, by omega, log_small (by omega) (by omega), PM, by rw [mx]; omega, by rw [mx]; omega, fun r G7 r0' r1 b7 P7 => ?_⟩
        rw [mx] at P7
        obtain ⟨r, rfl⟩ : ∃ z : Nat, r = (z : Int) := ⟨r.toNat, by omega⟩
        exact dput r G7 (.inr ⟨by omega, by omega⟩) b7 ⟨_, P7, by omega⟩
    · rintro σ G ⟨bG, ⟨M, PM, lM⟩, m', v4, hm', hbg, rfl⟩
      rw [lk, List.take_length] at hm' hbg
      refine ⟨bG _ _ npb nqb.symm bF, ?_⟩
      exact ⟨_, rfl, k q m' _ (back bG) ((PM.same' (upd_ne npb.symm)).mono (by omega)) hq ((upd_ne nqb).trans hm') hbg⟩
abbrev s_shifted : Stmt := top 65
abbrev N_shifted : List Str := ["_law_log_here", "_law_by", "_law_number", "_law_page", "_law_reads", "_law_words_here"]
theorem sc_shifted : FnScope N_shifted ["_law_log_here", "_law_by"] (defScope s_shifted) := ⟨rfl, rfl, rfl, by decide +kernel, rfl, by decide +kernel, by decide +kernel⟩
theorem ok_shifted {f : Addr} {fd : FuncData} (F : FnP K "_law_shifted" s_shifted f fd) (Z : FreeS mg) :
    FnOk P w K mg base CX0 1 f fd ["_law_log_here", "_law_by"] spShifted := by
  refine F.ok sc_shifted (fun vs H Q E h => ?_) (fun cdv A outer s H vs Q E hr h => ?_)
  · obtain ⟨pu, a, ds, k, N, rfl, _⟩ := h
    rfl
  · obtain ⟨pu, a, ds, kk, N, rfl, hP, hL, l60, okd, k⟩ := h
    have sl : (3000 : Nat) ≤ sizeLine := by decide
    have hu65 : _ + 65 < cLine := Nat.lt_of_le_of_lt (Nat.add_le_add_left (by decide : 65 ≤ 200) _) (Nat.lt_of_le_of_lt (Nat.add_le_add_right (Nat.le_add_right _ _) _) hr.un)
    have nd := sc_shifted.nd
    refine ⟨_, PSs.nox (pss_one (ps_ret (pe_lc (own := [("_law_number", 2), ("_law_page", 3), ("_law_reads", 4), ("_law_words_here", 5)]) (g := gTup K 4 (gCons (gName 2) (gCons (gName 3) (gCons (gName 4) (gCons (gName 5) (gNil)))))) (tt := tYes) (te := tTup (tCons (tOp (rI0 fun i j => .int (i + j)) (tVar 2) (tVar 1)) (tCons (tVar 3) (tCons (tVar 4) (tCons (tVar 5) (tNil)))))) (by rfl) nd (pi_list (pv 0))
          (blkOk_by (own := [("_law_number", 2), ("_law_page", 3), ("_law_reads", 4), ("_law_words_here", 5)]) (N := N_shifted) (sc := defScope s_shifted) (by decide +kernel)) (fun _ _ _ _ _ => pg_tup rfl (pgs_cons (pg_name (i := 2) nd rfl (Or.inl rfl)) (pgs_cons (pg_name (i := 3) nd rfl (Or.inl rfl)) (pgs_cons (pg_name (i := 4) nd rfl (Or.inl rfl)) (pgs_cons (pg_name (i := 5) nd rfl (Or.inl rfl)) (pgs_nil)))))) (fun _ _ _ _ _ => pts_nil)
          (fun _ _ _ _ _ => pe_tup (pa_cons (pe_op op_add (pv 2) (pv 1)) (pa_cons (pv 3) (pa_cons (pv 4) (pa_cons (pv 5) (pa_nil))))))))), ?_⟩
    obtain ⟨xs, ha', lx, hx⟩ := id hL
    have ha := off_le _ _ _ _ ha'
    refine ⟨_, rfl, a, rfl, ⟨_, SqL.of ha⟩, fun D hD => ?_⟩
    refine lc_rel (n := xs.length) (walk_list (K := K) (a := a) (xs := xs)) (fun _ => true) (fun i y G => ∃ d, ds[i]? = some d ∧ DeedAt (off G pu) y (up kk d)) (fun i y G G' s1 ⟨d, e, h⟩ => ⟨d, e, h.same (off_same pu s1)⟩) (by omega) hD (fun G s2 => SqL.of (s2 _ _ ha)) ?_ ?_
    · rintro i x G3 G4 Qy Qn hi s3 ⟨acc, hacc⟩ ⟨rfl, hv⟩ ky_ kn
      have li : i < ds.length := by omega
      have hd : ds[i]? = some ds[i] := List.getElem?_eq_getElem li
      obtain ⟨t, rd, tw, rfl, ht, hr1, htw⟩ := hx i _ _ hv hd
      have ht4 := s3 _ _ (off_le _ _ _ _ ht)
      refine ⟨t, [_, _, _, _], rfl, .inl (.inl ht4), rfl, _, [_, _, _], rfl, _, [_, _], rfl, _, [_], rfl, _, [], rfl, rfl, ?_⟩
      refine ⟨rfl, _, rfl, _, rfl, _, _, rfl, rfl, _, rfl, _, rfl, _, rfl, (by show 4 ≤ sizeLine; omega), fun T hT => ?_⟩
      have sT := Same.updf (o := .tup [.int ((ds[i].n : Int) + (kk : Int)), .int (ds[i].p : Int), .ref rd, .ref tw]) hT
      have nT : T ≠ pu := fresh_ne (hP.same s3) hT
      have into : ∀ {c : Addr} {o : HO}, off H pu c = some o → off (off (upd G4 T (.tup [.int ((ds[i].n : Int) + (kk : Int)), .int (ds[i].p : Int), .ref rd, .ref tw])) D) pu c = some o := fun {c o} e => by
        have nc : c ≠ pu := fun z => by
          unfold off at e
          rw [if_pos z] at e
          cases e
        have e2 := off_le _ _ _ _ e
        rw [off_at nc, off_at (ne_of_none e2 hD)]
        exact sT _ _ (s3 _ _ e2)
      refine ky_ _ _ rfl sT ⟨ds[i], hd, T, rd, tw, rfl, ?_, ?_, ?_⟩
      · rw [off_at nT, off_at (ne_of_none hacc hT).symm, upd_same]
        rfl
      · exact into hr1
      · exact tr_tup (H := off H pu) (fun a2 ys e => into e) (okd _ (List.getElem_mem li)).w htw
    · rintro G3 zs s3 hzs pz
      rw [filter_true] at pz
      have lz := paired_len pz
      rw [List.length_range] at lz
      refine k D G3 s3 hD ⟨zs, (off_at (fresh_ne hP hD)).trans hzs, by rw [List.length_map]; omega, fun i x d e1 e2 => ?_⟩
      obtain ⟨j, ej, d', e3, h⟩ := paired_get2 pz e1
      have := (List.getElem?_eq_some_iff.mp ej)
      obtain ⟨_, e4⟩ := this
      rw [List.getElem_range] at e4
      subst e4
      rw [List.getElem?_map, e3] at e2
      cases e2
      exact h.same (off_same pu (off_le _ _))
end
end K33
set_option Elab.async false
set_option linter.all false
set_option maxRecDepth 100000
set_option maxHeartbeats 8000000
namespace K33
open PySem PySem.Spec PyProof.Rows L2 KB
theorem mergeC {J R : Hp → Bool → Prop} {goal : Prop} (a : (∀ G c, J G c → R G c) → goal) (b : ∀ G c, J G c → R G c) : goal := a b
theorem into {H X : Hp} {pu L : Addr} (b : But pu H X) (nL : H L = none) : Same (off H pu) (off (off X pu) L) := fun c o e => by
  have e2 := off_le _ _ _ _ e
  rw [off_at (ne_of_none e2 nL)]
  exact but_off b _ _ e
/-- the lines of the first i deeds -/
structure Cq (ds : List Dd) (i : Nat) (ls : List Ln) (g : Nat) : Prop where
  eq : ls.map (·.d) = ds.take i
  lt : ∀ l ∈ ls, l.a < l.d.n
  nx : ∀ (j : Nat) (l m : Ln), ls[j]? = some l → ls[j + 1]? = some m → m.a = l.d.n
  go : ∀ d, ds[i]? = some d → g < d.n
  la : ∀ j l, i = j + 1 → ls[j]? = some l → g = l.d.n
  cl : ∀ j l, ls[j]? = some l → j = ds.length - 1 → l.c = true
theorem Cq.len {ds : List Dd} {i : Nat} {ls : List Ln} {g : Nat} (q : Cq ds i ls g) (h : i ≤ ds.length) : ls.length = i := by
  have := congrArg List.length q.eq
  rw [List.length_map, List.length_take] at this
  omega
theorem Cq.step {ds : List Dd} {i : Nat} {ls : List Ln} {g : Nat} {c : Bool} (hG : Lg ds) (q : Cq ds i ls g) (h : i < ds.length) (hc : i = ds.length - 1 → c = true) : Cq ds (i + 1) (ls ++ [⟨g, c, ds[i]⟩]) ds[i].n := by
  have le := q.len (Nat.le_of_lt h)
  have hd : ds[i]? = some ds[i] := List.getElem?_eq_getElem h
  have at_ : ∀ (j : Nat) (l : Ln), (ls ++ [(⟨g, c, ds[i]⟩ : Ln)])[j]? = some l → (j < i ∧ ls[j]? = some l) ∨ (j = i ∧ l = ⟨g, c, ds[i]⟩) := fun j l e => by
    by_cases hj : j < ls.length
    · rw [List.getElem?_append_left hj] at e
      exact .inl ⟨by omega, e⟩
    · rw [List.getElem?_append_right (by omega)] at e
      cases hz : j - ls.length with
      | succ z =>
        rw [hz] at e
        cases e
      | zero =>
        rw [hz] at e
        cases e
        exact .inr ⟨by omega, rfl⟩
  refine ⟨?_, fun l hl => ?_, fun j l m e1 e2 => ?_, fun d e => ?_, fun j l e e1 => ?_, fun j l e1 e => ?_⟩
  · rw [List.map_append, q.eq, List.take_succ, hd]
    rfl
  · rcases List.mem_append.mp hl with z | z
    · exact q.lt l z
    · rw [List.mem_singleton.mp z]
      exact q.go _ hd
  · rcases at_ _ _ e2 with ⟨z, e2⟩ | ⟨z, rfl⟩
    · rcases at_ _ _ e1 with ⟨_, e1⟩ | ⟨z1, _⟩
      · exact q.nx j l m e1 e2
      · omega
    · rcases at_ _ _ e1 with ⟨_, e1⟩ | ⟨z1, _⟩
      · exact q.la j l z.symm e1
      · omega
  · obtain ⟨li, rfl⟩ := List.getElem?_eq_some_iff.mp e
    exact List.pairwise_iff_getElem.mp hG.asc i (i + 1) h li (by omega)
  · rcases at_ _ _ e1 with ⟨z, _⟩ | ⟨_, rfl⟩
    · omega
    · rfl
  · rcases at_ _ _ e1 with ⟨_, e1⟩ | ⟨z, rfl⟩
    · exact q.cl j l e1 e
    · exact hc (by omega)
section
variable {P : Program} {w : World} {K : PySem.W.Frag} {mg : Str → Option Value} {base : Heap}
abbrev s_chained : Stmt := top 62
abbrev N_chained : List Str := ["_law_purse_here", "_law_log_here", "_law_found", "_law_ahead", "_law_at", "_law_deed"]
theorem sc_chained : FnScope N_chained ["_law_purse_here", "_law_log_here"] (defScope s_chained) := ⟨rfl, rfl, rfl, by decide +kernel, rfl, by decide +kernel, by decide +kernel⟩
theorem ok_chained {f : Addr} {fd : FuncData} (F : FnP K "_law_chained" s_chained f fd) (Z : FreeS mg)
    {f_draw : Addr} {d_draw : FuncData} (g_draw : mg "_law_draw" = some (.ref f_draw)) (F_draw : FnP K "_law_draw" s_draw f_draw d_draw) (G_draw : FnOk P w K mg base CX0 2 f_draw d_draw ["_law_purse_here", "_law_many"] spDraw) :
    FnOk P w K mg base CX0 3 f fd ["_law_purse_here", "_law_log_here"] spChained := by
  have b_draw : Binds K d_draw ["_law_purse_here", "_law_many"] [] := F_draw.bindsN fun _ _ _ _ _ _ us hl => match us, hl with | [_, _], _ => rfl
  refine F.ok sc_chained (fun vs H Q E h => ?_) (fun cdv A outer s H vs Q E hr h => ?_)
  · obtain ⟨pu, a, ds, N, rfl, _⟩ := h
    rfl
  · obtain ⟨pu, a, ds, N, rfl, hP, hN, hL, hG, d1, d10, n200, k⟩ := h
    have sl : (3000 : Nat) ≤ sizeLine := by decide
    have hu65 : _ + 65 < cLine := Nat.lt_of_le_of_lt (Nat.add_le_add_left (by decide : 65 ≤ 200) _) (Nat.lt_of_le_of_lt (Nat.add_le_add_right (Nat.le_add_right _ _) _) hr.un)
    have hu := Nat.lt_of_le_of_lt (Nat.add_le_add_left (by decide : 1 ≤ 65) _) hu65
    have hu0 := Nat.lt_of_succ_lt hu
    have nd := sc_chained.nd
    refine ⟨_, PSs.nox (pss_cons (ps_par (i := 2) (j := 3) rfl nd rfl rfl (by decide) rfl rfl (pa_cons (pe_lst (pa_nil)) (pa_cons (pe_ifExp (pt_cmpR (op_neE hu0) (pv 1) (pe_lst (pa_nil)) (nomark _)) (pe_call G_draw (hr.mono (by decide)) rfl g_draw F_draw.kp b_draw .nil pass0 (pa_cons (pv 0) (pa_cons (pe_ix ix_tup (pe_ix ix_list (pv 1) (pe_int) (fun _ _ => rfl)) (pe_int) (fun _ _ => rfl)) (pa_nil)))) (pe_int)) (pa_nil))) rfl)
      (pss_cons (ps_for PassesOwn.never rfl (pi_enum (by rfl) Z.enumerate (pa_cons (pv 1) (pa_nil))) (pg_tup rfl (pgs_cons (pg_name (i := 4) nd rfl (Or.inl rfl)) (pgs_cons (pg_name (i := 5) nd rfl (Or.inl rfl)) (pgs_nil))))
        (pss_cons (ps_expr (pe_bm PySem.F.plainAttrs_list PySem.F.slot_list_append PySem.F.type_list_append mt_append (pv 2) (pa_cons (pe_tup (pa_cons (pe_ix ix_tup (pv 5) (pe_int) (fun _ _ => rfl)) (pa_cons (pv 3) (pa_cons (pe_or (pe_cmpR op_eq (pv 4) (pe_op op_sub (pe_callB call_len_seq (by rfl) Z.len (by decide +kernel) (pa_cons (pv 1) (pa_nil))) (pe_int)) (nomark _)) (pe_one (pe_cmpR op_eq (pe_call G_draw (hr.mono (by decide)) rfl g_draw F_draw.kp b_draw .nil pass0 (pa_cons (pv 0) (pa_cons (pe_int) (pa_nil)))) (pe_int) (nomark _)))) (pa_cons (pv 5) (pa_nil)))))) (pa_nil))))
      (pss_one (ps_set (i := 3) nd rfl (Or.inl rfl) (pe_ix ix_tup (pv 5) (pe_int) (fun _ _ => rfl))))))
      (pss_one (ps_ret (pv 2))))), ?_⟩
    obtain ⟨xs, ha', lx, hx⟩ := id hL
    have na : a ≠ pu := fun z => by
      unfold off at ha'
      rw [if_pos z] at ha'
      cases ha'
    have ha : H a = some (.lst xs) := off_le _ _ _ _ ha'
    obtain ⟨d0, e0⟩ := nz_row d1
    have m0 : d0 ∈ ds := List.mem_of_getElem? e0
    have o0 := (hG.ok d0 m0).n1
    have b0 := n200 d0 m0
    have dr : ∀ m : Int, 1 ≤ m → m < 300 → ∀ M, M ≤ N + 2000 → ∀ H', Purse H' pu M → 1 ≤ m ∧ m.natAbs.log2 < 9000 ∧ Purse H' pu M ∧ M + mixes m ≤ 2 ^ 50 ∧ mixes m ≤ 2 ^ 50 := fun m h1 h2 M hM H' hP' => by
      rw [mixes_one h1 (by omega)]
      exact ⟨h1, log_small h1 (by omega), hP', by omega, by omega⟩
    obtain ⟨x0, xr, rfl⟩ : ∃ x0 xr, xs = x0 :: xr := by
      cases xs with
      | nil => exact absurd lx (by simp; omega)
      | cons x0 xr => exact ⟨x0, xr, rfl⟩
    obtain ⟨t0, r0, w0, rfl, ht0', _⟩ := hx 0 _ _ rfl e0
    refine ⟨Nat.zero_le _, fun L hL => ?_⟩
    have nL : L ≠ pu := fresh_ne hP hL
    have sL := Same.updf (o := .lst []) hL
    refine ⟨_, rfl, Nat.zero_le _, fun E hE => ?_⟩
    have sE := Same.updf (o := .lst []) hE
    have hL1 : upd (upd H L (.lst [])) E (.lst []) L = some (.lst []) := sE _ _ upd_same
    have hE1 : upd (upd H L (.lst [])) E (.lst []) E = some (.lst []) := upd_same
    have s2 := sL.trans sE
    generalize upd (upd H L (.lst [])) E (.lst []) = G1 at *
    have P1 := hP.same s2
    have ht0 := s2 _ _ (off_le _ _ _ _ ht0')
    have ha1 := s2 _ _ ha
    refine ⟨a, E, _, rfl, rfl, SqL.of ha1, SqL.of hE1, _, rfl, iteT ?_⟩
    obtain ⟨q1, q2, q3, q4, q5⟩ := dr d0.n (by omega) (by omega) N (by omega) _ P1
    refine ⟨_, rfl, _, rfl, a, _, 0, _, rfl, rfl, SqL.of ha1, at0 rfl, t0, _, 0, _, rfl, rfl, SqT.of ht0, rfl, pu, (d0.n : Int), N, rfl, q1, q2, q3, q4, q5, fun r G2 r0' r1 b2 P2 => ⟨_, _, rfl, ?_⟩⟩
    rw [mixes_one (by omega) (by omega)] at P2
    obtain ⟨r, rfl⟩ : ∃ z : Nat, r = (z : Int) := ⟨r.toNat, by omega⟩
    have bH : But pu H G2 := (But.of s2).trans b2
    have hL2 := b2 _ _ nL hL1
    have ha2 := b2 _ _ na ha1
    have nLa : L ≠ a := (ne_of_none ha hL).symm
    refine ⟨_, rfl, a, _, rfl, SqL.of ha2, ?_⟩
    refine for_it (n := (V.ref t0 :: xr).length) (walk_enum (K := K) (a := a) (xs := V.ref t0 :: xr)) (fun i σ G => But pu H G ∧ (∃ M, Purse G pu M ∧ M ≤ N + 1 + i) ∧ ∃ (ys : List V) (ls : List Ln) (g : Nat) (v4 v5 : Option V), G L = some (.lst ys) ∧ Paired (fun l x => LnAt (off (off G pu) L) x l) ls ys ∧ Cq ds i ls g ∧ σ = [some (.ref pu), some (.ref a), some (.ref L), some (.int (g : Int)), v4, v5])
      ⟨bH, ⟨_, P2, Nat.le_refl _⟩, [], [], r, _, _, hL2, .nil, ⟨rfl, (fun l hl => nomatch hl), (fun j l m e => by cases e), (fun d e => by rw [e0] at e; cases e; omega), (fun j l e e1 => by cases e1), (fun j l e => by cases e)⟩, rfl⟩ (fun i σ G _ hh => SqL.of (hh.1 _ _ na ha)) ?_ ?_
    · rintro i x σ G G' hi ⟨bG, ⟨M, PM, lM⟩, ys, ls, g, v4, v5, hy, py, cq, rfl⟩ ⟨T, x1, x2, rfl, nT, rfl, g1, g2⟩
      dsimp only at g1 g2
      obtain rfl := Option.some.inj g1
      have li : i < ds.length := by omega
      have hd : ds[i]? = some ds[i] := List.getElem?_eq_getElem li
      have dAt := hx i _ _ g2 hd
      obtain ⟨t, rd, tw, rfl, ht', _⟩ := id dAt
      have sT := Same.updf (o := .tup [.int (i : Nat), V.ref t]) nT
      have hTt : upd G T (.tup [.int (i : Nat), V.ref t]) T = some (.tup [.int (i : Nat), V.ref t]) := upd_same
      generalize upd G T (.tup [.int (i : Nat), V.ref t]) = G3 at *
      have b3 : But pu H G3 := bG.trans (But.of sT)
      have P3 := PM.same sT
      have nt : t ≠ pu := fun z => by
        unfold off at ht'
        rw [if_pos z] at ht'
        cases ht'
      have ht := off_le _ _ _ _ ht'
      have le := cq.len (Nat.le_of_lt li)
      have ly := paired_len py
      refine ⟨T, [_, _], rfl, .inl (.inl hTt), rfl, _, [_], rfl, _, [], rfl, rfl, ?_⟩
      refine ⟨_, rfl, .inl ⟨rfl, _, SqL.of (sT _ _ hy)⟩, _, rfl, t, _, 0, _, rfl, rfl, SqT.of (b3 _ _ nt ht), rfl, _, rfl, _, rfl, _, rfl, a, _, rfl, .inl (SqL.of (b3 _ _ na ha)), _, _, rfl, rfl, rfl, _, rfl, ?_⟩
      apply mergeC (J := fun G c => But pu G3 G ∧ (∃ M', Purse G pu M' ∧ M' ≤ N + 1 + (i + 1)) ∧ (i = ds.length - 1 → c = true))
      · intro rest
        split
        rotate_left
        · next h =>
          have h2 : i ≠ ds.length - 1 := fun e => h (decide_eq_true (congrArg V.int (by show (i : Int) = (((V.ref t0 :: xr).length : Nat) : Int) - 1; omega)))
          obtain ⟨q1, q2, q3, q4, q5⟩ := dr 2 (by omega) (by omega) M (by omega) _ P3
          refine ⟨_, rfl, pu, 2, M, rfl, q1, q2, q3, q4, q5, fun r2 G4 r20 r21 b4 P4 => ⟨rfl, ?_⟩⟩
          rw [mixes_one (by omega) (by omega)] at P4
          obtain ⟨c, ec⟩ : ∃ c, c = decide (V.int r2 = V.int 0) := ⟨_, rfl⟩
          rw [← ec]
          exact rest G4 c ⟨b4, ⟨_, P4, by omega⟩, fun e => absurd e h2⟩
        · next h => exact rest G3 true ⟨But.refl _ _, ⟨_, P3, by omega⟩, fun _ => rfl⟩
      · rintro G4 c ⟨b4, ⟨M', P4, lM'⟩, hc⟩
        have hy4 := b4 _ _ nL (sT _ _ hy)
        have bH4 := b3.trans b4
        refine ⟨_, rfl, (by show 4 ≤ sizeLine; omega), fun T2 hT2 => ?_⟩
        have nT2 : T2 ≠ pu := fresh_ne P4 hT2
        have nT2L : T2 ≠ L := (ne_of_none hy4 hT2).symm
        obtain ⟨l, el⟩ : ∃ l : Ln, l = ⟨g, c, ds[i]⟩ := ⟨_, rfl⟩
        have s5 := Same.updf (o := .tup [.int (ds[i].n : Int), .int (g : Int), .bl c, .ref t]) hT2
        refine ⟨L, ys, .ref T2, rfl, rfl, s5 _ _ hy4, by omega, ?_⟩
        have nLt : t ≠ L := fun z => by
          rw [z, hL] at ht
          cases ht
        refine ⟨_, rfl, t, _, 0, _, rfl, rfl, SqT.of ((upd_ne nLt).trans (s5 _ _ (bH4 _ _ nt ht))), rfl, ?_⟩
        refine ⟨fun c o n e => ?_, ⟨M', P4.same' ((upd_ne nL.symm).trans (upd_ne nT2.symm)), lM'⟩, ys ++ [.ref T2], ls ++ [l], ds[i].n, _, _, upd_same, ?_, by rw [el]; exact cq.step hG li hc, rfl⟩
        · rw [upd_ne (ne_of_none e hL)]
          exact s5 _ _ (bH4 _ _ n e)
        · rw [off2_upd]
          have sG : Same (off (off G pu) L) (off (off (upd G4 T2 (.tup [.int (ds[i].n : Int), .int (g : Int), .bl c, .ref t])) pu) L) := off_same L (but_off (((But.of sT).trans b4).trans (But.of s5)))
          refine paired_snoc (paired_mono (fun l x h => h.same sG) py) ?_
          subst el
          refine ⟨T2, .ref t, rfl, ?_, dAt.same (into (bH4.trans (But.of s5)) hL)⟩
          rw [off_at nT2L, off_at nT2, upd_same]
    · rintro σ G ⟨bG, ⟨M, PM, lM⟩, ys, ls, g, v4, v5, hy, py, cq, rfl⟩
      rw [lx] at cq
      exact ⟨_, rfl, k L ls G bG (PM.mono (by omega)) hL ⟨ys, (off_at nL).trans hy, paired_mono (fun l x h => h.same (off_le _ _)) py⟩ ⟨by rw [cq.eq, List.take_length], cq.lt, cq.nx, fun l e => cq.cl _ _ e rfl⟩⟩
end
end K33
set_option Elab.async false
set_option linter.all false
set_option maxRecDepth 100000
set_option maxHeartbeats 4000000
/-! == of two dictionaries whose values are data, alike or not. -/
namespace L2
open PySem PySem.Spec PyProof.Rows
section
variable {X : Cx} {pins : List (Addr × Obj)} {σ : St} {H : Hp} {s : Shared}
theorem kdm_hits (I : Inv X pins σ H s) {A : Around} (hu : A.units + 64 < cLine) {kvs : List (Key × V)} {vb : List (Key × Value)} (rb : KV kvs vb) {f g : Key → PyData} {ks : List (Key × V)} {va : List (Key × Value)} (ra : KV ks va) :
    (∀ p ∈ ks, ∃ v, valV kvs p.1 = some v ∧ Dp X.K H p.2 (f p.1) ∧ Dp X.K H v (g p.1) ∧ SeqAt.shaped (f p.1) = true ∧ SeqAt.shaped (g p.1) = true) → PySem.W.KeqHits A s vb va (ks.all fun p => PyData.eqv (f p.1) (g p.1)) := by
  unfold KV at ra
  induction ra with
  | nil => intro _; exact .nil
  | @cons p q ps qs h t ih =>
    intro hp
    obtain ⟨h1, h2⟩ := h
    obtain ⟨v, e2, d1, d2, s1, s2⟩ := hp p List.mem_cons_self
    have rr : RelO (some v) (valueAt vb p.1) := by rw [← e2]; exact rb.val p.1
    obtain ⟨y, hy, ry⟩ := rr.some_of
    obtain ⟨k, u⟩ := q
    have h1' : p.1 = k := h1
    have h2' : RelV p.2 u := h2
    rw [List.all_cons]
    obtain ⟨as, r1⟩ := Dp.reads I _ _ _ d1 h2'
    obtain ⟨bs, r2⟩ := Dp.reads I _ _ _ d2 ry
    rw [h1'] at hy
    exact .hit hy (SeqAt.eqAt_reads _ _ A s _ _ as bs r1 r2 (SeqAt.canLay_of_shaped s1) (SeqAt.canLay_of_shaped s2) (SeqAt.room_of_shaped s1 hu)) (ih fun p' hm => hp p' (List.mem_cons_of_mem _ hm))
def rEqDM (K : PySem.W.Frag) : R2 := fun x y H Q => ∃ (a b : Addr) (ks ls : List (Key × V)) (f g : Key → PyData), x = .ref a ∧ y = .ref b ∧ H a = some (.dK ks) ∧ H b = some (.dK ls) ∧ ks.length = ls.length ∧
  (∀ p ∈ ks, ∃ v, valV ls p.1 = some v ∧ Dp K H p.2 (f p.1) ∧ Dp K H v (g p.1) ∧ SeqAt.shaped (f p.1) = true ∧ SeqAt.shaped (g p.1) = true) ∧ Q (.bl (ks.all fun p => PyData.eqv (f p.1) (g p.1))) H
theorem op_eqDM (hu : X.A.units + 65 < cLine) : OpR X (compareOp .Eq) (rEqDM X.K) := by
  intro pins s σ H x y v u Q I rx ry h
  obtain ⟨a, b, ks, ls, f, g, rfl, rfl, ea, eb, hlen, hp, q⟩ := h
  obtain rfl : v = Value.ref a := rx
  obtain rfl : u = Value.ref b := ry
  obtain ⟨_, ya, va, ra, da⟩ := (show ObjOk X.prog X.w H s.heap a (.dK ks) from I.hok a _ ea)
  obtain ⟨_, yb, vb, rb, db⟩ := (show ObjOk X.prog X.w H s.heap b (.dK ls) from I.hok b _ eb)
  have hl : va.length = vb.length := by rw [← ra.length, ← rb.length]; exact hlen
  have h1 : X.A.in1.units + 64 < cLine := by
    have e : X.A.in1.units = X.A.units + 1 := rfl
    omega
  exact PySem.W.keq_eq (knd := mixKind X.prog X.w) ya yb da db (by omega) (fun _ => kdm_hits I h1 rb ra hp) (fin_bl I q (by simp [hl]))
end
end L2
set_option Elab.async false
set_option linter.all false
set_option maxRecDepth 100000
set_option maxHeartbeats 8000000
namespace K33
open PySem PySem.Spec PyProof.Rows L2 KB
def spEndOf : Sp := fun vs H Q _ => ∃ (c : Addr) (ls : List Ln) (N : Nat), vs = [.ref c] ∧ ChAt H c ls ∧ ls.length ≤ 60 ∧ IsUp ls N ∧ ∀ H', Same H H' → Q (.int (N : Int)) H'
def spRefW : Sp := fun vs H Q _ => ∃ (b c : Addr) (ks : List Nat) (m : Nat → Nat) (ls : List Ln) (N ah : Nat), vs = [.ref b, .ref c, .int (ah : Int)] ∧ MkAt H b ks m ∧ ks.Nodup ∧ ks.length ≤ 40 ∧ ChAt H c ls ∧ Ch ls ∧ IsUp ls N ∧ N ≤ ls.length ∧ (∀ l ∈ ls.take N, ∀ p ∈ l.d.r, p ∈ ks) ∧ (∀ l, ls.head? = some l → l.a = ah) ∧
  ¬ OkC ls N ah ks m ∧ ∀ H', Same H H' → Q (.bl true) H'
section
variable {P : Program} {w : World} {K : PySem.W.Frag} {mg : Str → Option Value} {base : Heap} {C : Addr}
abbrev s_end_of : Stmt := top 63
abbrev N_end_of : List Str := ["_law_lines", "_law_ends", "_law_at", "_law_line"]
theorem sc_end_of : FnScope N_end_of ["_law_lines"] (defScope s_end_of) := ⟨rfl, rfl, rfl, by decide +kernel, rfl, by decide +kernel, by decide +kernel⟩
theorem ok_end_of {f : Addr} {fd : FuncData} (F : FnP K "_law_end_of" s_end_of f fd) (Z : FreeS mg) :
    FnOk P w K mg base CX0 1 f fd ["_law_lines"] spEndOf := by
  refine F.ok sc_end_of (fun vs H Q E h => ?_) (fun cdv A outer s H vs Q E hr h => ?_)
  · obtain ⟨c, ls, N, rfl, _⟩ := h
    rfl
  · obtain ⟨c, ls, N, rfl, ⟨xs, hc, px⟩, l60, up, k⟩ := h
    have lx := paired_len px
    have sl : (3000 : Nat) ≤ sizeLine := by decide
    have nd := sc_end_of.nd
    refine ⟨_, PSs.nox (pss_cons (ps_setLc (i := 1) (own := [("_law_at", 2), ("_law_line", 3)]) (g := gTup K 2 (gCons (gName 2) (gCons (gName 3) (gNil)))) (tt := tB (tOp (rIxT K) (tVar 3) (tC (.int 2)))) (te := tOp (rI0 fun i j => .int (i + j)) (tVar 2) (tC (.int 1))) (by rfl) nd rfl rfl rfl (pi_enum (by rfl) Z.enumerate (pa_cons (pv 0) (pa_nil)))
          (blkOk_by (own := [("_law_at", 2), ("_law_line", 3)]) (N := N_end_of) (sc := defScope s_end_of) (by decide +kernel)) (fun _ _ _ _ _ => pg_tup rfl (pgs_cons (pg_name (i := 2) nd rfl (Or.inl rfl)) (pgs_cons (pg_name (i := 3) nd rfl (Or.inl rfl)) (pgs_nil)))) (fun _ _ _ _ _ => pts_one (pt_val (pe_ix ix_tup (pv 3) (pe_int) (fun _ _ => rfl))))
          (fun _ _ _ _ _ => pe_op op_add (pv 2) (pe_int)))
      (pss_one (ps_ret (pe_callB (cr_max rfl) (by rfl) Z.max (by decide +kernel) (pa_cons (pe_op op_cat (pv 1) (pe_lst (pa_cons (pe_int) (pa_nil)))) (pa_nil)))))), ?_⟩
    refine ⟨_, rfl, c, _, rfl, SqL.of hc, fun D hD => ?_⟩
    refine lc_sel (n := xs.length) (walk_enum (K := K) (a := c) (xs := xs)) (fun i => (ls[i]?).bind fun l => if l.c = true then some (V.int ((i + 1 : Nat) : Int)) else none) (by omega) hD (fun G s => SqL.of (s _ _ hc)) ?_ ?_
    · rintro i v H5 H6 Qy Qn hi s6 ⟨T, x1, x2, rfl, nT, rfl, g1, g2⟩ ky kn
      dsimp only at g1 g2
      obtain rfl := Option.some.inj g1
      obtain ⟨l, el, t, xd, rfl, ht, _⟩ := paired_get2 px g2
      have sT := Same.updf (o := .tup [V.int (i : Nat), V.ref t]) nT
      rw [el, Option.bind_some] at ky kn
      refine ⟨T, [_, _], rfl, .inl (.inl upd_same), rfl, _, [_], rfl, _, [], rfl, rfl, ?_⟩
      refine ⟨rfl, _, rfl, t, _, 2, _, rfl, rfl, SqT.of ((s6.trans sT) _ _ ht), rfl, _, rfl, ?_⟩
      cases hcc : l.c with
      | true =>
        rw [hcc] at ky
        exact iteT ⟨_, rfl, _, _, rfl, rfl, ky _ _ sT rfl⟩
      | false =>
        rw [hcc] at kn
        exact iteF (kn _ sT rfl)
    · intro H5 s5 hR
      obtain ⟨ns, ens⟩ : ∃ ns : List Int, ns = (List.range xs.length).filterMap fun i => (ls[i]?).bind fun l => if l.c = true then some (((i + 1 : Nat) : Int)) else none := ⟨_, rfl⟩
      have mem : ∀ x : Int, x ∈ ns ↔ ∃ i l, ls[i]? = some l ∧ l.c = true ∧ x = ((i + 1 : Nat) : Int) := fun x => by
        rw [ens, List.mem_filterMap]
        constructor
        · rintro ⟨i, _, h⟩
          cases el : ls[i]? with
          | none =>
            rw [el] at h
            cases h
          | some l =>
            rw [el, Option.bind_some] at h
            split at h
            · next hcc => exact ⟨i, l, el, hcc, (Option.some.inj h).symm⟩
            · cases h
        · rintro ⟨i, l, el, hcc, rfl⟩
          refine ⟨i, List.mem_range.mpr ?_, ?_⟩
          · have := (List.getElem?_eq_some_iff.mp el).1
            omega
          · rw [el, Option.bind_some, if_pos hcc]
      have lns : ns.length ≤ 60 := by
        rw [ens]
        refine Nat.le_trans (List.length_filterMap_le _ _) ?_
        rw [List.length_range]
        omega
      have hR2 : H5 D = some (.lst (ns.map V.int)) := by
        rw [hR, ens, List.map_filterMap]
        refine congrArg (fun f => some (HO.lst ((List.range xs.length).filterMap f))) (funext fun i => ?_)
        cases ls[i]? with
        | none => rfl
        | some l =>
          rw [Option.bind_some, Option.bind_some]
          split <;> rfl
      refine ⟨_, rfl, (by show 1 ≤ sizeLine; omega), fun B hB => ?_⟩
      have s6 := Same.updf (o := .lst [V.int 0]) hB
      refine ⟨D, B, _, _, rfl, rfl, s6 _ _ hR2, upd_same, (by rw [List.length_map]; show _ + 1 ≤ sizeLine; omega), fun F0 hF0 => ?_⟩
      have s7 := Same.updf (o := .lst (ns.map V.int ++ [V.int 0])) hF0
      have e2 : ns.map V.int ++ [V.int 0] = (ns ++ [0]).map V.int := by
        rw [List.map_append]
        rfl
      have hF1 := upd_same (H := upd H5 B (.lst [V.int 0])) (a := F0) (o := .lst (ns.map V.int ++ [V.int 0]))
      rw [e2] at hF1
      refine ⟨F0, ns ++ [0], rfl, SqL.of (upd_same.trans (by rw [e2])), (by rw [List.length_append]; show 0 < _ + 1; omega), fun mx m1 m2 => ?_⟩
      have emx : mx = (N : Int) := by
        have le1 : mx ≤ (N : Int) := by
          rcases List.mem_append.mp m1 with z | z
          · obtain ⟨i, l, el, hcc, rfl⟩ := (mem _).mp z
            have := up.lt i l el hcc
            omega
          · rw [List.mem_singleton.mp z]
            omega
        have h0 : (0 : Int) ≤ mx := m2 0 (List.mem_append_right _ List.mem_cons_self)
        rcases up.at_ with z | ⟨l, el, hcc⟩
        · omega
        · by_cases n0 : N = 0
          · omega
          · have := m2 (N : Int) (List.mem_append_left _ ((mem _).mpr ⟨N - 1, l, el, hcc, by omega⟩))
            omega
      rw [emx]
      exact k _ ((s5.trans s6).trans s7)
abbrev s_opening_refused_with : Stmt := top 67
abbrev N_opening_refused_with : List Str := ["_law_stamps", "_law_lines", "_law_ahead", "_law_caught", "e"]
theorem sc_opening_refused_with : FnScope N_opening_refused_with ["_law_stamps", "_law_lines", "_law_ahead"] (defScope s_opening_refused_with) := ⟨rfl, rfl, rfl, by decide +kernel, rfl, by decide +kernel, by decide +kernel⟩
theorem ok_opening_refused_with {f : Addr} {fd : FuncData} (F : FnP K "_law_opening_refused_with" s_opening_refused_with f fd) (Z : FreeS mg)
    {f_opened : Addr} {d_opened : FuncData} (g_opened : mg "opened" = some (.ref f_opened)) (F_opened : FnP K "opened" s_opened f_opened d_opened) (G_opened : FnOk P w K mg base (L2.CX P w) 8 f_opened d_opened ["stamps", "lines", "ahead"] (spOpened C)) {fI : Addr} {S : Addr} (T : ErrC K C fI) (gC : mg "Refused" = some (.ref C)) (gS : mg "StoreError" = some (.ref S)) (kS : PySem.W.exmOne K (.ref C) (.ref S) = some true) (kC : PySem.W.kitOne K (.ref C) (.ref C) = some true) :
    FnOk P w K mg base CX0 9 f fd ["_law_stamps", "_law_lines", "_law_ahead"] spRefW := by
  have b_opened : Binds K d_opened ["stamps", "lines", "ahead"] [] := F_opened.bindsN fun _ _ _ _ _ _ us hl => match us, hl with | [_, _, _], _ => rfl
  refine F.ok sc_opening_refused_with (fun vs H Q E h => ?_) (fun cdv A outer s H vs Q E hr h => ?_)
  · obtain ⟨b, c, ks, m, ls, N, ah, rfl, _⟩ := h
    rfl
  · obtain ⟨b, c, ks, m, ls, N, ah, rfl, hb, knd, k40, hc, cc, up, lN, sub, hd, no, k⟩ := h
    have sl : (3000 : Nat) ≤ sizeLine := by decide
    have hu65 : _ + 65 < cLine := Nat.lt_of_le_of_lt (Nat.add_le_add_left (by decide : 65 ≤ 200) _) (Nat.lt_of_le_of_lt (Nat.add_le_add_right (Nat.le_add_right _ _) _) hr.un)
    have nd := sc_opening_refused_with.nd
    refine ⟨_, PSs.nox (pss_cons (ps_set (i := 3) nd rfl (Or.inl rfl) (pe_non))
      (pss_cons (ps_try_keep (i := 4) rfl rfl rfl nd rfl rfl ⟨rfl, by decide, .inl gS⟩ takes0 (fun W pn xe tk _ => pss_one (ps_expr (pe_callS G_opened (hr.mono (by decide)) rfl g_opened F_opened.kp b_opened (fun σ => passAt tk σ) (pa_cons (pv 0) (pa_cons (pv 1) (pa_cons (pv 2) pa_nil)))))) (fun a oe cls d pn hz hf => pss_one (ps_set (i := 3) nd rfl (Or.inl rfl) (pv 4))))
      (pss_one (ps_ret (pe_and (pe_callB call_isK (by rfl) Z.isi (by decide +kernel) (pa_cons (pv 3) (pa_cons (pe_glob (v := .ref C) (by rfl) gC rfl) pa_nil))) (pe_one (pe_cmpR (op_eqDM hu65) (pe_keptVal (pv 3)) (pv 0) (nomark _)))))))), ?_⟩
    refine ⟨_, rfl, _, rfl, _, rfl, b, c, ks, m, ls, N, ah, rfl, hb, k40, hc, cc, up, lN, sub, hd, (fun o => absurd o no), fun _ d G sG hdd => ?_⟩
    refine ⟨true, kS, (fun z => nomatch z), fun _ a ha => ⟨_, rfl, ?_⟩⟩
    have sE := Same.updf (o := ExK (.ref C) (some d) a) ha
    have kp : Kept (upd G a (ExK (.ref C) (some d) a)) C (.ref b) (.ref a) := ⟨a, d, rfl, upd_same, sE _ _ hdd⟩
    have hbE := sE _ _ (sG _ _ hb)
    refine ⟨_, rfl, .ref a, C, .ref b, .ref C, .ref C, true, rfl, kp, T.xc, ClsV.own C, kC, true, rfl, iteT ?_⟩
    refine ⟨_, rfl, C, fI, .ref b, kp, T, _, rfl, ?_⟩
    obtain ⟨fk, hfk⟩ : ∃ fk : Key → PyData, fk = fun k : Key => match k with | .inl i => PyData.int (m i.toNat : Int) | _ => PyData.none := ⟨_, rfl⟩
    have hfp : ∀ p : Nat, fk (ky p) = .int (m p : Int) := fun p => by
      rw [hfk]
      rfl
    refine ⟨b, b, mV ks m, mV ks m, fk, fk, rfl, rfl, hbE, hbE, rfl, fun q hq => ?_, ?_⟩
    · obtain ⟨p, hp, rfl⟩ := List.mem_map.mp hq
      have e1 : SeqAt.shaped (PyData.int (m p : Int)) = true := rfl
      exact ⟨.int (m p : Int), mV_val hp, by rw [hfp]; exact .int _, by rw [hfp]; exact .int _, by rw [hfp]; exact e1, by rw [hfp]; exact e1⟩
    · have ea : ((mV ks m).all fun p => PyData.eqv (fk p.1) (fk p.1)) = true := by
        rw [List.all_eq_true]
        intro q hq
        obtain ⟨p, hp, rfl⟩ := List.mem_map.mp hq
        show PyData.eqv (fk (ky p)) (fk (ky p)) = true
        rw [hfp]
        simp [PyData.eqv]
      rw [ea]
      exact k _ (sG.trans sE)
end
end K33
set_option Elab.async false
set_option linter.all false
set_option maxRecDepth 100000
set_option maxHeartbeats 16000000
namespace K33
open PySem PySem.Spec PyProof.Rows L2 KB LiI
theorem mergeS {J R : Hp → Addr → Prop} {goal : Prop} (a : (∀ G q, J G q → R G q) → goal) (b : ∀ G q, J G q → R G q) : goal := a b
/-- the only way of a def that may raise -/
theorem rightWay {P : Program} {w : World} {K : PySem.W.Frag} {mg : Str → Option Value} {base : Heap} {k : Nat} {f : Addr} {fd : FuncData} {ps : List Str} {sp sp' : Sp} (F : FnOk P w K mg base (L2.CX P w) k f fd ps sp) (h : ∀ vs H Q E, sp' vs H Q E → sp vs H Q fun _ _ _ => False) : FnOk P w K mg base CX0 k f fd ps sp' :=
  ⟨fun vs H Q E q => F.len vs H Q _ (h _ _ _ _ q), fun A outer s H args us vs Q E hr he hb hv hs => codeAny_mono (F.run A outer s H args us vs Q _ hr he hb hv (h _ _ _ _ hs)) fun r s' q => by
    cases r with
    | error e =>
      obtain ⟨_, _, _, _, _, _, _, _, _, _, _, _, z⟩ := q
      exact z.elim
    | ok fl => cases fl <;> exact q⟩
def dsN (ls : List Ln) (N : Nat) : List Dd := (ls.take N).map (·.d)
/-- what does not change of stamps and a chain -/
structure Pr (ks : List Nat) (ls : List Ln) (N ah : Nat) : Prop where
  k40 : ks.length ≤ 40
  cc : Ch ls
  up : IsUp ls N
  lN : N ≤ ls.length
  sub : ∀ l ∈ ls.take N, ∀ p ∈ l.d.r, p ∈ ks
  hd : ∀ l, ls.head? = some l → l.a = ah
def spOpenedR : Sp := fun vs H Q _ => ∃ (b c : Addr) (ks : List Nat) (m : Nat → Nat) (ls : List Ln) (N ah : Nat), vs = [.ref b, .ref c, .int (ah : Int)] ∧ MkAt H b ks m ∧ ChAt H c ls ∧ Pr ks ls N ah ∧ OkC ls N ah ks m ∧
  ∀ T L H', Same H H' → H T = none → H L = none → H' T = some (.tup [.int (newC ls N ah : Int), .ref L]) → H' L = some (.lst (numsV (dueC ls N m))) → Q (.ref T) H'
theorem okR {P : Program} {w : World} {K : PySem.W.Frag} {mg : Str → Option Value} {base : Heap} {k : Nat} {f C : Addr} {fd : FuncData} (F : FnOk P w K mg base (L2.CX P w) k f fd ["stamps", "lines", "ahead"] (spOpened C)) : FnOk P w K mg base CX0 k f fd ["stamps", "lines", "ahead"] spOpenedR :=
  rightWay F fun vs H Q E ⟨b, c, ks, m, ls, N, ah, e, hb, hc, pr, ok, k⟩ => ⟨b, c, ks, m, ls, N, ah, e, hb, pr.k40, hc, pr.cc, pr.up, pr.lN, pr.sub, pr.hd, fun _ => k, fun no => absurd ok no⟩
def spOpRight : Sp := fun vs H Q _ => ∃ (pu : Addr) (x : V) (c b : Addr) (ks ps : List Nat) (m : Nat → Nat) (ls : List Ln) (N ah M : Nat), vs = [.ref pu, x, .ref c, .ref b, .int (ah : Int)] ∧ Purse H pu M ∧ M ≤ 2 ^ 36 ∧ ChAt (off H pu) c ls ∧ b ≠ pu ∧ MkAt H b ks m ∧ ks.Perm ps ∧ ps.Pairwise (· < ·) ∧ ks.length ≤ 20 ∧
  Pr ks ls N ah ∧ OkC ls N ah ks m ∧ Lg (dsN ls N) ∧ ls ≠ [] ∧ ls.length ≤ 20 ∧ ∀ H', But pu H H' → Purse H' pu (M + 100) → Q (.bl true) H'
theorem into2 {H X : Hp} {pu L : Addr} (b : But pu H X) (nL : H L = none) : Same (off H pu) (off (off X L) pu) := fun c o e => by
  have e2 := off_le _ _ _ _ e
  have n : c ≠ pu := fun z => by
    unfold off at e
    rw [if_pos z] at e
    cases e
  rw [off_at n, off_at (ne_of_none e2 nL)]
  exact b _ _ n e2
def lnD (l : Ln) : PyData := .tuple [.int (l.d.n : Int), .int (l.a : Int), .bool l.c, deedD l.d]
def chD (ls : List Ln) : PyData := .list (ls.map lnD)
theorem LnAt.tr {H : Hp} {x : V} {l : Ln} (h : LnAt H x l) (k : l.d.r.length ≤ 20) : Tr H 7 x (lnD l) := by
  obtain ⟨t, xd, rfl, ht, hd⟩ := h
  exact Tr.tup ht rfl (by simp) (tr_cons (Tr.flat (.int _)) (tr_cons (Tr.flat (.int _)) (tr_cons (Tr.flat (.bl _)) (tr_cons (hd.tr k) tr_nil))))
theorem ChAt.tr {H : Hp} {c : Addr} {ls : List Ln} (h : ChAt H c ls) (k : ∀ l ∈ ls, l.d.r.length ≤ 20) (l60 : ls.length ≤ 60) : Tr H 8 (.ref c) (chD ls) := by
  obtain ⟨xs, hc, px⟩ := h
  have lx := paired_len px
  refine Tr.lst hc (by rw [List.length_map]; omega) (by rw [List.length_map]; omega) fun i u e h1 h2 => ?_
  rw [List.getElem?_map] at h2
  obtain ⟨l, q1, rfl⟩ := Option.map_eq_some_iff.mp h2
  obtain ⟨y, e1, e2⟩ := paired_get1 px q1
  rw [h1] at e1
  cases e1
  exact e2.tr (k l (List.mem_of_getElem? q1))
theorem flat_bool {x : V} {n : Nat} {H : Hp} {b : Bool} (h : Tr H n x (.bool b)) : x = .bl b := by
  cases n with
  | zero =>
    have h' : FlatD x _ := h
    cases h'
    rfl
  | succ n =>
    rcases h with h | ⟨_, _, _, _, _, _, t, _⟩
    · cases h
      rfl
    · rcases t with ⟨_, e⟩ | ⟨_, e⟩ <;> cases e
theorem ln_of_tr {H : Hp} {x : V} {l : Ln} (h : Tr H 7 x (lnD l)) : LnAt H x l := by
  rcases h with h | ⟨t, xs, ds, rfl, l1, l2, tt, c⟩
  · cases h
  · rcases tt with ⟨_, e⟩ | ⟨ht, e⟩
    · cases e
    · cases e
      match xs, l1, ht, c with
      | [x0, x1, x2, x3], _, ht, c =>
        have e0 := flat_int (c 0 _ _ rfl rfl)
        have e1 := flat_int (c 1 _ _ rfl rfl)
        have e2 := flat_bool (c 2 _ _ rfl rfl)
        have e3 := deed_of_tr (c 3 _ _ rfl rfl)
        subst e0 e1 e2
        exact ⟨t, x3, rfl, ht, e3⟩
theorem ch_of_tr {H : Hp} {x : V} {ls : List Ln} (h : Tr H 8 x (chD ls)) : ∃ c, x = .ref c ∧ ChAt H c ls := by
  rcases h with h | ⟨a, xs, es, rfl, l1, l2, tt, c⟩
  · cases h
  · rcases tt with ⟨ha, e⟩ | ⟨_, e⟩
    · cases e
      rw [List.length_map] at l1
      refine ⟨a, rfl, xs, ha, ?_⟩
      clear ha l2
      induction ls generalizing xs with
      | nil =>
        cases xs with
        | nil => exact .nil
        | cons x xs => cases l1
      | cons l ls ih =>
        cases xs with
        | nil => cases l1
        | cons x xs => exact .cons (ln_of_tr (c 0 _ _ rfl rfl)) (ih xs (by simpa using l1) fun i u e h1 h2 => c (i + 1) u e h1 h2)
    · cases e
theorem up_pgs {ds : List Dd} (k : Nat) : pgs (ds.map (up k)) = pgs ds := asc_uniq (pgs_asc _) (pgs_asc _) fun x => by
  rw [pgs_mem, pgs_mem]
  constructor
  · rintro ⟨d, hd, hx⟩
    obtain ⟨e, he, rfl⟩ := List.mem_map.mp hd
    exact ⟨e, he, hx⟩
  · rintro ⟨d, hd, hx⟩
    exact ⟨_, List.mem_map.mpr ⟨d, hd, rfl⟩, hx⟩
theorem up_lg {ds : List Dd} (k : Nat) (hG : Lg ds) : Lg (ds.map (up k)) := by
  refine ⟨fun d hd => ?_, List.pairwise_map.mpr (hG.asc.imp fun h => ?_), by rw [List.length_map]; exact hG.len, ?_⟩
  · obtain ⟨e, he, rfl⟩ := List.mem_map.mp hd
    have o := hG.ok e he
    exact ⟨by have := o.n1; show 1 ≤ e.n + k; omega, o.asc, o.own, o.len, o.w, o.sz⟩
  · show _ + k < _ + k
    omega
  · rw [up_pgs]
    exact hG.pl
theorem n_inj {ds : List Dd} (hG : Lg ds) {d e : Dd} (hd : d ∈ ds) (he : e ∈ ds) (h : d.n = e.n) : d = e := by
  obtain ⟨i, hi, rfl⟩ := List.getElem_of_mem hd
  obtain ⟨j, hj, rfl⟩ := List.getElem_of_mem he
  rcases Nat.lt_trichotomy i j with z | z | z
  · have := List.pairwise_iff_getElem.mp hG.asc i j hi hj z
    omega
  · subst z
    rfl
  · have := List.pairwise_iff_getElem.mp hG.asc j i hj hi z
    omega
theorem only_one {ds : List Dd} (hG : Lg ds) {d : Dd} (hd : d ∈ ds) : (ds.filter fun e => decide (e.n = d.n)) = [d] := by
  have h1 : ∀ x ∈ ds.filter fun e => decide (e.n = d.n), x = d := fun x hx => by
    obtain ⟨h1, h2⟩ := List.mem_filter.mp hx
    exact n_inj hG h1 hd (of_decide_eq_true h2)
  have h2 : d ∈ ds.filter fun e => decide (e.n = d.n) := List.mem_filter.mpr ⟨hd, decide_eq_true rfl⟩
  have h3 : (ds.filter fun e => decide (e.n = d.n)).Pairwise fun d e => d.n < e.n := hG.asc.filter _
  generalize (ds.filter fun e => decide (e.n = d.n)) = l at *
  cases l with
  | nil => cases h2
  | cons x r =>
    cases r with
    | nil => rw [h1 x List.mem_cons_self]
    | cons y r =>
      have e1 := h1 x List.mem_cons_self
      have e2 := h1 y (List.mem_cons_of_mem _ List.mem_cons_self)
      have h4 := (List.pairwise_cons.mp h3).1 y List.mem_cons_self
      rw [e1, e2] at h4
      omega
theorem new_max {ls : List Ln} {N ah : Nat} (hG : Lg (dsN ls N)) (lN : N ≤ ls.length) {d : Dd} (hd : d ∈ dsN ls N) : d.n ≤ newC ls N ah := by
  obtain ⟨i, hi, rfl⟩ := List.getElem_of_mem hd
  have ld : (dsN ls N).length = N := by
    unfold dsN
    rw [List.length_map, List.length_take]
    omega
  have n0 : N ≠ 0 := by omega
  have el : ls[N - 1]? = some ls[N - 1] := List.getElem?_eq_getElem (by omega)
  have e1 : newC ls N ah = (dsN ls N)[N - 1].n := by
    unfold newC
    rw [if_neg n0, el]
    simp [dsN]
  rw [e1]
  by_cases z : i = N - 1
  · subst z
    exact Nat.le_refl _
  · have := List.pairwise_iff_getElem.mp hG.asc i (N - 1) hi (by omega) (by omega)
    omega
def PrAt (G : Hp) (p v : Nat) (y : V) : Prop := ∃ T, y = .ref T ∧ G T = some (.tup [.int (p : Int), .int (v : Int)])
theorem PrAt.but {pu : Addr} {G G' : Hp} {M : Nat} (hP : Purse G pu M) (k : But pu G G') {p v : Nat} {y : V} : PrAt G p v y → PrAt G' p v y := fun ⟨T, e, h⟩ => ⟨T, e, k T _ (fun z => by
  obtain ⟨_, _, _, _, e', _⟩ := hP
  rw [z, e'] at h
  cases h) h⟩
theorem PrAt.upd {D : Addr} {acc : List V} {o : HO} {G : Hp} (hD : G D = some (.lst acc)) {p v : Nat} {y : V} : PrAt G p v y → PrAt (upd G D o) p v y := fun ⟨T, e, h⟩ => ⟨T, e, (upd_ne (fun z => by
  rw [z, hD] at h
  cases h)).trans h⟩
theorem paired_put {R : Nat → Nat → V → Prop} {mm : Nat → Nat} {q v : Nat} : ∀ {ps : List Nat} {ws : List V}, q ∉ ps → Paired (fun p y => R p (mm p) y) ps ws → Paired (fun p y => R p (putN mm q v p) y) ps ws
  | _, _, _, .nil => .nil
  | p :: ps, _, n, .cons h t => by
    refine .cons ?_ (paired_put (fun z => n (List.mem_cons_of_mem _ z)) t)
    unfold putN
    rw [if_neg (fun z => n (by rw [← z]; exact List.mem_cons_self))]
    exact h
theorem purse_keep {G G' : Hp} {pu : Addr} {N : Nat} (h : Purse G pu N) (k : ∀ o, G pu = some o → G' pu = some o) : Purse G' pu N := by
  obtain ⟨A, B, c, i, e, r⟩ := h
  exact ⟨A, B, c, i, k _ e, r⟩
theorem unlockB {G X : Hp} {pu b : Addr} {od : Obj} {o : HO} (hb : G b = some o) (k : But pu (upd G b (.frz od o)) X) : But pu G (upd X b o) := fun c u n e => by
  by_cases z : c = b
  · rw [z, hb] at e
    cases e
    rw [z, upd_same]
  · rw [upd_ne z]
    exact k _ _ n (by rw [upd_ne z]; exact e)
/-- whether a number of what is due stays due -/
def keepB (ds : List Dd) (mm : Nat → Nat) (n : Nat) : Bool := ds.any fun d => decide (d.n = n ∧ mm d.p < d.n)
theorem keep_iff {ds : List Dd} (hG : Lg ds) {d : Dd} (hd : d ∈ ds) (mm : Nat → Nat) : keepB ds mm d.n = decide (mm d.p < d.n) := by
  unfold keepB
  rw [Bool.eq_iff_iff, List.any_eq_true, decide_eq_true_eq]
  constructor
  · rintro ⟨e, he, h⟩
    obtain ⟨h1, h2⟩ := of_decide_eq_true h
    rw [n_inj hG he hd h1] at h2
    exact h2
  · intro h
    exact ⟨d, hd, decide_eq_true ⟨rfl, h⟩⟩
theorem due_keep {ds : List Dd} (hG : Lg ds) {m mm : Nat → Nat} (h : ∀ d ∈ ds, m d.p ≤ mm d.p) : (((ds.filter fun d => decide (m d.p < d.n)).map (·.n)).filter (keepB ds mm)) = (ds.filter fun d => decide (mm d.p < d.n)).map (·.n) := by
  rw [List.filter_map, List.filter_filter]
  refine congrArg (List.map _) (List.filter_congr fun d hd => ?_)
  show (keepB ds mm d.n && decide (m d.p < d.n)) = decide (mm d.p < d.n)
  rw [keep_iff hG hd]
  have := h d hd
  rw [Bool.eq_iff_iff, Bool.and_eq_true, decide_eq_true_eq, decide_eq_true_eq]
  omega
theorem sel_dp1 (n : Nat) (ds : List Dd) : ((List.range ds.length).filterMap fun i => (ds[i]?).bind fun d => if decide (d.n = n) = true then some (V.int (d.p : Int)) else none) = numsV ((ds.filter fun d => decide (d.n = n)).map (·.p)) := by
  induction ds with
  | nil => rfl
  | cons x r ih =>
    rw [List.length_cons, List.range_succ_eq_map, List.filterMap_cons, List.filterMap_map, List.filter_cons]
    have e : ((fun i => ((x :: r)[i]?).bind fun d => if decide (d.n = n) = true then some (V.int (d.p : Int)) else none) ∘ Nat.succ) = fun i => (r[i]?).bind fun d => if decide (d.n = n) = true then some (V.int (d.p : Int)) else none := rfl
    rw [e, ih]
    by_cases h : x.n = n
    · simp [h, numsV]
    · simp [h, numsV]
theorem sel_dn (c : Dd → Bool) (ds : List Dd) : ((List.range ds.length).filterMap fun i => (ds[i]?).bind fun d => if c d = true then some (V.int (d.n : Int)) else none) = numsV ((ds.filter c).map (·.n)) := by
  induction ds with
  | nil => rfl
  | cons x r ih =>
    rw [List.length_cons, List.range_succ_eq_map, List.filterMap_cons, List.filterMap_map, List.filter_cons]
    have e : ((fun i => ((x :: r)[i]?).bind fun d => if c d = true then some (V.int (d.n : Int)) else none) ∘ Nat.succ) = fun i => (r[i]?).bind fun d => if c d = true then some (V.int (d.n : Int)) else none := rfl
    rw [e, ih]
    by_cases h : c x = true
    · simp [h, numsV]
    · simp [h, numsV]
section
variable {P : Program} {w : World} {K : PySem.W.Frag} {mg : Str → Option Value} {base : Heap}
abbrev s_opened_right : Stmt := top 64
abbrev N_opened_right : List Str := ["_law_purse_here", "_law_log_here", "_law_lines", "_law_marks", "_law_ahead", "_law_some", "_law_done", "_law_number", "_law_pages", "_law_deed", "_law_due", "_law_handed", "_law_lent", "_law_told", "_law_here", "_law_late", "_law_spin", "_law_shown", "_law_mine", "_law_again", "_law_low", "_law_rest", "_law_line", "_law_page"]
theorem sc_opened_right : FnScope N_opened_right ["_law_purse_here", "_law_log_here", "_law_lines", "_law_marks", "_law_ahead"] (defScope s_opened_right) := ⟨rfl, rfl, rfl, by decide +kernel, rfl, by decide +kernel, by decide +kernel⟩
theorem ok_opened_right {f : Addr} {fd : FuncData} (F : FnP K "_law_opened_right" s_opened_right f fd) (Z : FreeS mg)
    {f_opened : Addr} {d_opened : FuncData} (g_opened : mg "opened" = some (.ref f_opened)) (F_opened : FnP K "opened" s_opened f_opened d_opened) (G_opened : FnOk P w K mg base CX0 8 f_opened d_opened ["stamps", "lines", "ahead"] spOpenedR)
    {f_exact : Addr} {d_exact : FuncData} (g_exact : mg "_law_exact" = some (.ref f_exact)) (F_exact : FnP K "_law_exact" s_exact f_exact d_exact) (GA_exact : ∀ n : Nat, FnOk P w K mg base CX0 (n + 1) f_exact d_exact ["_law_mine", "_law_theirs"] (spExactD n))
    {f_same : Addr} {d_same : FuncData} (g_same : mg "_law_same" = some (.ref f_same)) (F_same : FnP K "_law_same" s_same f_same d_same) (GA_same : ∀ n : Nat, FnOk P w K mg base CX0 (n + 1) f_same d_same ["_law_thing"] (spSame n))
    {f_end_of : Addr} {d_end_of : FuncData} (g_end_of : mg "_law_end_of" = some (.ref f_end_of)) (F_end_of : FnP K "_law_end_of" s_end_of f_end_of d_end_of) (G_end_of : FnOk P w K mg base CX0 1 f_end_of d_end_of ["_law_lines"] spEndOf)
    {f_too_new : Addr} {d_too_new : FuncData} (g_too_new : mg "_law_too_new" = some (.ref f_too_new)) (F_too_new : FnP K "_law_too_new" s_too_new f_too_new d_too_new) (G_too_new : FnOk P w K mg base CX0 1 f_too_new d_too_new ["_law_log_here", "_law_marks"] spTooNew)
    {f_lines_told : Addr} {d_lines_told : FuncData} (g_lines_told : mg "lines_told" = some (.ref f_lines_told)) (F_lines_told : FnP K "lines_told" s_lines_told f_lines_told d_lines_told) (G_lines_told : FnOk P w K mg base CX0 8 f_lines_told d_lines_told ["stamps", "lines"] spLinesT)
    {f_of_pages : Addr} {d_of_pages : FuncData} (g_of_pages : mg "_law_of_pages" = some (.ref f_of_pages)) (F_of_pages : FnP K "_law_of_pages" s_of_pages f_of_pages d_of_pages) (G_of_pages : FnOk P w K mg base CX0 1 f_of_pages d_of_pages ["_law_log_here"] spOfP)
    {f_draw : Addr} {d_draw : FuncData} (g_draw : mg "_law_draw" = some (.ref f_draw)) (F_draw : FnP K "_law_draw" s_draw f_draw d_draw) (G_draw : FnOk P w K mg base CX0 2 f_draw d_draw ["_law_purse_here", "_law_many"] spDraw) :
    FnOk P w K mg base CX0 11 f fd ["_law_purse_here", "_law_log_here", "_law_lines", "_law_marks", "_law_ahead"] spOpRight := by
  have b_opened : Binds K d_opened ["stamps", "lines", "ahead"] [] := F_opened.bindsN fun _ _ _ _ _ _ us hl => match us, hl with | [_, _, _], _ => rfl
  have b_exact : Binds K d_exact ["_law_mine", "_law_theirs"] [] := F_exact.bindsN fun _ _ _ _ _ _ us hl => match us, hl with | [_, _], _ => rfl
  have b_same : Binds K d_same ["_law_thing"] [] := F_same.bindsN fun _ _ _ _ _ _ us hl => match us, hl with | [_], _ => rfl
  have b_end_of : Binds K d_end_of ["_law_lines"] [] := F_end_of.bindsN fun _ _ _ _ _ _ us hl => match us, hl with | [_], _ => rfl
  have b_too_new : Binds K d_too_new ["_law_log_here", "_law_marks"] [] := F_too_new.bindsN fun _ _ _ _ _ _ us hl => match us, hl with | [_, _], _ => rfl
  have b_lines_told : Binds K d_lines_told ["stamps", "lines"] [] := F_lines_told.bindsN fun _ _ _ _ _ _ us hl => match us, hl with | [_, _], _ => rfl
  have b_of_pages : Binds K d_of_pages ["_law_log_here"] [] := F_of_pages.bindsN fun _ _ _ _ _ _ us hl => match us, hl with | [_], _ => rfl
  have b_draw : Binds K d_draw ["_law_purse_here", "_law_many"] [] := F_draw.bindsN fun _ _ _ _ _ _ us hl => match us, hl with | [_, _], _ => rfl
  refine F.ok sc_opened_right (fun vs H Q E h => ?_) (fun cdv A outer s H vs Q E hr h => ?_)
  · obtain ⟨pu, x, c, b, ks, ps, m, ls, N, ah, M, rfl, _⟩ := h
    rfl
  · obtain ⟨pu, x, c, b, ks, ps, m, ls, N, ah, M, rfl, hP, hM, hc', nbp, hb, pm, asc, k20, pr, ok, lg, lne, l20, k⟩ := h
    have sl : (3000 : Nat) ≤ sizeLine := by decide
    have hu65 : _ + 65 < cLine := Nat.lt_of_le_of_lt (Nat.add_le_add_left (by decide : 65 ≤ 200) _) (Nat.lt_of_le_of_lt (Nat.add_le_add_right (Nat.le_add_right _ _) _) hr.un)
    have hu := Nat.lt_of_le_of_lt (Nat.add_le_add_left (by decide : 1 ≤ 65) _) hu65
    have hu0 := Nat.lt_of_succ_lt hu
    have nd := sc_opened_right.nd
    refine ⟨_, PSs.nox (pss_cons (ps_set (i := 5) nd rfl (Or.inl rfl) (pe_slice sl_list (pv 2) (po_none) (po_some (pe_call G_end_of (hr.mono (by decide)) rfl g_end_of F_end_of.kp b_end_of .nil pass0 (pa_cons (pv 2) (pa_nil))))))
      (pss_cons (ps_set (i := 6) nd rfl (Or.inr rfl) (pe_lc (own := [("_law_line", 22)]) (g := gName 22) (tt := tYes) (te := tOp (rIxT K) (tVar 22) (tC (.int 3))) (by rfl) nd (pi_list (pv 5))
          (blkOk_by (own := [("_law_line", 22)]) (N := N_opened_right) (sc := defScope s_opened_right) (by decide +kernel)) (fun _ _ _ _ _ => pg_name (i := 22) nd rfl (Or.inl rfl)) (fun _ _ _ _ _ => pts_nil)
          (fun _ _ _ _ _ => pe_ix ix_tup (pv 22) (pe_int) (fun _ _ => rfl))))
      (pss_cons (ps_set (i := 7) nd rfl (Or.inr rfl) (pe_ifExp (pt_cmpR (op_neE hu0) (pv 5) (pe_lst (pa_nil)) (nomark _)) (pe_ix ix_tup (pe_ix ix_list (pv 5) (pe_un un_neg (pe_int)) (fun _ _ => rfl)) (pe_int) (fun _ _ => rfl)) (pv 4)))
      (pss_cons (ps_set (i := 8) nd rfl (Or.inr rfl) (pe_callTy (call_dictPR rfl) (by rfl) Z.tdict (by decide +kernel) (pa_cons (pe_lock (pe_lc (own := [("_law_page", 23)]) (g := gName 23) (tt := tYes) (te := tTup (tCons (tVar 23) (tCons (tDGet (tVar 3) (tVar 23)) (tNil)))) (by rfl) nd (pi_keys (pv 3))
          (blkOk_by (own := [("_law_page", 23)]) (N := N_opened_right) (sc := defScope s_opened_right) (by decide +kernel)) (fun _ _ _ _ _ => pg_name (i := 23) nd rfl (Or.inl rfl)) (fun _ _ _ _ _ => pts_nil)
          (fun _ _ _ _ _ => pe_tup (pa_cons (pv 23) (pa_cons (pe_dget hu (pv 3) (pv 23) (fun _ _ => rfl)) (pa_nil)))))) (pa_nil))))
      (pss_cons (ps_setLc (i := 10) (own := [("_law_deed", 9)]) (g := gName 9) (tt := tTest (tOp (rI0 fun i j => .bl (decide (i < j))) (tDGet (tVar 8) (tOp (rIxT K) (tVar 9) (tC (.int 1)))) (tOp (rIxT K) (tVar 9) (tC (.int 0))))) (te := tOp (rIxT K) (tVar 9) (tC (.int 0))) (by rfl) nd rfl rfl rfl (pi_list (pv 6))
          (blkOk_by (own := [("_law_deed", 9)]) (N := N_opened_right) (sc := defScope s_opened_right) (by decide +kernel)) (fun _ _ _ _ _ => pg_name (i := 9) nd rfl (Or.inl rfl)) (fun _ _ _ _ _ => pts_one (pt_cmpR op_lt (pe_dget hu (pv 8) (pe_ix ix_tup (pv 9) (pe_int) (fun _ _ => rfl)) (fun _ _ => rfl)) (pe_ix ix_tup (pv 9) (pe_int) (fun _ _ => rfl)) (nomark _)))
          (fun _ _ _ _ _ => pe_ix ix_tup (pv 9) (pe_int) (fun _ _ => rfl)))
      (pss_cons (ps_par (i := 11) (j := 12) rfl nd rfl rfl (by decide) rfl rfl (pa_cons (pe_call (GA_same 8) (hr.mono (by decide)) rfl g_same F_same.kp b_same .nil pass0 (pa_cons (pv 2) pa_nil)) (pa_cons (pe_callTy call_dictDR (by rfl) Z.tdict (by decide +kernel) (pa_cons (pv 3) (pa_nil))) (pa_nil))) rfl)
      (pss_cons (ps_set (i := 13) nd rfl (Or.inl rfl) (pe_call G_opened (hr.mono (by decide)) rfl g_opened F_opened.kp b_opened .nil pass0 (pa_cons (pv 12) (pa_cons (pv 11) (pa_cons (pv 4) (pa_nil))))))
      (pss_cons (ps_if (pt_not (pt_val (pe_call (GA_exact 9) (hr.mono (by decide)) rfl g_exact F_exact.kp b_exact .nil pass0 (pa_cons (pe_lst (pa_cons (pv 13) (pa_cons (pv 11) (pa_cons (pe_listItems rfl (pv 12) (by rfl) Z.tlist rfl) (pa_nil))))) (pa_cons (pe_lst (pa_cons (pe_tup (pa_cons (pv 7) (pa_cons (pv 10) (pa_nil)))) (pa_cons (pv 2) (pa_cons (pe_listItems rfl (pv 3) (by rfl) Z.tlist rfl) (pa_nil))))) (pa_nil)))))) (pss_one (ps_ret (pe_bl))) (pss_nil))
      (pss_cons (ps_set (i := 14) nd rfl (Or.inr rfl) (pe_callTy call_dictDR (by rfl) Z.tdict (by decide +kernel) (pa_cons (pv 8) (pa_nil))))
      (pss_cons (ps_for PassesOwn.never rfl (pi_list (pv 10)) (pg_name (i := 15) nd rfl (Or.inr rfl))
        (pss_cons (ps_set (i := 9) nd rfl (Or.inl rfl) (pe_ix ix_list (pe_lc (own := [("_law_deed", 9)]) (g := gName 9) (tt := tTest (tOp rEq (tOp (rIxT K) (tVar 9) (tC (.int 0))) (tVar 15))) (te := tVar 9) (by rfl) nd (pi_list (pv 6))
          (blkOk_by (own := [("_law_deed", 9)]) (N := N_opened_right) (sc := defScope s_opened_right) (by decide +kernel)) (fun _ _ _ _ _ => pg_name (i := 9) nd rfl (Or.inl rfl)) (fun _ _ _ _ _ => pts_one (pt_cmpR op_eq (pe_ix ix_tup (pv 9) (pe_int) (fun _ _ => rfl)) (pv 15) (nomark _)))
          (fun _ _ _ _ _ => pv 9)) (pe_int) (fun _ _ => rfl)))
      (pss_one (ps_dput hu (pv 14) (pe_ix ix_tup (pv 9) (pe_int) (fun _ _ => rfl)) (pv 15) rfl))))
      (pss_cons (ps_for PassesOwn.never rfl (pi_range1 (by rfl) Z.range (pa_cons (pe_int) (pa_nil))) (pg_name (i := 16) nd rfl (Or.inl rfl))
        (pss_cons (ps_set (i := 17) nd rfl (Or.inr rfl) (pe_callTy (call_dictPR rfl) (by rfl) Z.tdict (by decide +kernel) (pa_cons (pe_lock (pe_lc (own := [("_law_page", 23)]) (g := gName 23) (tt := tYes) (te := tTup (tCons (tVar 23) (tCons (tIf (tTest (tOp rEq (tCall spDraw [] E0 (tCons (tVar 0) (tCons (tC (.int 2)) (tNil)))) (tC (.int 0)))) (tDGet (tVar 14) (tVar 23)) (tDGet (tVar 8) (tVar 23))) (tNil)))) (by rfl) nd (pi_keys (pv 8))
          (blkOk_by (own := [("_law_page", 23)]) (N := N_opened_right) (sc := defScope s_opened_right) (by decide +kernel)) (fun _ _ _ _ _ => pg_name (i := 23) nd rfl (Or.inl rfl)) (fun _ _ _ _ _ => pts_nil)
          (fun _ _ _ _ _ => pe_tup (pa_cons (pv 23) (pa_cons (pe_ifExp (pt_cmpR op_eq (pe_call G_draw (hr.mono (by decide)) rfl g_draw F_draw.kp b_draw .nil pass0 (pa_cons (pv 0) (pa_cons (pe_int) (pa_nil)))) (pe_int) (nomark _)) (pe_dget hu (pv 14) (pv 23) (fun _ _ => rfl)) (pe_dget hu (pv 8) (pv 23) (fun _ _ => rfl))) (pa_nil)))))) (pa_nil))))
      (pss_cons (ps_set (i := 18) nd rfl (Or.inl rfl) (pe_callTy (call_dictPR rfl) (by rfl) Z.tdict (by decide +kernel) (pa_cons (pe_lc (own := [("_law_page", 23)]) (g := gName 23) (tt := tYes) (te := tTup (tCons (tVar 23) (tCons (tDGet (tVar 17) (tVar 23)) (tNil)))) (by rfl) nd (pi_list (pe_call G_of_pages (hr.mono (by decide)) rfl g_of_pages F_of_pages.kp b_of_pages .nil pass0 (pa_cons (pv 6) (pa_nil))))
          (blkOk_by (own := [("_law_page", 23)]) (N := N_opened_right) (sc := defScope s_opened_right) (by decide +kernel)) (fun _ _ _ _ _ => pg_name (i := 23) nd rfl (Or.inl rfl)) (fun _ _ _ _ _ => pts_nil)
          (fun _ _ _ _ _ => pe_tup (pa_cons (pv 23) (pa_cons (pe_dget hu (pv 17) (pv 23) (fun _ _ => rfl)) (pa_nil))))) (pa_nil))))
      (pss_one (ps_if (pt_cmpR (op_eqE hu0) (pe_call G_too_new (hr.mono (by decide)) rfl g_too_new F_too_new.kp b_too_new .nil pass0 (pa_cons (pv 6) (pa_cons (pv 18) (pa_nil)))) (pe_lst (pa_nil)) (nomark _)) (pss_cons (ps_set (i := 19) nd rfl (Or.inl rfl) (pe_call G_opened (hr.mono (by decide)) rfl g_opened F_opened.kp b_opened .nil pass0 (pa_cons (pv 17) (pa_cons (pv 2) (pa_cons (pv 4) (pa_nil))))))
      (pss_one (ps_if (pt_not (pt_val (pe_call (GA_exact 9) (hr.mono (by decide)) rfl g_exact F_exact.kp b_exact .nil pass0 (pa_cons (pv 19) (pa_cons (pe_tup (pa_cons (pv 7) (pa_cons (pe_lc (own := [("_law_late", 15)]) (g := gName 15) (tt := tTest (tOp (rI0 fun i j => .bl (decide (j < i))) (tVar 15) (tDGet (tVar 17) (tOp (rIxL K) (tLc (iList K (tVar 6)) (gName 9) (tTest (tOp rEq (tOp (rIxT K) (tVar 9) (tC (.int 0))) (tVar 15))) (tOp (rIxT K) (tVar 9) (tC (.int 1))) [9]) (tC (.int 0)))))) (te := tVar 15) (by rfl) nd (pi_list (pv 10))
          (blkOk_by (own := [("_law_late", 15)]) (N := N_opened_right) (sc := defScope s_opened_right) (by decide +kernel)) (fun _ _ _ _ _ => pg_name (i := 15) nd rfl (Or.inr rfl)) (fun _ _ _ _ _ => pts_one (pt_cmpR op_gt (pv 15) (pe_dget hu (pv 17) (pe_ix ix_list (pe_lc (own := [("_law_deed", 9)]) (g := gName 9) (tt := tTest (tOp rEq (tOp (rIxT K) (tVar 9) (tC (.int 0))) (tVar 15))) (te := tOp (rIxT K) (tVar 9) (tC (.int 1))) (by rfl) nd (pi_list (pv 6))
          (blkOk_by (own := [("_law_deed", 9)]) (N := N_opened_right) (sc := ({ kind := .function, names := [(".0", .local), ("_law_late", .cell), ("_law_done", .cell), ("_law_shown", .cell)], isGenerator := false, isCoroutine := false } : Scope)) (by decide +kernel)) (fun _ _ _ _ _ => pg_name (i := 9) nd rfl (Or.inl rfl)) (fun _ _ _ _ _ => pts_one (pt_cmpR op_eq (pe_ix ix_tup (pv 9) (pe_int) (fun _ _ => rfl)) (pv 15) (nomark _)))
          (fun _ _ _ _ _ => pe_ix ix_tup (pv 9) (pe_int) (fun _ _ => rfl))) (pe_int) (fun _ _ => rfl)) (fun _ _ => rfl)) (nomark _)))
          (fun _ _ _ _ _ => pv 15)) (pa_nil)))) (pa_nil)))))) (pss_one (ps_ret (pe_bl))) (pss_nil)))) (pss_nil))))))
      (pss_cons (ps_expr (pe_bm PySem.F.plainAttrs_list PySem.F.slot_list_append PySem.F.type_list_append mt_append (pe_ix ix_tup (pv 13) (pe_int) (fun _ _ => rfl)) (pa_cons (pe_non) (pa_nil))))
      (pss_cons (ps_setLc (i := 20) (own := [("_law_page", 23)]) (g := gName 23) (tt := tTest (tOp (rI0 fun i j => .bl (decide (i ≤ j))) (tDGet (tVar 3) (tVar 23)) (tVar 7))) (te := tVar 23) (by rfl) nd rfl rfl rfl (pi_list (pe_callB ((cr_sortedDI rfl)) (by rfl) Z.sorted (by decide +kernel) (pa_cons (pv 3) (pa_nil))))
          (blkOk_by (own := [("_law_page", 23)]) (N := N_opened_right) (sc := defScope s_opened_right) (by decide +kernel)) (fun _ _ _ _ _ => pg_name (i := 23) nd rfl (Or.inl rfl)) (fun _ _ _ _ _ => pts_one (pt_cmpR op_le (pe_dget hu (pv 3) (pv 23) (fun _ _ => rfl)) (pv 7) (nomark _)))
          (fun _ _ _ _ _ => pv 23))
      (pss_cons (ps_setLc (i := 21) (own := [("_law_page", 23)]) (g := gName 23) (tt := tTest (tOp (rI0 fun i j => .bl (decide (j < i))) (tDGet (tVar 3) (tVar 23)) (tVar 7))) (te := tVar 23) (by rfl) nd rfl rfl rfl (pi_list (pe_callB ((cr_sortedDI rfl)) (by rfl) Z.sorted (by decide +kernel) (pa_cons (pv 3) (pa_nil))))
          (blkOk_by (own := [("_law_page", 23)]) (N := N_opened_right) (sc := defScope s_opened_right) (by decide +kernel)) (fun _ _ _ _ _ => pg_name (i := 23) nd rfl (Or.inl rfl)) (fun _ _ _ _ _ => pts_one (pt_cmpR op_gt (pe_dget hu (pv 3) (pv 23) (fun _ _ => rfl)) (pv 7) (nomark _)))
          (fun _ _ _ _ _ => pv 23))
      (pss_one (ps_ret (pe_call (GA_exact 9) (hr.mono (by decide)) rfl g_exact F_exact.kp b_exact .nil pass0 (pa_cons (pe_lst (pa_cons (pe_call G_opened (hr.mono (by decide)) rfl g_opened F_opened.kp b_opened .nil pass0 (pa_cons (pv 3) (pa_cons (pv 2) (pa_cons (pv 4) (pa_nil))))) (pa_cons (pe_call G_lines_told (hr.mono (by decide)) rfl g_lines_told F_lines_told.kp b_lines_told .nil pass0 (pa_cons (pv 12) (pa_cons (pv 11) (pa_nil)))) (pa_nil)))) (pa_cons (pe_lst (pa_cons (pe_tup (pa_cons (pv 7) (pa_cons (pv 10) (pa_nil)))) (pa_cons (pe_tup (pa_cons (pv 20) (pa_cons (pv 21) (pa_nil)))) (pa_nil)))) (pa_nil)))))))))))))))))))), ?_⟩
    obtain ⟨ds, eds⟩ : ∃ ds, ds = dsN ls N := ⟨_, rfl⟩
    rw [← eds] at lg
    have rin : ∀ d ∈ ds, ∀ p ∈ d.r, p ∈ ks := fun d hd p hp => by
      rw [eds] at hd
      obtain ⟨l, ml, rfl⟩ := List.mem_map.mp hd
      exact pr.sub l ml p hp
    obtain ⟨xs, hcx', px⟩ := id hc'
    have hcx := off_le _ _ _ _ hcx'
    have npc : c ≠ pu := fun z => by
      unfold off at hcx'
      rw [if_pos z] at hcx'
      cases hcx'
    have lx := paired_len px
    have l60 := pr.cc.len
    have lds : ds.length = N := by
      rw [eds]
      unfold dsN
      have := pr.lN
      rw [List.length_map, List.length_take]
      omega
    have lN := pr.lN
    refine ⟨_, rfl, _, rfl, c, ls, N, rfl, hc'.same (off_le _ _), l60, pr.up, fun G1 s1 => ⟨_, rfl, c, xs, rfl, SqL.of (s1 _ _ hcx), fun q5 hq5 => ?_⟩⟩
    rw [cut_n]
    have s2 := s1.trans (Same.updf (o := .lst (xs.take N)) hq5)
    have hq5' := upd_same (H := G1) (a := q5) (o := .lst (xs.take N))
    generalize upd G1 q5 (.lst (xs.take N)) = G2 at *
    have ltk : (xs.take N).length = N := by
      rw [List.length_take]
      omega
    refine ⟨_, rfl, q5, rfl, ⟨_, SqL.of hq5'⟩, fun D6 hD6 => ?_⟩
    have nD6 : D6 ≠ pu := fresh_ne (hP.same s2) hD6
    refine lc_rel (walk_list (K := K) (a := q5) (xs := xs.take N)) (fun _ => true) (fun i y G => ∃ l, ls[i]? = some l ∧ DeedAt (off G pu) y l.d) (fun i y G G' s ⟨l, e, h⟩ => ⟨l, e, h.same (off_same pu s)⟩) (by omega) hD6 (fun G s => SqL.of (s _ _ hq5')) ?_ ?_
    · rintro i y G3 G4 Qy Qn hi s3 ⟨acc, hacc⟩ ⟨rfl, hv⟩ ky_ kn_
      have hv2 : xs[i]? = some y := by
        rw [List.getElem?_take] at hv
        split at hv
        · exact hv
        · cases hv
      obtain ⟨l, el, t, xd, rfl, ht', hdd⟩ := paired_get2 px hv2
      refine ⟨rfl, _, rfl, t, _, 3, _, rfl, rfl, SqT.of ((s2.trans s3) _ _ (off_le _ _ _ _ ht')), rfl, ky_ _ _ rfl (Same.refl _) ⟨l, el, ?_⟩⟩
      exact hdd.same (into2 (But.of (s2.trans s3)) (none_back s2 hD6))
    rintro G3 ys s3 hys py
    rw [filter_true] at py
    have hL3 : LogAt (off G3 pu) D6 ds := ⟨ys, (off_at nD6).trans hys, by
      have := paired_len py
      rw [List.length_range] at this
      omega, fun i y d e1 e2 => by
      obtain ⟨j, ej, l, el, hdd⟩ := paired_get2 py e1
      have hj : j = i := by
        obtain ⟨h1, h2⟩ := List.getElem?_eq_some_iff.mp ej
        simpa using h2.symm
      subst hj
      rw [eds] at e2
      unfold dsN at e2
      rw [List.getElem?_map, List.getElem?_take] at e2
      split at e2
      · rw [el] at e2
        cases e2
        exact hdd.same (off_same pu (off_le _ _))
      · cases e2⟩
    have s13 := s2.trans s3
    have hq53 := s3 _ _ hq5'
    clear py hys s3
    obtain ⟨nw, enw⟩ : ∃ nw, nw = newC ls N ah := ⟨_, rfl⟩
    refine ⟨_, rfl, Nat.zero_le _, fun E hE => ⟨q5, E, _, rfl, rfl, SqL.of (Same.updf hE _ _ hq53), SqL.of upd_same, _, rfl, ?_⟩⟩
    have sE := Same.updf (o := .lst []) hE
    have s14 := s13.trans sE
    have hL4 := hL3.same (off_same pu sE)
    have hq54 := sE _ _ hq53
    generalize upd G3 E (.lst []) = G4 at *
    have lastN : N ≠ 0 → ∃ (t : Addr) (xd : V × V × V), (xs.take N)[(xs.take N).length - 1]? = some (V.ref t) ∧ G4 t = some (.tup [.int (nw : Int), xd.1, xd.2.1, xd.2.2]) := fun n0 => by
      obtain ⟨l, el⟩ : ∃ l, ls[N - 1]? = some l := ⟨_, List.getElem?_eq_getElem (by omega)⟩
      obtain ⟨y, ey, t, xd, rfl, ht', _⟩ := paired_get1 px el
      have e1 : l.d.n = nw := by
        rw [enw]
        unfold newC
        rw [if_neg n0, el]
        rfl
      refine ⟨t, (.int (l.a : Int), .bl l.c, xd), ?_, ?_⟩
      · rw [ltk, List.getElem?_take, if_pos (by omega)]
        exact ey
      · rw [← e1]
        exact s14 _ _ (off_le _ _ _ _ ht')
    apply mergeP
    · intro rest
      cases hz : (xs.take N).isEmpty with
      | false =>
        have n0 : N ≠ 0 := fun z => by
          rw [z] at hz
          cases hz
        obtain ⟨t, xd, e1, e2⟩ := lastN n0
        exact iteT ⟨_, rfl, _, rfl, q5, _, -1, _, rfl, rfl, SqL.of hq54, atL e1, t, _, 0, _, rfl, rfl, SqT.of e2, rfl, rest⟩
      | true =>
        have n0 : N = 0 := by
          rw [List.isEmpty_iff] at hz
          rw [hz] at ltk
          exact ltk.symm
        have e1 : nw = ah := by
          rw [enw]
          unfold newC
          rw [if_pos n0]
        have r2 := rest
        rw [e1] at r2
        exact iteF ⟨_, rfl, r2⟩
    have hb4 := s14 _ _ hb
    clear lastN hq54 hq53 hq5' hq5 hL3 s13 hE sE s2 s1 hD6
    have knd : ks.Nodup := pm.nodup_iff.mpr (asc.imp fun h => Nat.ne_of_lt h)
    have at_ : ∀ i, (hi : i < ks.length) → (mV ks m)[i]? = some (ky ks[i], .int (m ks[i] : Int)) := fun i hi => by
      unfold mV dV
      rw [List.getElem?_map, List.getElem?_eq_getElem hi]
      rfl
    have ldk : (mV ks m).length = ks.length := dV_len _ _
    refine ⟨b, _, hb4, trivial, fun od => ⟨_, rfl, b, od, rfl, .inl ⟨_, upd_same, fun D hD => ?_⟩⟩⟩
    have fb : upd G4 b (.frz od (.dK (mV ks m))) b = some (.frz od (.dK (mV ks m))) := upd_same
    have back : ∀ {X : Hp}, Same (upd G4 b (.frz od (.dK (mV ks m)))) X → Same G4 (upd X b (.dK (mV ks m))) := fun s => unlock hb4 s
    have nDb : D ≠ b := fun z => by
      rw [z, fb] at hD
      cases hD
    generalize upd G4 b (.frz od (.dK (mV ks m))) = F4 at *
    refine lc_rel (n := ks.length) (by have := walk_keys (d := b) (o := od) (kvs := mV ks m); rw [ldk] at this; exact this) (fun _ => true) (fun i y G => ∃ T, y = .ref T ∧ G T = some (.tup [kV (ky (ks.getD i 0)), .int (m (ks.getD i 0) : Int)])) (fun i y G G' s1 ⟨T, e, h⟩ => ⟨T, e, s1 _ _ h⟩) (by omega) hD (fun G s => s _ _ fb) ?_ ?_
    · rintro i v G5 G6 Qy Qn hi s5 ⟨acc, hacc⟩ ⟨rfl, k', v', ek, rfl⟩ ky_ kn_
      rw [at_ i hi] at ek
      cases ek
      have dgb : DGet G6 b (.int (ks[i] : Int)) (some (.int (m ks[i] : Int))) := .inl ⟨_, ky ks[i], .inr ⟨od, s5 _ _ fb⟩, rfl, (mV_val (List.getElem_mem hi)).symm⟩
      refine ⟨rfl, _, rfl, _, rfl, _, rfl, b, _, rfl, dgb, (by show 2 ≤ sizeLine; omega), fun T hT => ky_ _ _ rfl (Same.updf hT) ⟨T, rfl, ?_⟩⟩
      rw [off_at (ne_of_none hacc hT).symm, upd_same, List.getD_eq_getElem?_getD, List.getElem?_eq_getElem hi]
      rfl
    rintro G5 zs s5 hzs pz
    rw [filter_true] at pz
    obtain ⟨ts, rfl, pt⟩ := pairs_addr (K := K) (f := fun i => (ky (ks.getD i 0), V.int (m (ks.getD i 0) : Int))) (paired_mono (fun i y ⟨T, e, h⟩ => ⟨T, e, (upd_ne (H := G5) (o := .dK (mV ks m)) (fun z => by
        have h2 := off_le _ _ _ _ h
        rw [z, s5 _ _ fb] at h2
        cases h2)).trans (off_le _ _ _ _ h)⟩) pz)
    rw [range_map_get ks fun p => V.int (m p : Int)] at pt
    refine ⟨s5 _ _ fb, D, ts, _, rfl, SqL.of ((upd_ne nDb).trans hzs), pt, fun q8 hq8 => ?_⟩
    rw [merge_dV0 knd]
    have s6 := (back s5).trans (Same.updf (o := .dK (mV ks m)) hq8)
    have hq8' : MkAt (upd (upd G5 b (.dK (mV ks m))) q8 (.dK (mV ks m))) q8 ks m := upd_same
    have P4 := hP.same s14
    have nq8 : q8 ≠ pu := fresh_ne (P4.same (back s5)) hq8
    clear pz pt hzs s5 fb back hD hq8 nDb
    show tSeq _ _ _ _ (upd (upd G5 b (.dK (mV ks m))) q8 (.dK (mV ks m)))
    generalize upd (upd G5 b (.dK (mV ks m))) q8 (.dK (mV ks m)) = G6 at *
    have s16 := s14.trans s6
    have hL6 := hL4.same (off_same pu s6)
    obtain ⟨ys, hD6', ly, hy⟩ := id hL6
    have hD6 := off_le _ _ _ _ hD6'
    clear hL4 s6 s14 hb4 P4
    have dg : ∀ {G : Hp} {q : Addr} {f : Nat → Nat} {p : Nat}, MkAt G q ks f → p ∈ ks → DGet G q (.int (p : Int)) (some (.int (f p : Int))) := fun {G q f p} h hp => by
      have := DGet.k (k := ky p) h
      rw [mV_val hp] at this
      exact this
    refine ⟨_, rfl, D6, rfl, ⟨_, SqL.of hD6⟩, fun D10 hD10 => ?_⟩
    refine lc_sel (n := ys.length) (walk_list (K := K) (a := D6) (xs := ys)) (fun i => (ds[i]?).bind fun d => if decide (m d.p < d.n) = true then some (V.int (d.n : Int)) else none) (by omega) hD10 (fun G s => SqL.of (s _ _ hD6)) ?_ ?_
    · rintro i y H5 H6 Qy Qn hi s7 ⟨rfl, hv⟩ ky_ kn_
      have li : i < ds.length := by omega
      have hdi : ds[i]? = some ds[i] := List.getElem?_eq_getElem li
      have md := List.getElem_mem li
      obtain ⟨t, rd, tw, rfl, ht', _⟩ := hy i _ _ hv hdi
      have ht := s7 _ _ (off_le _ _ _ _ ht')
      rw [hdi, Option.bind_some] at ky_ kn_
      refine ⟨rfl, _, rfl, _, rfl, t, _, 1, _, rfl, rfl, SqT.of ht, rfl, q8, _, rfl, dg (s7 _ _ hq8') (rin _ md _ (lg.ok _ md).own), _, rfl, t, _, 0, _, rfl, rfl, SqT.of ht, rfl, _, _, rfl, rfl, _, rfl, ?_⟩
      by_cases c1 : m ds[i].p < ds[i].n
      · rw [decide_eq_true (show (m ds[i].p : Int) < (ds[i].n : Int) by omega)]
        rw [decide_eq_true c1] at ky_
        exact iteT ⟨_, rfl, t, _, 0, _, rfl, rfl, SqT.of ht, rfl, ky_ _ _ (Same.refl _) rfl⟩
      · rw [decide_eq_false (show ¬ (m ds[i].p : Int) < (ds[i].n : Int) by omega)]
        rw [decide_eq_false c1] at kn_
        exact iteF (kn_ _ (Same.refl _) rfl)
    intro G7 s7 hR
    rw [ly, sel_dn] at hR
    obtain ⟨du, edu⟩ : ∃ du, du = (ds.filter fun d => decide (m d.p < d.n)).map (·.n) := ⟨_, rfl⟩
    rw [← edu] at hR
    have ldu : du.length ≤ 60 := by
      rw [edu, List.length_map]
      exact Nat.le_trans (List.length_filter_le _ _) lg.len
    have s17 := s16.trans s7
    have hL7 := hL6.same (off_same pu s7)
    have hq87 : MkAt G7 q8 ks m := s7 _ _ hq8'
    have lsr : ∀ l ∈ ls, l.d.r.length ≤ 20 := fun l hl => (pr.cc.ok l hl).fit.ok.len
    have chH := hc'.same (off_le _ _)
    have nD10 : D10 ≠ pu := fresh_ne (hP.same s16) hD10
    clear hL6 hD6 hD6' hy ly s7 s16 hq8' hD10
    refine ⟨_, rfl, .ref c, chD ls, rfl, (chH.same s17).tr lsr l60, fun yh G8 s8 trh => ?_⟩
    obtain ⟨q11, rfl, hch8⟩ := ch_of_tr trh
    have ch8 : ChAt (off G8 pu) q11 ls := hch8.same fun c o e => by
      rw [off_at (fresh_ne (hP.same s17) (nw_none e))]
      exact nw_le _ _ _ _ e
    refine ⟨_, rfl, b, _, rfl, .inl ((s17.trans s8) _ _ hb), fun q12 hq12 => ⟨_, _, rfl, ?_⟩⟩
    have s9 := Same.updf (o := .dK (mV ks m)) hq12
    have nq12 : q12 ≠ pu := fresh_ne (hP.same (s17.trans s8)) hq12
    have hq12' : MkAt (upd G8 q12 (.dK (mV ks m))) q12 ks m := upd_same
    have s79 := s8.trans s9
    have ch9 := ch8.same (off_same pu s9)
    have hL9 := hL7.same (off_same pu s79)
    have hq89 := s79 _ _ hq87
    have hR9 := s79 _ _ hR
    have s19 := s17.trans s79
    clear s8 s9 ch8 hch8 trh hq12 hL7 hq87 hR s17 s79
    show tSeq _ _ _ _ (upd G8 q12 (.dK (mV ks m)))
    generalize upd G8 q12 (.dK (mV ks m)) = G9 at *
    refine ⟨_, rfl, _, rfl, _, rfl, q12, q11, ks, m, ls, N, ah, rfl, hq12', ch9.same (off_le _ _), pr, ok, fun T13 L13 G10 s10 nT13 nL13 hT13 hL13 => ?_⟩
    rw [← enw] at hT13
    have edue : dueC ls N m = du := by
      rw [edu, eds]
      rfl
    rw [edue] at hL13
    have s110 := s19.trans s10
    have hq1210 : MkAt G10 q12 ks m := s10 _ _ hq12'
    have hb10 := s110 _ _ hb
    refine ⟨_, rfl, _, rfl, _, rfl, q12, _, rfl, hq1210, fun G11 pl1 ts1 s11 npl1 nts1 nin1 hpl1 pts1 => ⟨(by show 3 ≤ sizeLine; omega), fun A1 hA1 => ?_⟩⟩
    have s11' : Same G10 G11 := s11
    have s12 := Same.updf (o := .lst [V.ref T13, V.ref q11, V.ref pl1]) hA1
    have hA1' := upd_same (H := G11) (a := A1) (o := .lst [V.ref T13, V.ref q11, V.ref pl1])
    generalize upd G11 A1 (.lst [V.ref T13, V.ref q11, V.ref pl1]) = G12 at *
    refine ⟨_, rfl, _, rfl, (by show 2 ≤ sizeLine; omega), fun A2 hA2 => ?_⟩
    have s13 := Same.updf (o := .tup [V.int (nw : Int), V.ref D10]) hA2
    have hA2' := upd_same (H := G12) (a := A2) (o := .tup [V.int (nw : Int), V.ref D10])
    generalize upd G12 A2 (.tup [V.int (nw : Int), V.ref D10]) = G13 at *
    have s1013 := (s11'.trans s12).trans s13
    refine ⟨_, rfl, _, rfl, b, _, rfl, s1013 _ _ hb10, fun G14 pl2 ts2 s14 npl2 nts2 nin2 hpl2 pts2 => ⟨(by show 3 ≤ sizeLine; omega), fun A3 hA3 => ?_⟩⟩
    have s14' : Same G13 G14 := s14
    have s15 := Same.updf (o := .lst [V.ref A2, V.ref c, V.ref pl2]) hA3
    have s1315 := s14'.trans s15
    have hA3' := upd_same (H := G14) (a := A3) (o := .lst [V.ref A2, V.ref c, V.ref pl2])
    have tsl : ∀ {G : Hp} {T L : Addr} {l : List Nat}, l.length ≤ 1000 → G T = some (.tup [V.int (nw : Int), V.ref L]) → G L = some (.lst (numsV l)) → TD G 8 (.ref T) (.tuple [.int (nw : Int), .list (numsD l)]) := fun {G T L l} h0 h1 h2 => TD.of (Tr.tup h1 rfl (by simp) (tr_cons (Tr.flat (.int _)) (tr_cons (tr_nums h2 h0) tr_nil)))
    have tsd : ∀ {G : Hp} {T L : Addr}, G T = some (.tup [V.int (nw : Int), V.ref L]) → G L = some (.lst (numsV du)) → TD G 8 (.ref T) (.tuple [.int (nw : Int), .list (numsD du)]) := fun {G T L} h1 h2 => tsl (by omega) h1 h2
    have s1015 := s1013.trans s1315
    refine ⟨.ref A1, .ref A3, .list [.tuple [.int (nw : Int), .list (numsD du)], chD ls, itD ks m], rfl, ?_, ?_, fun G15 s16 => ⟨true, rfl, iteF ?_⟩⟩
    · refine TD.lst ((s13.trans s1315) _ _ hA1') rfl (by simp) (td_cons (tsd (s1015 _ _ hT13) (s1015 _ _ hL13)) (td_cons (TD.of ((((ch9.same (off_le _ _)).same s10).same s1015).tr lsr l60)) (td_cons (td_le (it_td ((s12.trans (s13.trans s1315)) _ _ hpl1) (paired_mono (fun t q h => (s12.trans (s13.trans s1315)) _ _ h) pts1) (by omega)) 6) td_nil)))
    · refine TD.lst hA3' rfl (by simp) (td_cons (tsd (s1315 _ _ hA2') (s1015 _ _ (s10 _ _ hR9))) (td_cons (TD.of ((chH.same (s110.trans s1015)).tr lsr l60)) (td_cons (td_le (it_td (s15 _ _ hpl2) (paired_mono (fun t q h => s15 _ _ h) pts2) (by omega)) 6) td_nil)))
    have s1016 := s1015.trans s16
    have s116 := s110.trans s1016
    have hq816 : MkAt G15 q8 ks m := s1016 _ _ (s10 _ _ hq89)
    have hL16 := hL9.same (off_same pu (s10.trans s1016))
    have hR16 := s1016 _ _ (s10 _ _ hR9)
    have ch16 := ch9.same (off_same pu (s10.trans s1016))
    have hq1216 : MkAt G15 q12 ks m := s1016 _ _ hq1210
    have hT16 := s1016 _ _ hT13
    have hL1316 := s1016 _ _ hL13
    have nL13H : H L13 = none := none_back s19 nL13
    have nT13H : H T13 = none := none_back s19 nT13
    have nL13R : L13 ≠ D10 := (ne_of_none hR9 nL13).symm
    have s916 : Same G9 G15 := s10.trans s1016
    clear s11 s11' s12 s13 s14 s14' s15 s1013 s1315 s1015 s16 s1016 hA1' hA2' hA3' hA1 hA2 hA3 hpl1 hpl2 pts1 pts2 npl1 npl2 nts1 nts2 nin1 nin2 hb10 hq1210
    refine ⟨_, rfl, q8, _, rfl, .inl hq816, fun q14 hq14 => ?_⟩
    have sB := Same.updf (o := .dK (mV ks m)) hq14
    have PB := (hP.same s116).same sB
    have nq14 : q14 ≠ pu := fresh_ne (hP.same s116) hq14
    have hq14' : MkAt (upd G15 q14 (.dK (mV ks m))) q14 ks m := upd_same
    have nHq14 : H q14 = none := none_back s116 hq14
    have n9q14 : G9 q14 = none := none_back s916 hq14
    have sHB := s116.trans sB
    have s9B := s916.trans sB
    have hLB := hL16.same (off_same pu sB)
    have hRB := sB _ _ hR16
    have nRq14 : D10 ≠ q14 := ne_of_none hR16 hq14
    have hTB := sB _ _ hT16
    have hL13B := sB _ _ hL1316
    have nTq14 : T13 ≠ q14 := ne_of_none hT16 hq14
    have nLq14 : L13 ≠ q14 := ne_of_none hL1316 hq14
    have hq8B : MkAt (upd G15 q14 (.dK (mV ks m))) q8 ks m := sB _ _ hq816
    have nq8q14 : q8 ≠ q14 := ne_of_none hq816 hq14
    have hL15 : LogAt (off (off G15 pu) q14) D6 ds := hL16.same fun c o e => by
      rw [off_at (ne_of_none (off_le _ _ _ _ e) hq14)]
      exact e
    clear hL16 hR16 ch16 hq1216 hT16 hL1316 s116 s916 s110 s19 hq14 sB hq816
    have hL15' : LogAt (off (off (upd G15 q14 (.dK (mV ks m))) pu) q14) D6 ds := hL15.same (by rw [off2_upd]; exact Same.refl _)
    clear hL15 hLB
    generalize upd G15 q14 (.dK (mV ks m)) = B at *
    have ldv : (numsV du).length = du.length := List.length_map _
    have duM : ∀ y ∈ du, ∃ d ∈ ds, d.n = y ∧ m d.p < d.n := fun y hy => by
      rw [edu] at hy
      obtain ⟨d, hd, rfl⟩ := List.mem_map.mp hy
      obtain ⟨h1, h2⟩ := List.mem_filter.mp hd
      exact ⟨d, h1, rfl, of_decide_eq_true h2⟩
    have dnw : ∀ d ∈ ds, d.n ≤ nw := fun d hd => by
      rw [enw]
      exact new_max (by rw [← eds]; exact lg) lN (by rw [← eds]; exact hd)
    refine ⟨_, rfl, D10, rfl, ⟨_, SqL.of hRB⟩, ?_⟩
    refine for_it (n := (numsV du).length) (walk_list (K := K) (a := D10) (xs := numsV du)) (fun i σ G => But q14 B G ∧ ∃ v9 v15 mh, MkAt G q14 ks mh ∧ (∀ p ∈ ks, m p ≤ mh p ∧ mh p ≤ nw) ∧ σ = [some (.ref pu), some x, some (.ref c), some (.ref b), some (.int (ah : Int)), some (.ref q5), some (.ref D6), some (.int (nw : Int)), some (.ref q8), v9, some (.ref D10), some (.ref q11), some (.ref q12), some (.ref T13), some (.ref q14), v15, none, none, none, none, none, none, none, none])
      ⟨But.refl _ _, _, _, m, hq14', fun p hp => ⟨Nat.le_refl _, by rw [enw]; exact ok.2 p hp⟩, rfl⟩ (fun i σ G _ hh => SqL.of (hh.1 _ _ nRq14 hRB)) ?_ ?_
    · rintro i y σ G G' hi ⟨bG, v9, v15, mh, hmh, bmh, rfl⟩ ⟨rfl, hv⟩
      have li : i < du.length := by omega
      unfold numsV at hv
      rw [List.getElem?_map, List.getElem?_eq_getElem li] at hv
      obtain rfl := Option.some.inj hv
      obtain ⟨d, hd, ed, hmd⟩ := duM _ (List.getElem_mem li)
      rw [← ed]
      have hLG : LogAt G' D6 ds := (hL15'.same (fun c o e => by
        have n1 : c ≠ q14 := fun z => by
          unfold off at e
          rw [if_pos z] at e
          cases e
        have e2 := off_le _ _ _ _ (off_le _ _ _ _ e)
        exact bG _ _ n1 e2))
      obtain ⟨ys, hD6, ly, hy⟩ := id hLG
      refine ⟨_, rfl, D6, rfl, ⟨_, SqL.of hD6⟩, fun Dd0 hDd0 => ?_⟩
      refine lc_rel (walk_list (K := K) (a := D6) (xs := ys)) (fun i => ((ds[i]?).map fun e => decide (e.n = d.n)).getD false) (fun i y G => ∃ d, ds[i]? = some d ∧ DeedAt G y d) (fun i y G G' s ⟨d, e, h⟩ => ⟨d, e, h.same s⟩) (by have := lg.len; omega) hDd0 (fun G s => SqL.of (s _ _ hD6)) ?_ ?_
      · rintro j y G3 G4 Qy Qn hj s3 ⟨acc, hacc⟩ ⟨rfl, hv⟩ ky_ kn_
        have lj : j < ds.length := by omega
        have hdj : ds[j]? = some ds[j] := List.getElem?_eq_getElem lj
        rw [hdj] at ky_ kn_
        have hyj := hy j _ _ hv hdj
        obtain ⟨t, rd, tw, rfl, ht, _⟩ := hyj.same s3
        refine ⟨rfl, _, rfl, t, _, 0, _, rfl, rfl, SqT.of ht, rfl, _, rfl, rfl, _, rfl, ?_⟩
        by_cases c1 : ds[j].n = d.n
        · rw [decide_eq_true (show V.int (ds[j].n : Int) = V.int (d.n : Int) by rw [c1])]
          refine iteT ⟨_, rfl, ky_ _ _ (decide_eq_true c1) (Same.refl _) ⟨ds[j], rfl, hyj.same fun a o e => ?_⟩⟩
          rw [off_at (ne_of_none e hDd0)]
          exact s3 _ _ e
        · rw [decide_eq_false (show ¬ V.int (ds[j].n : Int) = V.int (d.n : Int) from fun z => c1 (by have := V.int.inj z; omega))]
          exact iteF (kn_ _ (decide_eq_false c1) (Same.refl _))
      rintro G3 zs s3 hzs pz
      rw [ly] at pz
      have pz2 := paired_selA (c := fun e : Dd => decide (e.n = d.n)) pz
      rw [only_one lg hd] at pz2
      cases pz2 with
      | @cons _ z0 _ zr hz0 pzr =>
      obtain ⟨t, rd, tw, rfl, ht', _⟩ := hz0
      have ht := off_le _ _ _ _ ht'
      have hm3 : MkAt G3 q14 ks mh := s3 _ _ hmh
      refine ⟨Dd0, _, 0, _, rfl, rfl, SqL.of hzs, at0 rfl, ?_⟩
      refine ⟨_, rfl, _, rfl, _, rfl, t, _, 1, _, rfl, rfl, SqT.of ht, rfl, q14, _, rfl, DPut.k (k := ky d.p) hm3 (by rw [dV_len]; omega), ?_⟩
      have mp := rin _ hd _ (lg.ok _ hd).own
      rw [mV_put mp]
      refine ⟨fun c' o n e => (upd_ne n).trans (s3 _ _ (bG _ _ n e)), _, _, putN mh d.p d.n, upd_same, fun p hp => ?_, rfl⟩
      unfold putN
      split
      · next e =>
        rw [e]
        exact ⟨Nat.le_of_lt hmd, dnw _ hd⟩
      · exact bmh p hp
    rintro σ G17 ⟨bG, v9, v15, mh, hmh, bmh, rfl⟩
    have sH17 : Same H G17 := fun c' o e => bG _ _ (fun z => by rw [z, nHq14] at e; cases e) (sHB _ _ e)
    have s917 : Same G9 G17 := fun c' o e => bG _ _ (fun z => by rw [z, n9q14] at e; cases e) (s9B _ _ e)
    have P17 : Purse G17 pu M := purse_keep PB fun o e => bG _ _ nq14.symm e
    have hT17 := bG _ _ nTq14 hTB
    have hL1317 := bG _ _ nLq14 hL13B
    have nT13 : T13 ≠ pu := fun z => by
      obtain ⟨_, _, _, _, e, _⟩ := P17
      rw [z, e] at hT17
      cases hT17
    have nL13p : L13 ≠ pu := fun z => by
      obtain ⟨_, _, _, _, e, _⟩ := hP
      rw [z, e] at nL13H
      cases nL13H
    have hq817 : MkAt G17 q8 ks m := s917 _ _ hq89
    have hLo := hL9.same (off_same pu s917)
    have hc17 := hc'.same (off_same pu sH17)
    have hR17 := s917 _ _ hR9
    have dr : ∀ m : Int, 1 ≤ m → m < 300 → ∀ M', M' ≤ 2 ^ 37 → ∀ H', Purse H' pu M' → 1 ≤ m ∧ m.natAbs.log2 < 9000 ∧ Purse H' pu M' ∧ M' + mixes m ≤ 2 ^ 50 ∧ mixes m ≤ 2 ^ 50 := fun m h1 h2 M' hM H' hP' => by
      rw [mixes_one h1 (by omega)]
      exact ⟨h1, log_small h1 (by omega), hP', by omega, by omega⟩
    clear bG hTB hL13B hLo hL15' hRB hq8B sHB s9B PB nHq14 n9q14 hq14' hT13 hL13
    have hLo := hL9.same (off_same pu s917)
    refine ⟨3, rfl, by decide, by decide, ?_⟩
    refine for_it (n := 3) (walk_range (lo := 0) (n := 3)) (fun i σ G => But pu G17 G ∧ (∃ M', Purse G pu M' ∧ M' ≤ M + 20 * i) ∧ ∃ v9 v15 v16 v17 v18 v19, σ = [some (.ref pu), some x, some (.ref c), some (.ref b), some (.int (ah : Int)), some (.ref q5), some (.ref D6), some (.int (nw : Int)), some (.ref q8), v9, some (.ref D10), some (.ref q11), some (.ref q12), some (.ref T13), some (.ref q14), v15, v16, v17, v18, v19, none, none, none, none])
      ⟨But.refl _ _, ⟨M, P17, by omega⟩, _, _, _, _, _, _, rfl⟩ (fun i σ G _ _ => trivial) ?_ ?_
    · rintro i y σ G G' hi ⟨bG, ⟨M', PG, lM⟩, v9', v15', v16, v17, v18, v19, rfl⟩ ⟨rfl, rfl⟩
      have hq8G : MkAt G' q8 ks m := bG _ _ nq8 hq817
      have hq14G : MkAt G' q14 ks mh := bG _ _ nq14 hmh
      refine ⟨q8, _, hq8G, trivial, fun od => ⟨_, rfl, q8, od, rfl, .inl ⟨_, upd_same, fun D hD => ?_⟩⟩⟩
      have fb : upd G' q8 (.frz od (.dK (mV ks m))) q8 = some (.frz od (.dK (mV ks m))) := upd_same
      have fq14 : upd G' q8 (.frz od (.dK (mV ks m))) q14 = some (.dK (mV ks mh)) := (upd_ne nq8q14.symm).trans hq14G
      have back : ∀ {X : Hp}, But pu (upd G' q8 (.frz od (.dK (mV ks m)))) X → But pu G' (upd X q8 (.dK (mV ks m))) := fun s => unlockB hq8G s
      have PF : Purse (upd G' q8 (.frz od (.dK (mV ks m)))) pu M' := PG.same' (upd_ne nq8.symm)
      have nDq8 : D ≠ q8 := fun z => by
        rw [z, fb] at hD
        cases hD
      have nDp : D ≠ pu := fresh_ne PF hD
      generalize upd G' q8 (.frz od (.dK (mV ks m))) = F4 at *
      refine lc_it (n := ks.length) (by have := walk_keys (d := q8) (o := od) (kvs := mV ks m); rw [ldk] at this; exact this) (fun j H5 => But pu F4 H5 ∧ (∃ M2, Purse H5 pu M2 ∧ M2 ≤ M' + j) ∧ ∃ (ws : List V) (mm : Nat → Nat), H5 D = some (.lst ws) ∧ ws.length = j ∧ Paired (fun p y => PrAt H5 p (mm p) y) (ks.take j) ws ∧ ∀ p ∈ ks.take j, m p ≤ mm p ∧ mm p ≤ nw)
        ⟨But.of (Same.updf hD), ⟨_, PF.same (Same.updf hD), by omega⟩, [], fun _ => 0, upd_same, rfl, by rw [List.take_zero]; exact .nil, fun p hp => by rw [List.take_zero] at hp; cases hp⟩ (fun j H5 _ hh => hh.1 _ _ nq8 fb) ?_ ?_
      · rintro j v H5 H6 hj ⟨b5, ⟨M2, P5, lM2⟩, ws, mm, hws, lws, pws, bmm⟩ ⟨rfl, k', v', ek, rfl⟩
        rw [at_ j hj] at ek
        cases ek
        have tk1 : ks.take (j + 1) = ks.take j ++ [ks[j]] := by
          rw [List.take_succ, List.getElem?_eq_getElem hj]
          rfl
        have nin : ks[j] ∉ ks.take j := fun z => by
          obtain ⟨j', hj', e⟩ := List.getElem_of_mem z
          rw [List.getElem_take] at e
          rw [List.length_take] at hj'
          exact List.pairwise_iff_getElem.mp knd j' j (by omega) hj (by omega) e
        have mp := List.getElem_mem hj
        obtain ⟨d1, d2, d3, d4, d5⟩ := dr 2 (by decide) (by decide) M2 (by omega) _ P5
        refine ⟨rfl, _, rfl, _, rfl, pu, 2, M2, rfl, d1, d2, d3, d4, d5, fun r H7 r0 r1 b7 P7 => ⟨rfl, _, rfl, ?_⟩⟩
        rw [mixes_one (by decide) (by decide)] at P7
        have b57 := b5.trans b7
        have hws7 := b7 _ _ nDp hws
        have fin : ∀ (v : Nat) (T : Addr), H7 T = none → m ks[j] ≤ v → v ≤ nw → ∃ acc, upd H7 T (.tup [.int (ks[j] : Int), .int (v : Int)]) D = some (.lst acc) ∧ acc.length < sizeLine ∧ (But pu F4 (upd (upd H7 T (.tup [.int (ks[j] : Int), .int (v : Int)])) D (.lst (acc ++ [V.ref T]))) ∧ (∃ M2, Purse (upd (upd H7 T (.tup [.int (ks[j] : Int), .int (v : Int)])) D (.lst (acc ++ [V.ref T]))) pu M2 ∧ M2 ≤ M' + (j + 1)) ∧ ∃ (ws : List V) (mm : Nat → Nat), upd (upd H7 T (.tup [.int (ks[j] : Int), .int (v : Int)])) D (.lst (acc ++ [V.ref T])) D = some (.lst ws) ∧ ws.length = j + 1 ∧ Paired (fun p y => PrAt (upd (upd H7 T (.tup [.int (ks[j] : Int), .int (v : Int)])) D (.lst (acc ++ [V.ref T]))) p (mm p) y) (ks.take (j + 1)) ws ∧ ∀ p ∈ ks.take (j + 1), m p ≤ mm p ∧ mm p ≤ nw) := fun v T hT h1 h2 => by
          have sT := Same.updf (o := .tup [V.int (ks[j] : Int), V.int (v : Int)]) hT
          have nT : T ≠ pu := fresh_ne P7 hT
          have nTD : T ≠ D := (ne_of_none hws7 hT).symm
          have hws8 := sT _ _ hws7
          refine ⟨ws, hws8, by omega, fun c o n e => ?_, ⟨_, P7.same' ((upd_ne nDp.symm).trans (upd_ne nT.symm)), by omega⟩, ws ++ [.ref T], putN mm ks[j] v, upd_same, by rw [List.length_append, lws]; rfl, ?_, fun p hp => ?_⟩
          · rw [upd_ne (ne_of_none e hD)]
            exact sT _ _ (b57 _ _ n e)
          · rw [tk1]
            refine paired_snoc ?_ ?_
            · have pw : Paired (fun p y => PrAt (upd (upd H7 T (.tup [V.int (ks[j] : Int), V.int (v : Int)])) D (.lst (ws ++ [V.ref T]))) p (mm p) y) (ks.take j) ws := paired_mono (fun p y h => (h.but P5 (b7.trans (But.of sT))).upd hws8) pws
              exact paired_put (R := fun p v' y => PrAt (upd (upd H7 T (.tup [V.int (ks[j] : Int), V.int (v : Int)])) D (.lst (ws ++ [V.ref T]))) p v' y) nin pw
            · refine ⟨T, rfl, ?_⟩
              rw [upd_ne nTD, upd_same]
              unfold putN
              rw [if_pos rfl]
          · unfold putN
            split
            · next e =>
              rw [e]
              exact ⟨h1, h2⟩
            · next e =>
              rw [tk1] at hp
              rcases List.mem_append.mp hp with z | z
              · exact bmm p z
              · exact absurd (List.mem_singleton.mp z) e
        cases decide (V.int r = V.int 0) with
        | true => exact iteT ⟨_, rfl, _, rfl, q14, _, rfl, dg (b57 _ _ nq14 fq14) mp, (by show 2 ≤ sizeLine; omega), fun T hT => fin _ T hT (bmh _ mp).1 (bmh _ mp).2⟩
        | false => exact iteF ⟨_, rfl, _, rfl, q8, _, rfl, .inl ⟨_, ky ks[j], .inr ⟨od, b57 _ _ nq8 fb⟩, rfl, (mV_val mp).symm⟩, (by show 2 ≤ sizeLine; omega), fun T hT => fin _ T hT (Nat.le_refl _) (Nat.le_trans (bmh _ mp).1 (bmh _ mp).2)⟩
      rintro H5 ⟨b5, ⟨M2, P5, lM2⟩, ws, mm, hws, lws, pws, bmm⟩
      rw [List.take_length] at pws bmm
      have fb5 := b5 _ _ nq8 fb
      have bU := back b5
      have PU : Purse (upd H5 q8 (.dK (mV ks m))) pu M2 := P5.same' (upd_ne nq8.symm)
      obtain ⟨ts, rfl, pt⟩ := pairs_addr (K := K) (f := fun p => (ky p, V.int (mm p : Int))) (paired_mono (fun p y h => show ∃ T, y = .ref T ∧ upd H5 q8 (.dK (mV ks m)) T = some (.tup [kV (ky p), V.int (mm p : Int)]) from by
        obtain ⟨T, e, h⟩ := h
        exact ⟨T, e, (upd_ne (fun z => by
          rw [z, fb5] at h
          cases h)).trans h⟩) pws)
      refine ⟨fb5, D, ts, mV ks mm, rfl, SqL.of ((upd_ne nDq8).trans hws), pt, fun q17 hq17 => ?_⟩
      rw [merge_dV0 knd]
      have nq17 : q17 ≠ pu := fresh_ne PU hq17
      have s18 := Same.updf (o := .dK (mV ks mm)) hq17
      have b18 := bG.trans (bU.trans (But.of s18))
      have P18 := PU.same s18
      have hq17' : MkAt (upd (upd H5 q8 (.dK (mV ks m))) q17 (.dK (mV ks mm))) q17 ks mm := upd_same
      clear pt pws hws fb5 bU PU b5 P5 s18 hq17 fb fq14 back PF hD nDq8 nDp hq8G hq14G bG PG
      show tSeq _ _ _ _ (upd (upd H5 q8 (.dK (mV ks m))) q17 (.dK (mV ks mm)))
      generalize upd (upd H5 q8 (.dK (mV ks m))) q17 (.dK (mV ks mm)) = G18 at *
      have hL18 : LogAt G18 D6 ds := (hLo.same (but_off b18)).same (off_le _ _)
      refine ⟨_, rfl, D6, ds, rfl, hL18, lg, fun pq G19 s19 npq hpq => ⟨pq, rfl, ⟨_, SqL.of hpq⟩, fun D2 hD2 => ?_⟩⟩
      have lpv : (numsV (pgs ds)).length = (pgs ds).length := List.length_map _
      have pl := lg.pl
      have pin : ∀ p ∈ pgs ds, p ∈ ks := fun p hp => by
        obtain ⟨d, hd, h⟩ := pgs_mem.mp hp
        exact rin d hd p h
      have hq1719 : MkAt G19 q17 ks mm := s19 _ _ hq17'
      refine lc_rel (walk_list (K := K) (a := pq) (xs := numsV (pgs ds))) (fun _ => true) (fun i y G => ∃ T, y = .ref T ∧ G T = some (.tup [kV (ky ((pgs ds).getD i 0)), .int (mm ((pgs ds).getD i 0) : Int)])) (fun i y G G' s1 ⟨T, e, h⟩ => ⟨T, e, s1 _ _ h⟩) (by omega) hD2 (fun G s => SqL.of (s _ _ hpq)) ?_ ?_
      · rintro j v G5 G6 Qy Qn hj s5 ⟨acc, hacc⟩ ⟨rfl, hv⟩ ky_ kn_
        have lj : j < (pgs ds).length := by omega
        unfold numsV at hv
        rw [List.getElem?_map, List.getElem?_eq_getElem lj] at hv
        obtain rfl := Option.some.inj hv
        refine ⟨rfl, _, rfl, _, rfl, _, rfl, q17, _, rfl, dg (s5 _ _ hq1719) (pin _ (List.getElem_mem lj)), (by show 2 ≤ sizeLine; omega), fun T hT => ky_ _ _ rfl (Same.updf hT) ⟨T, rfl, ?_⟩⟩
        rw [off_at (ne_of_none hacc hT).symm, upd_same, List.getD_eq_getElem?_getD, List.getElem?_eq_getElem lj]
        rfl
      rintro G20 zs s20 hzs pz
      rw [filter_true, lpv] at pz
      obtain ⟨ts2, rfl, pt2⟩ := pairs_addr (K := K) (f := fun i => (ky ((pgs ds).getD i 0), V.int (mm ((pgs ds).getD i 0) : Int))) (paired_mono (fun i y ⟨T, e, h⟩ => ⟨T, e, off_le _ _ _ _ h⟩) pz)
      rw [range_map_get (pgs ds) fun p => V.int (mm p : Int)] at pt2
      refine ⟨D2, ts2, _, rfl, SqL.of hzs, pt2, fun q18 hq18 => ?_⟩
      rw [merge_dV0 (pgs_nd ds)]
      have s21 := s20.trans (Same.updf (o := .dK (mV (pgs ds) mm)) hq18)
      have hq18' : MkAt (upd G20 q18 (.dK (mV (pgs ds) mm))) q18 (pgs ds) mm := upd_same
      have s1821 := s19.trans s21
      clear pt2 pz hzs s20 hq18 hD2 hpq npq
      generalize upd G20 q18 (.dK (mV (pgs ds) mm)) = G21 at *
      have b21 := b18.trans (But.of s1821)
      have P21 := P18.same s1821
      have hq1721 : MkAt G21 q17 ks mm := s1821 _ _ hq17'
      have hL21 := hL18.same s1821
      refine ⟨_, rfl, _, rfl, D6, q18, ds, pgs ds, mm, rfl, hL21, lg, hq18', (fun p hp => hp), fun w0 yw G22 s22 nw0 hw0 py => ⟨Nat.zero_le _, fun E0 hE0 => ⟨w0, E0, yw, rfl, rfl, SqL.of (Same.updf hE0 _ _ hw0), SqL.of upd_same, _, rfl, ?_⟩⟩⟩
      have sE0 := Same.updf (o := .lst []) hE0
      have s2122 := s22.trans sE0
      cases hwr : wr ds mm with
      | cons w1 ws1 =>
        rw [hwr] at py
        cases py with
        | cons _ _ => exact iteF ⟨b21.trans (But.of s2122), ⟨_, P21.same s2122, by omega⟩, _, _, _, _, _, _, rfl⟩
      | nil =>
        rw [hwr] at py
        cases py
        refine iteT ?_
        have okm : OkC ls N ah ks mm := ⟨by
          show wr (dsN ls N) mm = []
          rw [← eds]
          exact hwr, fun p hp => by
          rw [← enw]
          exact (bmm p hp).2⟩
        have b22 := b21.trans (But.of s2122)
        have P22' := P21.same s2122
        have ch22 : ChAt (upd G22 E0 (.lst [])) c ls := ((hc17.same (but_off b22)).same (off_le _ _))
        have hL22 := hL21.same s2122
        have hq1722 : MkAt (upd G22 E0 (.lst [])) q17 ks mm := s2122 _ _ hq1721
        have hR22 := b22 _ _ nD10 hR17
        clear s2122 sE0 hE0 s22 hw0 nw0
        generalize upd G22 E0 (.lst []) = G23 at *
        refine ⟨_, rfl, _, rfl, _, rfl, q17, c, ks, mm, ls, N, ah, rfl, hq1722, ch22, pr, okm, fun T4 L4 G24 s24 nT4 nL4 hT4 hL4 => ?_⟩
        rw [← enw] at hT4
        have edm : dueC ls N mm = du.filter (keepB ds mm) := by
          rw [edu, due_keep lg (fun d hd => (bmm _ (rin _ hd _ (lg.ok _ hd).own)).1), eds]
          rfl
        rw [edm] at hL4
        have hL24 := hL22.same s24
        obtain ⟨ys, hD6, ly, hy⟩ := id hL24
        have hq1724 : MkAt G24 q17 ks mm := s24 _ _ hq1722
        have hR24 := s24 _ _ hR22
        refine ⟨_, rfl, _, rfl, _, rfl, D10, rfl, ⟨_, SqL.of hR24⟩, fun D5 hD5 => ?_⟩
        refine lc_sel (n := (numsV du).length) (walk_list (K := K) (a := D10) (xs := numsV du)) (fun j => (du[j]?).bind fun n => if keepB ds mm n = true then some (V.int (n : Int)) else none) (by omega) hD5 (fun G s => SqL.of (s _ _ hR24)) ?_ ?_
        · rintro j v H5 H6 Qy Qn hj s5 ⟨rfl, hv⟩ ky_ kn_
          have lj : j < du.length := by omega
          unfold numsV at hv
          rw [List.getElem?_map, List.getElem?_eq_getElem lj] at hv
          obtain rfl := Option.some.inj hv
          obtain ⟨d, hd, ed, hmd⟩ := duM _ (List.getElem_mem lj)
          rw [List.getElem?_eq_getElem lj, Option.bind_some] at ky_ kn_
          rw [← ed] at ky_ kn_ ⊢
          rw [keep_iff lg hd] at ky_ kn_
          refine ⟨rfl, _, rfl, _, rfl, _, rfl, D6, rfl, ⟨_, SqL.of (s5 _ _ hD6)⟩, fun D7 hD7 => ?_⟩
          refine lc_sel (n := ys.length) (walk_list (K := K) (a := D6) (xs := ys)) (fun i => (ds[i]?).bind fun e => if decide (e.n = d.n) = true then some (V.int (e.p : Int)) else none) (by have := lg.len; omega) hD7 (fun G s => SqL.of ((s5.trans s) _ _ hD6)) ?_ ?_
          · rintro u z H8 H9 Qy2 Qn2 hu2 s8 ⟨rfl, hz⟩ ky2 kn2
            have lu : u < ds.length := by omega
            have hdu : ds[u]? = some ds[u] := List.getElem?_eq_getElem lu
            obtain ⟨t, rd, tw, rfl, ht0, _⟩ := hy u _ _ hz hdu
            have ht := (s5.trans s8) _ _ ht0
            rw [hdu, Option.bind_some] at ky2 kn2
            refine ⟨rfl, _, rfl, t, _, 0, _, rfl, rfl, SqT.of ht, rfl, _, rfl, rfl, _, rfl, ?_⟩
            by_cases c1 : ds[u].n = d.n
            · rw [decide_eq_true (show V.int (ds[u].n : Int) = V.int (d.n : Int) by rw [c1])]
              rw [decide_eq_true c1] at ky2
              exact iteT ⟨_, rfl, t, _, 1, _, rfl, rfl, SqT.of ht, rfl, ky2 _ _ (Same.refl _) rfl⟩
            · rw [decide_eq_false (show ¬ V.int (ds[u].n : Int) = V.int (d.n : Int) from fun z => c1 (by have := V.int.inj z; omega))]
              rw [decide_eq_false c1] at kn2
              exact iteF (kn2 _ (Same.refl _) rfl)
          · intro H8 s8 hR8
            rw [ly, sel_dp1, only_one lg hd] at hR8
            have mp := rin _ hd _ (lg.ok _ hd).own
            refine ⟨D7, _, 0, _, rfl, rfl, SqL.of hR8, at0 rfl, q17, _, rfl, dg ((s5.trans s8) _ _ hq1724) mp, _, _, rfl, rfl, _, rfl, ?_⟩
            by_cases c1 : mm d.p < d.n
            · rw [decide_eq_true (show (mm d.p : Int) < (d.n : Int) by omega)]
              rw [decide_eq_true c1] at ky_
              exact iteT ⟨_, rfl, ky_ _ _ s8 rfl⟩
            · rw [decide_eq_false (show ¬ (mm d.p : Int) < (d.n : Int) by omega)]
              rw [decide_eq_false c1] at kn_
              exact iteF (kn_ _ s8 rfl)
        · intro G25 s25 hR25
          rw [ldv, sel_n] at hR25
          refine ⟨(by show 2 ≤ sizeLine; omega), fun T5 hT5 => ?_⟩
          have s26 := Same.updf (o := .tup [V.int (nw : Int), V.ref D5]) hT5
          have s2526 := s25.trans s26
          have lkp : (du.filter (keepB ds mm)).length ≤ 1000 := by
            have := List.length_filter_le (keepB ds mm) du
            omega
          refine ⟨.ref T4, .ref T5, .tuple [.int (nw : Int), .list (numsD (du.filter (keepB ds mm)))], rfl, (tsl lkp (s2526 _ _ hT4) (s2526 _ _ hL4)).up, (tsl lkp upd_same (s26 _ _ hR25)).up, fun G27 s27 => ⟨true, rfl, iteF ?_⟩⟩
          have sAll := s24.trans (s2526.trans s27)
          exact ⟨b22.trans (But.of sAll), ⟨_, P22'.same sAll, by omega⟩, _, _, _, _, _, _, rfl⟩
    rintro σ G ⟨bG, ⟨M', PG, lM⟩, v9', v15', v16, v17, v18, v19, rfl⟩
    have hTG := bG _ _ nT13 hT17
    have hL13G := bG _ _ nL13p hL1317
    refine ⟨_, rfl, T13, _, 1, _, rfl, rfl, SqT.of hTG, rfl, .inl ⟨rfl, _, SqL.of hL13G⟩, L13, _, .non, rfl, rfl, hL13G, by omega, ?_⟩
    have b9Z : But pu G9 (upd G L13 (.lst (numsV du ++ [V.non]))) := fun c' o n e => by
      rw [upd_ne (ne_of_none e nL13)]
      exact bG _ _ n (s917 _ _ e)
    have bHZ : But pu H (upd G L13 (.lst (numsV du ++ [V.non]))) := fun c' o n e => by
      rw [upd_ne (ne_of_none e nL13H)]
      exact bG _ _ n (sH17 _ _ e)
    have PZ : Purse (upd G L13 (.lst (numsV du ++ [V.non]))) pu M' := PG.same' (upd_ne nL13p.symm)
    clear hTG hL13G bG PG
    generalize upd G L13 (.lst (numsV du ++ [V.non])) = Z0 at *
    have hbZ : MkAt Z0 b ks m := bHZ _ _ nbp hb
    have hcZ : ChAt (off Z0 pu) c ls := hc'.same (but_off bHZ)
    have hq11Z : ChAt (off Z0 pu) q11 ls := ch9.same (but_off b9Z)
    have hq12Z : MkAt Z0 q12 ks m := b9Z _ _ nq12 hq12'
    have hRZ := b9Z _ _ nD10 hR9
    have lps : (numsV ps).length = ps.length := List.length_map _
    have lpk := pm.length_eq
    have kys : (mV ks m).map (·.1) = (ks.map fun p : Nat => (p : Int)).map Sum.inl := by
      unfold mV dV
      rw [List.map_map, List.map_map]
      rfl
    have pin2 : ∀ p ∈ ps, p ∈ ks := fun p hp => pm.mem_iff.mpr hp
    refine ⟨_, rfl, b, _, ks.map fun p : Nat => (p : Int), rfl, .inl hbZ, kys, by rw [List.length_map]; omega, fun ysI p1 hpm hso hp1 => ⟨p1, rfl, ⟨_, SqL.of upd_same⟩, fun D20 hD20 => ?_⟩⟩
    rw [sort_uniq pm asc hpm hso] at hD20 ⊢
    have t1 := Same.updf (o := .lst (numsV ps)) hp1
    have hp1' := upd_same (H := Z0) (a := p1) (o := .lst (numsV ps))
    generalize upd Z0 p1 (.lst (numsV ps)) = Z1 at *
    refine lc_sel (n := (numsV ps).length) (walk_list (K := K) (a := p1) (xs := numsV ps)) (fun i => (ps[i]?).bind fun p => if decide (m p ≤ nw) = true then some (V.int (p : Int)) else none) (by omega) hD20 (fun G s => SqL.of (s _ _ hp1')) ?_ ?_
    · rintro j v H5 H6 Qy Qn hj s5 ⟨rfl, hv⟩ ky_ kn_
      have lj : j < ps.length := by omega
      unfold numsV at hv
      rw [List.getElem?_map, List.getElem?_eq_getElem lj] at hv
      obtain rfl := Option.some.inj hv
      rw [List.getElem?_eq_getElem lj, Option.bind_some] at ky_ kn_
      refine ⟨rfl, _, rfl, _, rfl, b, _, rfl, dg ((t1.trans s5) _ _ hbZ) (pin2 _ (List.getElem_mem lj)), _, rfl, _, _, rfl, rfl, _, rfl, ?_⟩
      by_cases c1 : m ps[j] ≤ nw
      · rw [decide_eq_true (show (m ps[j] : Int) ≤ (nw : Int) by omega)]
        rw [decide_eq_true c1] at ky_
        exact iteT ⟨_, rfl, ky_ _ _ (Same.refl _) rfl⟩
      · rw [decide_eq_false (show ¬ (m ps[j] : Int) ≤ (nw : Int) by omega)]
        rw [decide_eq_false c1] at kn_
        exact iteF (kn_ _ (Same.refl _) rfl)
    intro Z2 t2 hR20
    rw [lps, sel_n] at hR20
    have t12 := t1.trans t2
    refine ⟨_, rfl, b, _, ks.map fun p : Nat => (p : Int), rfl, .inl (t12 _ _ hbZ), kys, by rw [List.length_map]; omega, fun ysI2 p2 hpm2 hso2 hp2 => ⟨p2, rfl, ⟨_, SqL.of upd_same⟩, fun D21 hD21 => ?_⟩⟩
    rw [sort_uniq pm asc hpm2 hso2] at hD21 ⊢
    have t3 := Same.updf (o := .lst (numsV ps)) hp2
    have hp2' := upd_same (H := Z2) (a := p2) (o := .lst (numsV ps))
    generalize upd Z2 p2 (.lst (numsV ps)) = Z3 at *
    have t13 := t12.trans t3
    refine lc_sel (n := (numsV ps).length) (walk_list (K := K) (a := p2) (xs := numsV ps)) (fun i => (ps[i]?).bind fun p => if (!decide (m p ≤ nw)) = true then some (V.int (p : Int)) else none) (by omega) hD21 (fun G s => SqL.of (s _ _ hp2')) ?_ ?_
    · rintro j v H5 H6 Qy Qn hj s5 ⟨rfl, hv⟩ ky_ kn_
      have lj : j < ps.length := by omega
      unfold numsV at hv
      rw [List.getElem?_map, List.getElem?_eq_getElem lj] at hv
      obtain rfl := Option.some.inj hv
      rw [List.getElem?_eq_getElem lj, Option.bind_some] at ky_ kn_
      refine ⟨rfl, _, rfl, _, rfl, b, _, rfl, dg ((t13.trans s5) _ _ hbZ) (pin2 _ (List.getElem_mem lj)), _, rfl, _, _, rfl, rfl, _, rfl, ?_⟩
      by_cases c1 : m ps[j] ≤ nw
      · rw [decide_eq_false (show ¬ (nw : Int) < (m ps[j] : Int) by omega)]
        rw [decide_eq_true c1] at kn_
        exact iteF (kn_ _ (Same.refl _) rfl)
      · rw [decide_eq_true (show (nw : Int) < (m ps[j] : Int) by omega)]
        rw [decide_eq_false c1] at ky_
        exact iteT ⟨_, rfl, ky_ _ _ (Same.refl _) rfl⟩
    intro Z4 t4 hR21
    rw [lps, sel_n] at hR21
    have t14 := t13.trans t4
    have hcZ4 := (hcZ.same (off_same pu t14)).same (off_le _ _)
    refine ⟨_, rfl, _, rfl, _, rfl, b, c, ks, m, ls, N, ah, rfl, t14 _ _ hbZ, hcZ4, pr, ok, fun T6 L6 Z5 t5 nT6 nL6 hT6 hL6 => ?_⟩
    rw [← enw] at hT6
    rw [edue] at hL6
    have t15 := t14.trans t5
    have elast : lastC ls N = nw := by
      rw [enw]
      unfold lastC newC
      by_cases n0 : N = 0
      · rw [if_pos n0, if_pos n0]
        cases hls : ls with
        | nil => exact absurd hls lne
        | cons l r =>
          show l.a = ah
          exact pr.hd l (by rw [hls]; rfl)
      · rw [if_neg n0, if_neg n0]
    refine ⟨_, rfl, _, rfl, q12, q11, ks, ps, m, ls, N, rfl, t15 _ _ hq12Z, pm, asc, pr.k40, (hq11Z.same (off_same pu t15)).same (off_le _ _), pr.cc, pr.up, pr.lN, pr.sub, fun T7 A7 B7 Z6 t6 nT7 hT7 hA7 hB7 => ?_⟩
    rw [elast] at hA7 hB7
    refine ⟨(by show 2 ≤ sizeLine; omega), fun X1 hX1 => ?_⟩
    have t7 := Same.updf (o := .lst [V.ref T6, V.ref T7]) hX1
    have hX1' := upd_same (H := Z6) (a := X1) (o := .lst [V.ref T6, V.ref T7])
    generalize upd Z6 X1 (.lst [V.ref T6, V.ref T7]) = Z7 at *
    refine ⟨_, rfl, _, rfl, (by show 2 ≤ sizeLine; omega), fun X2 hX2 => ?_⟩
    have t8 := Same.updf (o := .tup [V.int (nw : Int), V.ref D10]) hX2
    have hX2' := upd_same (H := Z7) (a := X2) (o := .tup [V.int (nw : Int), V.ref D10])
    generalize upd Z7 X2 (.tup [V.int (nw : Int), V.ref D10]) = Z8 at *
    refine ⟨_, rfl, _, rfl, (by show 2 ≤ sizeLine; omega), fun X3 hX3 => ?_⟩
    have t9 := Same.updf (o := .tup [V.ref D20, V.ref D21]) hX3
    have hX3' := upd_same (H := Z8) (a := X3) (o := .tup [V.ref D20, V.ref D21])
    generalize upd Z8 X3 (.tup [V.ref D20, V.ref D21]) = Z9 at *
    refine ⟨(by show 2 ≤ sizeLine; omega), fun X4 hX4 => ?_⟩
    have t10 := Same.updf (o := .lst [V.ref X2, V.ref X3]) hX4
    have hX4' := upd_same (H := Z9) (a := X4) (o := .lst [V.ref X2, V.ref X3])
    generalize upd Z9 X4 (.lst [V.ref X2, V.ref X3]) = Z10 at *
    have u9 := t9.trans t10
    have u8 := t8.trans u9
    have u7 := t7.trans u8
    have u6 := t6.trans u7
    have u5 := t5.trans u6
    have tl2 : ∀ {G : Hp} {T A B : Addr} {l1 l2 : List Nat}, l1.length ≤ 1000 → l2.length ≤ 1000 → G T = some (.tup [V.ref A, V.ref B]) → G A = some (.lst (numsV l1)) → G B = some (.lst (numsV l2)) → TD G 8 (.ref T) (.tuple [.list (numsD l1), .list (numsD l2)]) := fun {G T A B l1 l2} e1 e2 h1 h2 h3 => TD.of (Tr.tup h1 rfl (by simp) (tr_cons (tr_nums h2 e1) (tr_cons (tr_nums h3 e2) tr_nil)))
    have lf1 : (ps.filter fun p => decide (m p ≤ nw)).length ≤ 1000 := by
      have := List.length_filter_le (fun p => decide (m p ≤ nw)) ps
      omega
    have lf2 : (ps.filter fun p => !decide (m p ≤ nw)).length ≤ 1000 := by
      have := List.length_filter_le (fun p => !decide (m p ≤ nw)) ps
      omega
    refine ⟨.ref X1, .ref X4, .list [.tuple [.int (nw : Int), .list (numsD du)], .tuple [.list (numsD (ps.filter fun p => decide (m p ≤ nw))), .list (numsD (ps.filter fun p => !decide (m p ≤ nw)))]], rfl, ?_, ?_, fun Z11 t11 => ?_⟩
    · exact TD.lst (u8 _ _ hX1') rfl (by simp) (td_cons (tsd (u6 _ _ hT6) (u6 _ _ hL6)) (td_cons (tl2 lf1 lf2 (u7 _ _ hT7) (u7 _ _ hA7) (u7 _ _ hB7)) td_nil))
    · exact TD.lst hX4' rfl (by simp) (td_cons (tsd (u9 _ _ hX2') ((t14.trans u5) _ _ hRZ)) (td_cons (tl2 lf1 lf2 (t10 _ _ hX3') ((t3.trans (t4.trans u5)) _ _ hR20) (u5 _ _ hR21)) td_nil))
    have tAll := (t14.trans u5).trans t11
    exact k _ (bHZ.trans (But.of tAll)) ((PZ.same tAll).mono (by omega))
end
end K33
set_option Elab.async false
set_option linter.all false
set_option maxRecDepth 100000
set_option maxHeartbeats 4000000
/-! list(d.values()). -/
namespace LiV
open PySem PySem.Spec PySem.Calls PyProof.Rows L2
def rValsL : V → Hp → VK → Prop := fun x H Q => ∃ (d : Addr) (kvs : List (Key × V)), x = .ref d ∧ H d = some (.dK kvs) ∧ ∀ p, H p = none → Q (.ref p) (upd H p (.lst (kvs.map (·.2))))
def tListValues (te : TE) : TE := fun σ H Q => te σ H fun x H1 => rValsL x H1 Q
section
variable {X : Cx} {e : Expr} {te : TE} {p apos cpos pos : Pos}
theorem pe_listValues (hc : X.calm = true) (he : PE X e te) (hg : Gl X "list") (hm : X.mg "list" = none) (hv : bootBuiltins "list" = some (.type "list")) (hbase : attributeBase e "values" X.env (eval e X.env) = eval e X.env := by rfl) (hline : (apos.endLine == cpos.line) = true := by rfl)
    (hs : starEach [.Call (.Attribute e "values" apos) [] [] cpos] X.env = (false, eval (.Call (.Attribute e "values" apos) [] [] cpos) X.env) :: starEach [] X.env := by rfl) :
    PE X (.Call (.Name "list" p) [.Call (.Attribute e "values" apos) [] [] cpos] [] pos) (tListValues te) := by
  refine ⟨fun pins s σ H Q I hq => ?_⟩
  refine wpAny_Call_Name_kw (ld_blt I hg hm hv ?_)
  refine PyProof.Rows.callWith_type1 ?_ hs rfl
  rw [hs]
  show wpAny _ _ (spliced ((false, eval (.Call (.Attribute e "values" apos) [] [] cpos) X.env) :: backTo pos (starEach [] X.env))) _ _ s
  refine Calls.spliced_cons ?_
  refine wpAny_Call_method (T := "dict") (id := "dict.values") hbase rfl hline F.plainAttrs_dict F.slot_dict_values F.type_dict_values (thn (he.run pins s σ H _ I hq) fun u s1 ⟨x, H1, I1, rx, d, kvs, ex, hd, q⟩ => ?_)
  subst ex
  obtain rfl : u = Value.ref d := rx
  obtain ⟨hz, hs0, vs, kv, hdo⟩ := I1.hok d _ hd
  obtain ⟨ep, hat⟩ := hdo.dictAt
  have lk : kvs.length = vs.length := Paired.length kv
  have I2 : Inv X pins σ H1 { s1 with heap := s1.heap.push { cls := .type "dict_values", data := .fields #[.ref d] } } := I1.kept (t' := s1.toks) fun b ob q => Heap.get?_push_of_some _ q
  refine ⟨hdo.typeIs, hdo.mapOf.noDict, ?_⟩
  show wpAny _ _ (callWith cpos (.builtin "dict.values") [.ref d] [] []) _ X.xe s1
  refine method_meetsIn F.slot_dict_values F.entry_dict_values rfl (PySem.evalArgs_none ⟨rfl, hdo.typeIs, F.args_dict_values_1 _, _, meets_dict_values (mixKind X.prog X.w) d hs0, ⟨vs, hdo⟩, ?_⟩)
  refine Calls.spliced_nil ?_
  refine PySem.W.kdl_call (PySem.W.kdl_values (knd := mixKind X.prog X.w) (d := d) (kvs := vs) (ep := ep)) (I1.ok.hd hc) ⟨⟨_, Heap.get?_push_size _ rfl, rfl, rfl⟩, hat.push _⟩ (by omega) fun h' tk acc c hk hS hacc => ?_
  refine ⟨.ref _, upd H1 _ (.lst (kvs.map (·.2))), I2.laid hk (Nat.le_refl _) (show ObjOk X.prog X.w _ _ _ (.lst (kvs.map (·.2))) from ⟨?_, acc.toList, c, ?_, ?_⟩), rfl, q _ (I2.hok.fresh (Nat.le_refl _))⟩
  · rw [List.length_map]
    exact hz
  · have el : acc.toList.length = acc.size := by simp
    refine vals_of_at (by rw [List.length_map, el, hacc.1, lk]) fun j x w h1 h2 => ?_
    obtain ⟨k, hky⟩ := hacc.2 j w (by rw [← Array.getElem?_toList]; exact h2)
    rw [List.getElem?_map] at h1
    obtain ⟨q0, e1, rfl⟩ := Option.map_eq_some_iff.mp h1
    obtain ⟨q1, g1, g2, g3⟩ := LiI.paired_get kv e1
    rw [hky] at g1
    cases g1
    exact g3
  · rw [Array.toArray_toList]
    exact hS
end
end LiV
set_option Elab.async false
set_option linter.all false
set_option maxRecDepth 100000
set_option maxHeartbeats 8000000
namespace K33
open PySem PySem.Spec PyProof.Rows L2 KB LiI
/-- a right log, apart from the purse -/
structure LL (G : Hp) (pu q : Addr) (ds : List Dd) : Prop where
  at_ : LogAt (off G pu) q ds
  lg : Lg ds
  one : 1 ≤ ds.length
  ten : ds.length ≤ 8
  sm : ∀ d ∈ ds, d.n ≤ 120
  p5 : (pgs ds).length ≤ 5
  p30 : ∀ p ∈ pgs ds, p ≤ 30
theorem LL.but {G G' : Hp} {pu q : Addr} {ds : List Dd} (h : LL G pu q ds) (k : But pu G G') : LL G' pu q ds := { h with at_ := h.at_.same (but_off k) }
theorem LL.got {G : Hp} {pu q : Addr} {ds : List Dd} (h : LL G pu q ds) : LogAt G q ds := h.at_.same (off_le _ _)
theorem LL.npu {G : Hp} {pu q : Addr} {ds : List Dd} (h : LL G pu q ds) : q ≠ pu := fun z => by
  obtain ⟨xs, e, _⟩ := h.at_
  unfold off at e
  rw [if_pos z] at e
  cases e
theorem LL.n200 {G : Hp} {pu q : Addr} {ds : List Dd} (h : LL G pu q ds) : ∀ d ∈ ds, d.n ≤ 200 := fun d hd => by
  have := h.sm d hd
  omega
theorem LL.fit {G : Hp} {pu q : Addr} {ds : List Dd} (h : LL G pu q ds) : ∀ d ∈ ds, d.Fit := fun d hd => by
  have sub : ∀ x ∈ d.r, x ∈ pgs ds := fun x hx => pgs_mem.mpr ⟨d, hd, hx⟩
  have o := h.lg.ok d hd
  have p5 := h.p5
  have l : d.r.length ≤ (pgs ds).length := List.Nodup.length_le_of_subset (o.asc.imp fun h => Nat.ne_of_lt h) sub
  refine ⟨o, by omega, fun p hp => ?_⟩
  have := h.p30 p (sub p hp)
  omega
theorem sort_nat {l : List Nat} (nd : l.Nodup) {ns : List Int} (h1 : ns.Perm (l.map fun x : Nat => (x : Int))) (h2 : ns.Pairwise (· ≤ ·)) : ∃ rr : List Nat, ns.map V.int = numsV rr ∧ rr.Perm l ∧ rr.Pairwise (· < ·) := by
  obtain ⟨rr, rfl⟩ : ∃ rr : List Nat, ns = rr.map fun x : Nat => (x : Int) := by
    refine ⟨ns.map Int.toNat, ?_⟩
    rw [List.map_map]
    conv => lhs; rw [← List.map_id ns]
    refine List.map_congr_left fun x mx => ?_
    obtain ⟨y, _, rfl⟩ := List.mem_map.mp (h1.mem_iff.mp mx)
    simp
  have prr : rr.Perm l := by
    have := h1.map Int.toNat
    rw [List.map_map, List.map_map] at this
    have id1 : (Int.toNat ∘ fun x : Nat => (x : Int)) = id := by
      funext x
      simp
    rw [id1, List.map_id, List.map_id] at this
    exact this
  have ndr : rr.Nodup := prr.nodup_iff.mpr nd
  refine ⟨rr, mmV rr, prr, ?_⟩
  have h1 : rr.Pairwise (· ≤ ·) := (List.pairwise_map.mp h2).imp fun h => by omega
  exact (h1.and ndr).imp fun h => by omega
theorem disp_one {H : Hp} {d : Addr} {k v : Nat} (h : H d = none) : Same H (upd (upd H d (.dK [])) d (.dK (mergeK [] [(ky k, .int (v : Int))]))) ∧ MkAt (upd (upd H d (.dK [])) d (.dK (mergeK [] [(ky k, .int (v : Int))]))) d [k] fun _ => v :=
  ⟨fun c o e => by rw [upd_ne (ne_of_none e h), upd_ne (ne_of_none e h)]; exact e, upd_same⟩

theorem get_take {α : Type} {l : List α} {K i : Nat} {x : α} (e : (l.take K)[i]? = some x) : l[i]? = some x := by
  rw [List.getElem?_take] at e
  split at e
  · exact e
  · cases e
theorem snocI {α : Type} {F : List α → Prop} (h0 : F []) (h1 : ∀ l x, F l → F (l ++ [x])) : ∀ l, F l := fun l => by
  have : ∀ n, ∀ l : List α, l.length = n → F l := fun n => by
    induction n with
    | zero => intro l hl; rw [List.length_eq_zero_iff.mp hl]; exact h0
    | succ n ih =>
      intro l hl
      have ne : l ≠ [] := fun z => by rw [z] at hl; cases hl
      rw [← List.dropLast_concat_getLast ne]
      exact h1 _ _ (ih _ (by rw [List.length_dropLast]; omega))
  exact this _ l rfl
theorem isUp_ex (ls : List Ln) : ∃ N, N ≤ ls.length ∧ IsUp ls N := by
  refine snocI (F := fun ls => ∃ N, N ≤ ls.length ∧ IsUp ls N) ⟨0, Nat.le_refl _, ⟨fun i l e => (by simp at e), .inl rfl⟩⟩ (fun ls l ⟨N, lN, up⟩ => ?_) ls
  have ll : (ls ++ [l]).length = ls.length + 1 := by rw [List.length_append]; rfl
  cases hc : l.c with
  | true =>
    refine ⟨ls.length + 1, by omega, ⟨fun i m e _ => ?_, .inr ⟨l, ?_, hc⟩⟩⟩
    · have := (List.getElem?_eq_some_iff.mp e).1
      omega
    · rw [List.getElem?_append_right (by omega), show ls.length + 1 - 1 - ls.length = 0 by omega]
      rfl
  | false =>
    refine ⟨N, by omega, ⟨fun i m e hm => ?_, ?_⟩⟩
    · by_cases hi : i < ls.length
      · rw [List.getElem?_append_left hi] at e
        exact up.lt i m e hm
      · rw [List.getElem?_append_right (by omega)] at e
        have := List.mem_of_getElem? e
        rw [List.mem_singleton.mp this, hc] at hm
        cases hm
    · rcases up.at_ with z | ⟨m, em, hm⟩
      · exact .inl z
      · refine .inr ⟨m, ?_, hm⟩
        rw [List.getElem?_append_left (List.getElem?_eq_some_iff.mp em).1]
        exact em
theorem lg_take {ds : List Dd} (hG : Lg ds) (N : Nat) : Lg (ds.take N) := by
  have sub : ∀ x ∈ pgs (ds.take N), x ∈ pgs ds := fun x hx => by
    obtain ⟨d, hd, h⟩ := pgs_mem.mp hx
    exact pgs_mem.mpr ⟨d, List.mem_of_mem_take hd, h⟩
  refine ⟨fun d hd => hG.ok d (List.mem_of_mem_take hd), hG.asc.sublist (List.take_sublist _ _), ?_, ?_⟩
  · have := hG.len
    rw [List.length_take]
    omega
  · exact Nat.le_trans (List.Nodup.length_le_of_subset (pgs_nd _) sub) hG.pl
/-- the first lines of a law's chain -/
structure Lk (ds : List Dd) (LS : List Ln) (N ah : Nat) : Prop where
  cc : Ch LS
  up : IsUp LS N
  lN : N ≤ LS.length
  eq : dsN LS N = ds.take N
  hd : ∀ l, LS.head? = some l → l.a = ah
  ne : LS ≠ []
  l20 : LS.length ≤ 20
  a200 : ah < 200
  anew : ah ≤ newC LS N ah
  nd : N ≤ ds.length
theorem chd_lk {ds : List Dd} {ls : List Ln} (hG : Lg ds) (d1 : 1 ≤ ds.length) (d10 : ds.length ≤ 10) (q : Chd ds ls) (fit : ∀ d ∈ ds, d.Fit) (sm : ∀ d ∈ ds, d.n ≤ 200) {K : Nat} (hK : 1 ≤ K) (hK2 : K ≤ ls.length) {l0 : Ln} (e0 : ls[0]? = some l0) : ∃ N, Lk ds (ls.take K) N l0.a := by
  have ll : ls.length = ds.length := by rw [← q.eq, List.length_map]
  have okl : ∀ l ∈ ls, l.Ok := fun l hl => by
    have md : l.d ∈ ds := by rw [← q.eq]; exact List.mem_map.mpr ⟨l, hl, rfl⟩
    have := sm _ md
    exact ⟨fit _ md, q.lt l hl, by omega⟩
  have lt : (ls.take K).length = K := by rw [List.length_take]; omega
  obtain ⟨N, lN, up⟩ := isUp_ex (ls.take K)
  have eq : dsN (ls.take K) N = ds.take N := by
    unfold dsN
    rw [List.take_take, Nat.min_eq_left (by omega), List.map_take, q.eq]
  have m0 := List.mem_of_getElem? e0
  have hd : ∀ l, (ls.take K).head? = some l → l.a = l0.a := fun l h => by
    rw [List.head?_eq_getElem?] at h
    have := get_take h
    rw [e0] at this
    cases this
    rfl
  have md0 : l0.d ∈ ds := by rw [← q.eq]; exact List.mem_map.mpr ⟨l0, m0, rfl⟩
  have a0 := q.lt l0 m0
  have s0 := sm _ md0
  refine ⟨N, ⟨⟨fun l hl => okl l (List.mem_of_mem_take hl), fun i l m e1 e2 => q.nx i l m (get_take e1) (get_take e2), by omega⟩, up, lN, eq, hd, fun z => by rw [z] at lt; simp at lt; omega, by omega, by omega, ?_, by omega⟩⟩
  by_cases n0 : N = 0
  · unfold newC
    rw [if_pos n0]
    exact Nat.le_refl _
  · have lg := lg_take hG N
    rw [← eq] at lg
    have m1 : l0.d ∈ dsN (ls.take K) N := by
      unfold dsN
      refine List.mem_map.mpr ⟨l0, List.mem_of_getElem? (i := 0) ?_, rfl⟩
      rw [List.getElem?_take, if_pos (by omega), List.getElem?_take, if_pos (by omega)]
      exact e0
    have := new_max (ah := l0.a) lg lN m1
    omega
theorem mk_new {ls : List Ln} {N ah : Nat} (hG : Lg (dsN ls N)) (lN : N ≤ ls.length) {m : Nat → Nat} (h : Mk (dsN ls N) m) : ∀ p ∈ pgs (dsN ls N), m p ≤ newC ls N ah := fun p hp => by
  have := h p hp
  unfold nbp at this
  rcases List.mem_cons.mp this with e | e
  · omega
  · obtain ⟨d, hd, e⟩ := List.mem_map.mp e
    rw [← e]
    exact new_max hG lN (List.mem_filter.mp hd).1
theorem okc_begun {ds : List Dd} (hG : Lg ds) {ls : List Ln} {N ah : Nat} (q : Lk ds ls N ah) (n0 : N ≠ 0) {m m' : Nat → Nat} (mk : Mk (dsN ls N) m) (rt : Rt (dsN ls N) m) (bg : ∀ p ∈ pgs (dsN ls N), Bg ds m m' p) : Rt (dsN ls N) m' ∧ ∀ p ∈ pgs (dsN ls N), m' p ≤ newC ls N ah := by
  have lg : Lg (dsN ls N) := by rw [q.eq]; exact lg_take hG N
  have l1 : 0 < ds.length := by have := q.nd; omega
  have e0 : ds[0]? = some ds[0] := List.getElem?_eq_getElem l1
  have md0 : ds[0] ∈ dsN ls N := by
    rw [q.eq]
    refine List.mem_of_getElem? (i := 0) ?_
    rw [List.getElem?_take, if_pos (by omega)]
    exact e0
  have first : ∀ d ∈ ds, ds[0].n ≤ d.n := fun d hd => by
    obtain ⟨i, hi, rfl⟩ := List.getElem_of_mem hd
    by_cases z : i = 0
    · subst z
      exact Nat.le_refl _
    · exact Nat.le_of_lt (List.pairwise_iff_getElem.mp hG.asc 0 i l1 hi (by omega))
  have inds : ∀ d ∈ dsN ls N, d ∈ ds := fun d hd => by
    rw [q.eq] at hd
    exact List.mem_of_mem_take hd
  refine ⟨rt_iff.mpr fun d hd c p hp => ?_, fun p hp => ?_⟩
  · have mp := pgs_mem.mpr ⟨d, hd, hp⟩
    have n1 := (lg.ok d hd).n1
    have c1 : m d.p < d.n := by
      rcases bg _ (own_pg lg hd) with e | ⟨e, _⟩
      · omega
      · omega
    have c2 := rt_iff.mp rt d hd c1 p hp
    rcases bg _ mp with e | ⟨_, e⟩
    · omega
    · have := e _ e0
      have := first d (inds d hd)
      omega
  · rcases bg _ hp with e | ⟨_, e⟩
    · rw [e]
      exact mk_new lg q.lN mk p hp
    · have := e _ e0
      have := new_max (ah := ah) lg q.lN md0
      omega
theorem okc_more {ls : List Ln} {N ah : Nat} {ks : List Nat} {m : Nat → Nat} (lg : Lg (dsN ls N)) (sub : ∀ d ∈ dsN ls N, ∀ p ∈ d.r, p ∈ ks) (ok : OkC ls N ah ks m) {p0 v : Nat} (np : p0 ∉ ks) (hv : v ≤ newC ls N ah) : OkC ls N ah (ks ++ [p0]) (putN m p0 v) := by
  have pe : ∀ p ∈ ks, putN m p0 v p = m p := fun p hp => by
    unfold putN
    rw [if_neg (fun z : p = p0 => np (by rw [← z]; exact hp))]
  refine ⟨rt_iff.mpr fun d hd c p hp => ?_, fun p hp => ?_⟩
  · have hd' : d ∈ dsN ls N := hd
    rw [pe _ (sub d hd' _ (lg.ok d hd').own)] at c
    rw [pe _ (sub d hd' p hp)]
    exact rt_iff.mp ok.1 d hd c p hp
  · rcases List.mem_append.mp hp with z | z
    · rw [pe p z]
      exact ok.2 p z
    · rw [List.mem_singleton.mp z]
      unfold putN
      rw [if_pos rfl]
      exact hv
theorem mV_new {ks : List Nat} {m : Nat → Nat} {p n : Nat} (h : p ∉ ks) : putK (mV ks m) (ky p) (.int (n : Int)) = mV (ks ++ [p]) (putN m p n) := by
  rw [dV_new h]
  refine dV_congr fun q _ => ?_
  unfold put putN
  split <;> rfl
theorem merge_hi {f : Nat} : ∀ (zs ks : List Nat) (m : Nat → Nat), ks.Nodup → ∃ ks' m', mergeK (mV ks m) (mV zs fun _ => f) = mV ks' m' ∧ ks'.Nodup ∧ (∀ p ∈ ks, p ∈ ks') ∧ ks'.length ≤ ks.length + zs.length
  | [], ks, m, nd => ⟨ks, m, rfl, nd, fun p h => h, by simp⟩
  | z :: zs, ks, m, nd => by
    have e : mergeK (mV ks m) (mV (z :: zs) fun _ => f) = mergeK (putK (mV ks m) (ky z) (.int (f : Int))) (mV zs fun _ => f) := rfl
    by_cases h : z ∈ ks
    · obtain ⟨ks', m', h1, h2, h3, h4⟩ := merge_hi (f := f) zs ks (putN m z f) nd
      exact ⟨ks', m', by rw [e, mV_put h, h1], h2, h3, by rw [List.length_cons]; omega⟩
    · have nd' : (ks ++ [z]).Nodup := List.nodup_append.mpr ⟨nd, List.pairwise_singleton _ _, fun a ha b hb => by
        rw [List.mem_singleton.mp hb]
        exact fun z' => h (by rw [← z']; exact ha)⟩
      obtain ⟨ks', m', h1, h2, h3, h4⟩ := merge_hi (f := f) zs (ks ++ [z]) (putN m z f) nd'
      refine ⟨ks', m', by rw [e, mV_new h, h1], h2, fun p hp => h3 p (List.mem_append_left _ hp), ?_⟩
      rw [List.length_append] at h4
      rw [List.length_cons]
      have : ([z] : List Nat).length = 1 := rfl
      omega
theorem merge_app (A B : List (Key × V)) : ∀ K0 : List (Key × V), mergeK K0 (A ++ B) = mergeK (mergeK K0 A) B := by
  induction A with
  | nil => exact fun K0 => rfl
  | cons q A ih => exact fun K0 => ih (putK K0 q.1 q.2)
theorem pr_of {ds : List Dd} {LS : List Ln} {N ah : Nat} (q : Lk ds LS N ah) {ks : List Nat} (k40 : ks.length ≤ 40) (sub : ∀ d ∈ dsN LS N, ∀ p ∈ d.r, p ∈ ks) : Pr ks LS N ah := ⟨k40, q.cc, q.up, q.lN, fun l hl p hp => sub l.d (List.mem_map.mpr ⟨l, hl, rfl⟩) p hp, q.hd⟩
theorem last_new {ds : List Dd} {LS : List Ln} {N ah : Nat} (q : Lk ds LS N ah) : lastC LS N = newC LS N ah := by
  unfold lastC newC
  by_cases n0 : N = 0
  · rw [if_pos n0, if_pos n0]
    cases hls : LS with
    | nil => exact absurd hls q.ne
    | cons l r =>
      show l.a = ah
      exact q.hd l (by rw [hls]; rfl)
  · rw [if_neg n0, if_neg n0]
theorem up_pgs0 {ds : List Dd} (k : Nat) : pgs (ds.map (up k)) = pgs ds := up_pgs k
end K33
set_option Elab.async false
set_option linter.all false
set_option maxRecDepth 100000
set_option maxHeartbeats 16000000
namespace K33
open PySem PySem.Spec PyProof.Rows L2 KB LiI LiV
abbrev s_purses := sPurses
def spLaw (K : PySem.W.Frag) : Sp := fun vs H Q _ => ∃ (a : Addr) (ns : List Int), vs = [.ref a] ∧ SqL K H a (ns.map V.int) ∧ ∀ H', Q (.bl true) H'
theorem paired_take {α β : Type} {F : α → β → Prop} : ∀ {xs : List α} {ys : List β} (k : Nat), Paired F xs ys → Paired F (xs.take k) (ys.take k)
  | _, _, 0, _ => by rw [List.take_zero, List.take_zero]; exact .nil
  | _, _, k + 1, .nil => .nil
  | _, _, k + 1, .cons r t => .cons r (paired_take k t)
theorem sqT_same {K : PySem.W.Frag} {G G' : Hp} {p : Addr} {xs : List V} (s : Same G G') (h : SqT K G p xs) : SqT K G' p xs := by
  rcases h with (h | ⟨o, h⟩) | h
  · exact .inl (.inl (s _ _ h))
  · exact .inl (.inr ⟨o, s _ _ h⟩)
  · exact .inr h
theorem none_but {pu q : Addr} {C G : Hp} (b : But pu C G) (n : q ≠ pu) (h : G q = none) : C q = none := by
  cases e : C q with
  | none => rfl
  | some o =>
    rw [b _ _ n e] at h
    cases h
theorem new_last {ls : List Ln} {N ah : Nat} (n0 : N ≠ 0) {d : Dd} (h : (dsN ls N)[N - 1]? = some d) : newC ls N ah = d.n := by
  unfold dsN at h
  rw [List.getElem?_map, List.getElem?_take, if_pos (by omega)] at h
  obtain ⟨l, el, rfl⟩ := Option.map_eq_some_iff.mp h
  unfold newC
  rw [if_neg n0, el]
  rfl
/-- the marks that a law opens by -/
def Mks (pu : Addr) (LS : List Ln) (N ah B : Nat) (G : Hp) (mq : Addr) : Prop := mq ≠ pu ∧ ∃ ks m, MkAt G mq ks m ∧ ks.Pairwise (· < ·) ∧ ks.length ≤ 5 ∧ (∀ p ∈ ks, p ≤ B) ∧ (∀ d ∈ dsN LS N, ∀ p ∈ d.r, p ∈ ks) ∧ OkC LS N ah ks m
section
variable {P : Program} {w : World} {K : PySem.W.Frag} {mg : Str → Option Value} {base : Heap}
abbrev s_law : Stmt := top 68
abbrev N_law : List Str := ["_law_script", "_law_purse_here", "_law_late", "_law_log_here", "_law_lines", "_law_ahead", "_law_some", "_law_marks", "_law_wild", "_law_number", "_law_right", "_law_high", "_law_due", "_law_deed", "_law_line", "_law_page"]
theorem sc_law : FnScope N_law ["_law_script"] (defScope s_law) := ⟨rfl, rfl, rfl, by decide +kernel, rfl, by decide +kernel, by decide +kernel⟩
theorem ok_law {f : Addr} {fd : FuncData} (F : FnP K "law" s_law f fd) (Z : FreeS mg)
    {f_purses : Addr} {d_purses : FuncData} (g_purses : mg "_law_purses" = some (.ref f_purses)) (F_purses : FnP K "_law_purses" s_purses f_purses d_purses) (G_purses : FnOk P w K mg base CX0 2 f_purses d_purses ["_law_script", "_law_few"] (spPurses K))
    {f_exact : Addr} {d_exact : FuncData} (g_exact : mg "_law_exact" = some (.ref f_exact)) (F_exact : FnP K "_law_exact" s_exact f_exact d_exact) (GA_exact : ∀ n : Nat, FnOk P w K mg base CX0 (n + 1) f_exact d_exact ["_law_mine", "_law_theirs"] (spExactD n))
    {f_log : Addr} {d_log : FuncData} (g_log : mg "_law_log" = some (.ref f_log)) (F_log : FnP K "_law_log" s_log f_log d_log) (G_log : FnOk P w K mg base CX0 6 f_log d_log ["_law_purse_here", "_law_many", "_law_pages"] spLog)
    {f_chained : Addr} {d_chained : FuncData} (g_chained : mg "_law_chained" = some (.ref f_chained)) (F_chained : FnP K "_law_chained" s_chained f_chained d_chained) (G_chained : FnOk P w K mg base CX0 3 f_chained d_chained ["_law_purse_here", "_law_log_here"] spChained)
    {f_draw : Addr} {d_draw : FuncData} (g_draw : mg "_law_draw" = some (.ref f_draw)) (F_draw : FnP K "_law_draw" s_draw f_draw d_draw) (G_draw : FnOk P w K mg base CX0 2 f_draw d_draw ["_law_purse_here", "_law_many"] spDraw)
    {f_opened : Addr} {d_opened : FuncData} (g_opened : mg "opened" = some (.ref f_opened)) (F_opened : FnP K "opened" s_opened f_opened d_opened) (G_opened : FnOk P w K mg base CX0 8 f_opened d_opened ["stamps", "lines", "ahead"] spOpenedR)
    {f_lines_told : Addr} {d_lines_told : FuncData} (g_lines_told : mg "lines_told" = some (.ref f_lines_told)) (F_lines_told : FnP K "lines_told" s_lines_told f_lines_told d_lines_told) (G_lines_told : FnOk P w K mg base CX0 8 f_lines_told d_lines_told ["stamps", "lines"] spLinesT)
    {f_sheets : Addr} {d_sheets : FuncData} (g_sheets : mg "_law_sheets" = some (.ref f_sheets)) (F_sheets : FnP K "_law_sheets" s_sheets f_sheets d_sheets) (G_sheets : FnOk P w K mg base CX0 3 f_sheets d_sheets ["_law_purse_here", "_law_many"] spSheets)
    {f_shifted : Addr} {d_shifted : FuncData} (g_shifted : mg "_law_shifted" = some (.ref f_shifted)) (F_shifted : FnP K "_law_shifted" s_shifted f_shifted d_shifted) (G_shifted : FnOk P w K mg base CX0 1 f_shifted d_shifted ["_law_log_here", "_law_by"] spShifted)
    {f_begun : Addr} {d_begun : FuncData} (g_begun : mg "_law_begun" = some (.ref f_begun)) (F_begun : FnP K "_law_begun" s_begun f_begun d_begun) (G_begun : FnOk P w K mg base CX0 3 f_begun d_begun ["_law_purse_here", "_law_log_here", "_law_marks"] spBegun)
    {f_opened_right : Addr} {d_opened_right : FuncData} (g_opened_right : mg "_law_opened_right" = some (.ref f_opened_right)) (F_opened_right : FnP K "_law_opened_right" s_opened_right f_opened_right d_opened_right) (G_opened_right : FnOk P w K mg base CX0 11 f_opened_right d_opened_right ["_law_purse_here", "_law_log_here", "_law_lines", "_law_marks", "_law_ahead"] spOpRight)
    {f_right_marks : Addr} {d_right_marks : FuncData} (g_right_marks : mg "_law_right_marks" = some (.ref f_right_marks)) (F_right_marks : FnP K "_law_right_marks" s_right_marks f_right_marks d_right_marks) (G_right_marks : FnOk P w K mg base CX0 5 f_right_marks d_right_marks ["_law_purse_here", "_law_log_here"] spRightM)
    {f_too_new : Addr} {d_too_new : FuncData} (g_too_new : mg "_law_too_new" = some (.ref f_too_new)) (F_too_new : FnP K "_law_too_new" s_too_new f_too_new d_too_new) (G_too_new : FnOk P w K mg base CX0 1 f_too_new d_too_new ["_law_log_here", "_law_marks"] spTooNew)
    {f_opening_refused_with : Addr} {d_opening_refused_with : FuncData} (g_opening_refused_with : mg "_law_opening_refused_with" = some (.ref f_opening_refused_with)) (F_opening_refused_with : FnP K "_law_opening_refused_with" s_opening_refused_with f_opening_refused_with d_opening_refused_with) (G_opening_refused_with : FnOk P w K mg base CX0 9 f_opening_refused_with d_opening_refused_with ["_law_stamps", "_law_lines", "_law_ahead"] spRefW)
    {f_of_pages : Addr} {d_of_pages : FuncData} (g_of_pages : mg "_law_of_pages" = some (.ref f_of_pages)) (F_of_pages : FnP K "_law_of_pages" s_of_pages f_of_pages d_of_pages) (G_of_pages : FnOk P w K mg base CX0 1 f_of_pages d_of_pages ["_law_log_here"] spOfP)
    {f_end_of : Addr} {d_end_of : FuncData} (g_end_of : mg "_law_end_of" = some (.ref f_end_of)) (F_end_of : FnP K "_law_end_of" s_end_of f_end_of d_end_of) (G_end_of : FnOk P w K mg base CX0 1 f_end_of d_end_of ["_law_lines"] spEndOf) :
    FnOk P w K mg base CX0 12 f fd ["_law_script"] (spLaw K) := by
  have b_purses : Binds K d_purses ["_law_script", "_law_few"] [] := F_purses.bindsN fun _ _ _ _ _ _ us hl => match us, hl with | [_, _], _ => rfl
  have b_exact : Binds K d_exact ["_law_mine", "_law_theirs"] [] := F_exact.bindsN fun _ _ _ _ _ _ us hl => match us, hl with | [_, _], _ => rfl
  have b_log : Binds K d_log ["_law_purse_here", "_law_many", "_law_pages"] [] := F_log.bindsN fun _ _ _ _ _ _ us hl => match us, hl with | [_, _, _], _ => rfl
  have b_chained : Binds K d_chained ["_law_purse_here", "_law_log_here"] [] := F_chained.bindsN fun _ _ _ _ _ _ us hl => match us, hl with | [_, _], _ => rfl
  have b_draw : Binds K d_draw ["_law_purse_here", "_law_many"] [] := F_draw.bindsN fun _ _ _ _ _ _ us hl => match us, hl with | [_, _], _ => rfl
  have b_opened : Binds K d_opened ["stamps", "lines", "ahead"] [] := F_opened.bindsN fun _ _ _ _ _ _ us hl => match us, hl with | [_, _, _], _ => rfl
  have b_lines_told : Binds K d_lines_told ["stamps", "lines"] [] := F_lines_told.bindsN fun _ _ _ _ _ _ us hl => match us, hl with | [_, _], _ => rfl
  have b_sheets : Binds K d_sheets ["_law_purse_here", "_law_many"] [] := F_sheets.bindsN fun _ _ _ _ _ _ us hl => match us, hl with | [_, _], _ => rfl
  have b_shifted : Binds K d_shifted ["_law_log_here", "_law_by"] [] := F_shifted.bindsN fun _ _ _ _ _ _ us hl => match us, hl with | [_, _], _ => rfl
  have b_begun : Binds K d_begun ["_law_purse_here", "_law_log_here", "_law_marks"] [] := F_begun.bindsN fun _ _ _ _ _ _ us hl => match us, hl with | [_, _, _], _ => rfl
  have b_opened_right : Binds K d_opened_right ["_law_purse_here", "_law_log_here", "_law_lines", "_law_marks", "_law_ahead"] [] := F_opened_right.bindsN fun _ _ _ _ _ _ us hl => match us, hl with | [_, _, _, _, _], _ => rfl
  have b_right_marks : Binds K d_right_marks ["_law_purse_here", "_law_log_here"] [] := F_right_marks.bindsN fun _ _ _ _ _ _ us hl => match us, hl with | [_, _], _ => rfl
  have b_too_new : Binds K d_too_new ["_law_log_here", "_law_marks"] [] := F_too_new.bindsN fun _ _ _ _ _ _ us hl => match us, hl with | [_, _], _ => rfl
  have b_opening_refused_with : Binds K d_opening_refused_with ["_law_stamps", "_law_lines", "_law_ahead"] [] := F_opening_refused_with.bindsN fun _ _ _ _ _ _ us hl => match us, hl with | [_, _, _], _ => rfl
  have b_of_pages : Binds K d_of_pages ["_law_log_here"] [] := F_of_pages.bindsN fun _ _ _ _ _ _ us hl => match us, hl with | [_], _ => rfl
  have b_end_of : Binds K d_end_of ["_law_lines"] [] := F_end_of.bindsN fun _ _ _ _ _ _ us hl => match us, hl with | [_], _ => rfl
  refine F.ok sc_law (fun vs H Q E h => ?_) (fun cdv A outer s H vs Q E hr h => ?_)
  · obtain ⟨a, ns, rfl, _⟩ := h
    rfl
  · obtain ⟨a, ns, rfl, hS, k⟩ := h
    have sl : (100000 : Nat) ≤ sizeLine := by decide
    have hu65 : _ + 65 < cLine := Nat.lt_of_le_of_lt (Nat.add_le_add_left (by decide : 65 ≤ 200) _) (Nat.lt_of_le_of_lt (Nat.add_le_add_right (Nat.le_add_right _ _) _) hr.un)
    have hu := Nat.lt_of_le_of_lt (Nat.add_le_add_left (by decide : 1 ≤ 65) _) hu65
    have hu0 := Nat.lt_of_succ_lt hu
    have nd := sc_law.nd
    refine ⟨_, PSs.nox (pss_cons (ps_for PassesOwn.never rfl (pi_list (pe_call G_purses (hr.mono (by decide)) rfl g_purses F_purses.kp b_purses .nil pass0 (pa_cons (pv 0) (pa_cons (pe_int) (pa_nil))))) (pg_name (i := 1) nd rfl (Or.inr rfl))
        (pss_one (ps_for PassesOwn.never rfl (pi_range1 (by rfl) Z.range (pa_cons (pe_int) (pa_nil))) (pg_name (i := 2) nd rfl (Or.inl rfl))
        (pss_cons (ps_set (i := 3) nd rfl (Or.inr rfl) (pe_call G_log (hr.mono (by decide)) rfl g_log F_log.kp b_log .nil pass0 (pa_cons (pv 1) (pa_cons (pe_op op_add (pe_int) (pe_call G_draw (hr.mono (by decide)) rfl g_draw F_draw.kp b_draw .nil pass0 (pa_cons (pv 1) (pa_cons (pe_int) (pa_nil))))) (pa_cons (pe_call G_sheets (hr.mono (by decide)) rfl g_sheets F_sheets.kp b_sheets .nil pass0 (pa_cons (pv 1) (pa_cons (pe_op op_add (pe_int) (pe_call G_draw (hr.mono (by decide)) rfl g_draw F_draw.kp b_draw .nil pass0 (pa_cons (pv 1) (pa_cons (pe_int) (pa_nil))))) (pa_nil)))) (pa_nil))))))
      (pss_cons (ps_set (i := 3) nd rfl (Or.inr rfl) (pe_ifExp (pt_cmpR op_gt (pv 2) (pe_int) (nomark _)) (pe_call G_shifted (hr.mono (by decide)) rfl g_shifted F_shifted.kp b_shifted .nil pass0 (pa_cons (pv 3) (pa_cons (pe_int) (pa_nil)))) (pv 3)))
      (pss_cons (ps_set (i := 4) nd rfl (Or.inl rfl) (pe_call G_chained (hr.mono (by decide)) rfl g_chained F_chained.kp b_chained .nil pass0 (pa_cons (pv 1) (pa_cons (pv 3) (pa_nil)))))
      (pss_cons (ps_set (i := 4) nd rfl (Or.inl rfl) (pe_slice sl_list (pv 4) (po_none) (po_some (pe_op op_add (pe_int) (pe_call G_draw (hr.mono (by decide)) rfl g_draw F_draw.kp b_draw .nil pass0 (pa_cons (pv 1) (pa_cons (pe_callB call_len_seq (by rfl) Z.len (by decide +kernel) (pa_cons (pv 4) (pa_nil))) (pa_nil))))))))
      (pss_cons (ps_par (i := 5) (j := 6) rfl nd rfl rfl (by decide) rfl rfl (pa_cons (pe_ix ix_tup (pe_ix ix_list (pv 4) (pe_int) (fun _ _ => rfl)) (pe_int) (fun _ _ => rfl)) (pa_cons (pe_lc (own := [("_law_line", 14)]) (g := gName 14) (tt := tYes) (te := tOp (rIxT K) (tVar 14) (tC (.int 3))) (by rfl) nd (pi_list (pe_slice sl_list (pv 4) (po_none) (po_some (pe_call G_end_of (hr.mono (by decide)) rfl g_end_of F_end_of.kp b_end_of .nil pass0 (pa_cons (pv 4) (pa_nil))))))
          (blkOk_by (own := [("_law_line", 14)]) (N := N_law) (sc := defScope s_law) (by decide +kernel)) (fun _ _ _ _ _ => pg_name (i := 14) nd rfl (Or.inl rfl)) (fun _ _ _ _ _ => pts_nil)
          (fun _ _ _ _ _ => pe_ix ix_tup (pv 14) (pe_int) (fun _ _ => rfl))) (pa_nil))) rfl)
      (pss_cons (ps_set (i := 7) nd rfl (Or.inl rfl) (pe_ifExp (pt_cmpR (op_neE hu0) (pv 6) (pe_lst (pa_nil)) (nomark _)) (pe_call G_begun (hr.mono (by decide)) rfl g_begun F_begun.kp b_begun .nil pass0 (pa_cons (pv 1) (pa_cons (pv 3) (pa_cons (pe_call G_right_marks (hr.mono (by decide)) rfl g_right_marks F_right_marks.kp b_right_marks .nil pass0 (pa_cons (pv 1) (pa_cons (pv 6) (pa_nil)))) (pa_nil))))) (pe_dnewK)))
      (pss_cons (ps_dput hu (pv 7) (pe_op op_add (pe_int) (pv 2)) (pe_call G_draw (hr.mono (by decide)) rfl g_draw F_draw.kp b_draw .nil pass0 (pa_cons (pv 1) (pa_cons (pe_op op_add (pv 5) (pe_int)) (pa_nil)))) rfl)
      (pss_cons (ps_if (pt_not (pt_val (pe_call G_opened_right (hr.mono (by decide)) rfl g_opened_right F_opened_right.kp b_opened_right .nil pass0 (pa_cons (pv 1) (pa_cons (pv 3) (pa_cons (pv 4) (pa_cons (pv 7) (pa_cons (pv 5) (pa_nil))))))))) (pss_one (ps_ret (pe_bl))) (pss_nil))
      (pss_cons (ps_asg (pe_tup (pa_cons (pe_callTy (call_dictPR rfl) (by rfl) Z.tdict (by decide +kernel) (pa_cons (pe_lock (pe_lc (own := [("_law_page", 15)]) (g := gName 15) (tt := tYes) (te := tTup (tCons (tVar 15) (tCons (tCall spDraw [] E0 (tCons (tVar 1) (tCons (tOp (rI0 fun i j => .int (i + j)) (tOp (rIxT K) (tOp (rIxL K) (tVar 3) (tUn (rU fun i => .int (-i)) (tC (.int 1)))) (tC (.int 0))) (tC (.int 2))) (tNil)))) (tNil)))) (by rfl) nd (pi_keys (pv 7))
          (blkOk_by (own := [("_law_page", 15)]) (N := N_law) (sc := defScope s_law) (by decide +kernel)) (fun _ _ _ _ _ => pg_name (i := 15) nd rfl (Or.inl rfl)) (fun _ _ _ _ _ => pts_nil)
          (fun _ _ _ _ _ => pe_tup (pa_cons (pv 15) (pa_cons (pe_call G_draw (hr.mono (by decide)) rfl g_draw F_draw.kp b_draw .nil pass0 (pa_cons (pv 1) (pa_cons (pe_op op_add (pe_ix ix_tup (pe_ix ix_list (pv 3) (pe_un un_neg (pe_int)) (fun _ _ => rfl)) (pe_int) (fun _ _ => rfl)) (pe_int)) (pa_nil)))) (pa_nil)))))) (pa_nil))) (pa_cons (pe_ifExp (pt_cmpR (op_neE hu0) (pv 6) (pe_lst (pa_nil)) (nomark _)) (pe_ix ix_tup (pe_ix ix_list (pv 6) (pe_un un_neg (pe_int)) (fun _ _ => rfl)) (pe_int) (fun _ _ => rfl)) (pv 5)) (pa_nil)))) (pg_tup rfl (pgs_cons (pg_name (i := 8) nd rfl (Or.inr rfl)) (pgs_cons (pg_name (i := 9) nd rfl (Or.inr rfl)) (pgs_nil)))))
      (pss_cons (ps_setLc (i := 10) (own := [("_law_deed", 13)]) (g := gName 13) (tt := tTest (tOp (rI0 fun i j => .bl (decide (i < j))) (tDGet (tVar 8) (tOp (rIxT K) (tVar 13) (tC (.int 1)))) (tOp (rIxT K) (tVar 13) (tC (.int 0))))) (te := tOp (rIxT K) (tVar 13) (tC (.int 0))) (by rfl) nd rfl rfl rfl (pi_list (pv 6))
          (blkOk_by (own := [("_law_deed", 13)]) (N := N_law) (sc := defScope s_law) (by decide +kernel)) (fun _ _ _ _ _ => pg_name (i := 13) nd rfl (Or.inl rfl)) (fun _ _ _ _ _ => pts_one (pt_cmpR op_lt (pe_dget hu (pv 8) (pe_ix ix_tup (pv 13) (pe_int) (fun _ _ => rfl)) (fun _ _ => rfl)) (pe_ix ix_tup (pv 13) (pe_int) (fun _ _ => rfl)) (nomark _)))
          (fun _ _ _ _ _ => pe_ix ix_tup (pv 13) (pe_int) (fun _ _ => rfl)))
      (pss_cons (ps_if (PW.pt (pw_or (pt_cmpR op_gt (pe_callB (cr_max rfl) (by rfl) Z.max (by decide +kernel) (pa_cons (pe_listValues rfl (pv 8) (by rfl) Z.tlist rfl) (pa_nil))) (pv 9) (nomark _)) (pw_or1 (pt_cmpR (op_neE hu0) (pe_call G_too_new (hr.mono (by decide)) rfl g_too_new F_too_new.kp b_too_new .nil pass0 (pa_cons (pv 6) (pa_cons (pv 8) (pa_nil)))) (pe_lst (pa_nil)) (nomark _))))) (pss_one (ps_if (pt_not (pt_val (pe_call G_opening_refused_with (hr.mono (by decide)) rfl g_opening_refused_with F_opening_refused_with.kp b_opening_refused_with .nil pass0 (pa_cons (pv 8) (pa_cons (pv 4) (pa_cons (pv 5) (pa_nil))))))) (pss_one (ps_ret (pe_bl))) (pss_nil))) (pss_one (ps_if (pt_not (pt_val (pe_call (GA_exact 9) (hr.mono (by decide)) rfl g_exact F_exact.kp b_exact .nil pass0 (pa_cons (pe_call G_opened (hr.mono (by decide)) rfl g_opened F_opened.kp b_opened .nil pass0 (pa_cons (pv 8) (pa_cons (pv 4) (pa_cons (pv 5) (pa_nil))))) (pa_cons (pe_tup (pa_cons (pv 9) (pa_cons (pv 10) (pa_nil)))) (pa_nil)))))) (pss_one (ps_ret (pe_bl))) (pss_nil))))
      (pss_cons (ps_set (i := 11) nd rfl (Or.inr rfl) (pe_callTy (call_dictPR rfl) (by rfl) Z.tdict (by decide +kernel) (pa_cons (pe_op op_cat (pe_listItems rfl (pv 7) (by rfl) Z.tlist rfl) (pe_lc (own := [("_law_page", 15)]) (g := gName 15) (tt := tTest (tOp rEq (tCall spDraw [] E0 (tCons (tVar 1) (tCons (tC (.int 2)) tNil))) (tC (.int 0)))) (te := tTup (tCons (tVar 15) (tCons (tOp (rIxT K) (tOp (rIxL K) (tVar 3) (tUn (rU fun i => .int (-i)) (tC (.int 1)))) (tC (.int 0))) (tNil)))) (by rfl) nd (pi_list (pe_call G_of_pages (hr.mono (by decide)) rfl g_of_pages F_of_pages.kp b_of_pages .nil pass0 (pa_cons (pv 3) (pa_nil))))
          (blkOk_by (own := [("_law_page", 15)]) (N := N_law) (sc := defScope s_law) (by decide +kernel)) (fun _ _ _ _ _ => pg_name (i := 15) nd rfl (Or.inl rfl)) (fun _ _ _ _ _ => pts_one (pt_cmpR op_eq (pe_call G_draw (hr.mono (by decide)) rfl g_draw F_draw.kp b_draw .nil pass0 (pa_cons (pv 1) (pa_cons (pe_int) (pa_nil)))) (pe_int) (nomark _)))
          (fun _ _ _ _ _ => pe_tup (pa_cons (pv 15) (pa_cons (pe_ix ix_tup (pe_ix ix_list (pv 3) (pe_un un_neg (pe_int)) (fun _ _ => rfl)) (pe_int) (fun _ _ => rfl)) (pa_nil)))))) (pa_nil))))
      (pss_cons (ps_set (i := 9) nd rfl (Or.inr rfl) (pe_ifExp (pt_cmpR (op_neE hu0) (pv 6) (pe_lst (pa_nil)) (nomark _)) (pe_ix ix_tup (pe_ix ix_list (pv 6) (pe_un un_neg (pe_int)) (fun _ _ => rfl)) (pe_int) (fun _ _ => rfl)) (pv 5)))
      (pss_cons (ps_set (i := 12) nd rfl (Or.inl rfl) (pe_tup (pa_cons (pe_lc (own := [("_law_page", 15)]) (g := gName 15) (tt := tTest (tOp (rI0 fun i j => .bl (decide (i ≤ j))) (tDGet (tVar 11) (tVar 15)) (tVar 9))) (te := tVar 15) (by rfl) nd (pi_list (pe_callB ((cr_sortedDI rfl)) (by rfl) Z.sorted (by decide +kernel) (pa_cons (pv 11) (pa_nil))))
          (blkOk_by (own := [("_law_page", 15)]) (N := N_law) (sc := defScope s_law) (by decide +kernel)) (fun _ _ _ _ _ => pg_name (i := 15) nd rfl (Or.inl rfl)) (fun _ _ _ _ _ => pts_one (pt_cmpR op_le (pe_dget hu (pv 11) (pv 15) (fun _ _ => rfl)) (pv 9) (nomark _)))
          (fun _ _ _ _ _ => pv 15)) (pa_cons (pe_lc (own := [("_law_page", 15)]) (g := gName 15) (tt := tTest (tOp (rI0 fun i j => .bl (decide (j < i))) (tDGet (tVar 11) (tVar 15)) (tVar 9))) (te := tVar 15) (by rfl) nd (pi_list (pe_callB ((cr_sortedDI rfl)) (by rfl) Z.sorted (by decide +kernel) (pa_cons (pv 11) (pa_nil))))
          (blkOk_by (own := [("_law_page", 15)]) (N := N_law) (sc := defScope s_law) (by decide +kernel)) (fun _ _ _ _ _ => pg_name (i := 15) nd rfl (Or.inl rfl)) (fun _ _ _ _ _ => pts_one (pt_cmpR op_gt (pe_dget hu (pv 11) (pv 15) (fun _ _ => rfl)) (pv 9) (nomark _)))
          (fun _ _ _ _ _ => pv 15)) (pa_nil)))))
      (pss_one (ps_if (PW.pt (pw_or (pt_not (pt_val (pe_call (GA_exact 9) (hr.mono (by decide)) rfl g_exact F_exact.kp b_exact .nil pass0 (pa_cons (pe_call G_lines_told (hr.mono (by decide)) rfl g_lines_told F_lines_told.kp b_lines_told .nil pass0 (pa_cons (pv 11) (pa_cons (pv 4) (pa_nil)))) (pa_cons (pv 12) (pa_nil)))))) (pw_or1 (PW.pt (pw_and (pt_cmpR (op_neE hu0) (pe_ix ix_tup (pv 12) (pe_int) (fun _ _ => rfl)) (pe_lst (pa_nil)) (nomark _)) (pw_and1 (pt_not (pt_val (pe_call G_opening_refused_with (hr.mono (by decide)) rfl g_opening_refused_with F_opening_refused_with.kp b_opening_refused_with .nil pass0 (pa_cons (pv 11) (pa_cons (pv 4) (pa_cons (pv 5) (pa_nil))))))))))))) (pss_one (ps_ret (pe_bl))) (pss_nil))))))))))))))))))))
      (pss_one (ps_ret (pe_call (GA_exact 9) (hr.mono (by decide)) rfl g_exact F_exact.kp b_exact .nil pass0 (pa_cons (pe_lst (pa_cons (pe_call G_opened (hr.mono (by decide)) rfl g_opened F_opened.kp b_opened .nil pass0 (pa_cons (pe_dnewK) (pa_cons (pe_lst (pa_nil)) (pa_cons (pe_int) (pa_nil))))) (pa_cons (pe_call G_opened (hr.mono (by decide)) rfl g_opened F_opened.kp b_opened .nil pass0 (pa_cons (pe_disp (pps_cons (pe_int) (pe_int) (pps_nil)) rfl rfl (fun h => nomatch h) (by decide)) (pa_cons (pe_lst (pa_nil)) (pa_cons (pe_int) (pa_nil))))) (pa_cons (pe_call G_lines_told (hr.mono (by decide)) rfl g_lines_told F_lines_told.kp b_lines_told .nil pass0 (pa_cons (pe_disp (pps_cons (pe_int) (pe_int) (pps_cons (pe_int) (pe_int) (pps_nil))) rfl rfl (fun h => nomatch h) (by decide)) (pa_cons (pe_lst (pa_nil)) (pa_nil)))) (pa_nil))))) (pa_cons (pe_lst (pa_cons (pe_tup (pa_cons (pe_int) (pa_cons (pe_lst (pa_nil)) (pa_nil)))) (pa_cons (pe_tup (pa_cons (pe_int) (pa_cons (pe_lst (pa_nil)) (pa_nil)))) (pa_cons (pe_tup (pa_cons (pe_lst (pa_cons (pe_int) (pa_nil))) (pa_cons (pe_lst (pa_cons (pe_int) (pa_nil))) (pa_nil)))) (pa_nil))))) (pa_nil))))))), ?_⟩
    have dr : ∀ m : Int, 1 ≤ m → m < 300 → ∀ M, M ≤ 2 ^ 35 → ∀ H' pu, Purse H' pu M → 1 ≤ m ∧ m.natAbs.log2 < 9000 ∧ Purse H' pu M ∧ M + mixes m ≤ 2 ^ 50 ∧ mixes m ≤ 2 ^ 50 := fun m h1 h2 M hM H' pu hP' => by
      rw [mixes_one h1 (by omega)]
      exact ⟨h1, log_small h1 (by omega), hP', by omega, by omega⟩
    refine ⟨_, rfl, a, ns, rfl, hS, fun q0 pu H1 s1 npu nq0 nqp hq0 P1 => ⟨q0, rfl, ⟨_, SqL.of hq0⟩, ?_⟩⟩
    refine for_it (n := 1) (walk_list (K := K) (a := q0) (xs := [V.ref pu])) (fun i σ G => G q0 = some (.lst [V.ref pu]) ∧ (i = 0 → G = H1) ∧ ∃ v1 v2 v3 v4 v5 v6 v7 v8 v9 v10 v11 v12, σ = [some (.ref a), v1, v2, v3, v4, v5, v6, v7, v8, v9, v10, v11, v12, none, none, none])
      ⟨hq0, fun _ => rfl, _, _, _, _, _, _, _, _, _, _, _, _, rfl⟩ (fun i σ G _ hh => SqL.of hh.1) ?_ ?_
    · rintro i x σ G G' hi ⟨hq, eG, v1, v2, v3, v4, v5, v6, v7, v8, v9, v10, v11, v12, rfl⟩ ⟨rfl, hv⟩
      obtain rfl : i = 0 := by omega
      obtain rfl := eG rfl
      cases hv
      refine ⟨3, rfl, by decide, by decide, ?_⟩
      refine for_it (n := 3) (walk_range (lo := 0) (n := 3)) (fun i σ G => But pu G' G ∧ (∃ M, Purse G pu M ∧ M ≤ 3000 * i) ∧ ∃ v2 v3 v4 v5 v6 v7 v8 v9 v10 v11 v12, σ = [some (.ref a), some (.ref pu), v2, v3, v4, v5, v6, v7, v8, v9, v10, v11, v12, none, none, none])
        ⟨But.refl _ _, ⟨_, P1, by omega⟩, _, _, _, _, _, _, _, _, _, _, _, rfl⟩ (fun i σ G _ _ => trivial) ?_ ?_
      · rintro i x σ G G1 hi ⟨bG, ⟨M, PG, lM⟩, v2, v3, v4, v5, v6, v7, v8, v9, v10, v11, v12, rfl⟩ ⟨rfl, rfl⟩
        obtain ⟨d1, d2, d3, d4, d5⟩ := dr 7 (by decide) (by decide) M (by omega) _ _ PG
        refine ⟨_, rfl, _, rfl, pu, 7, M, rfl, d1, d2, d3, d4, d5, fun r1 G2 r10 r11 b2 P2 => ?_⟩
        rw [mixes_one (by decide) (by decide)] at P2
        obtain ⟨r1, rfl⟩ : ∃ z : Nat, r1 = (z : Int) := ⟨r1.toNat, by omega⟩
        obtain ⟨d1, d2, d3, d4, d5⟩ := dr 4 (by decide) (by decide) (M + 1) (by omega) _ _ P2
        refine ⟨_, _, rfl, rfl, _, rfl, _, rfl, pu, 4, M + 1, rfl, d1, d2, d3, d4, d5, fun r2 G3 r20 r21 b3 P3 => ?_⟩
        rw [mixes_one (by decide) (by decide)] at P3
        obtain ⟨r2, rfl⟩ : ∃ z : Nat, r2 = (z : Int) := ⟨r2.toNat, by omega⟩
        refine ⟨_, _, rfl, rfl, pu, 1 + r2, M + 2, rfl, by omega, P3, by omega, fun p ps G4 b4 P4 np hp lp ap p30 => ?_⟩
        have npp : p ≠ pu := fresh_ne P3 np
        refine ⟨pu, p, 1 + r1, M + 12, ps, rfl, by omega, P4, by omega, npp, hp, by omega, by omega, ap, fun q ds G5 b5 P5 nq hL hG lds hps bd => ?_⟩
        have nqpu : q ≠ pu := fresh_ne P4 nq
        have hpg : ∀ x ∈ pgs ds, x ∈ ps := fun x m => by
          obtain ⟨d, hd, hx⟩ := pgs_mem.mp m
          exact hps d hd x hx
        have ll5 : LL G5 pu q ds := ⟨hL, hG, by omega, by omega, fun d hd => Nat.le_trans (bd d hd) (by decide), by
          have := List.Nodup.length_le_of_subset (pgs_nd ds) hpg
          omega, fun x hx => p30 x (hpg x hx)⟩
        have p4 : (pgs ds).length ≤ 4 := by
          have := List.Nodup.length_le_of_subset (pgs_nd ds) hpg
          omega
        have b15 : But pu G1 G5 := ((b2.trans b3).trans b4).trans b5
        have P5' : Purse G5 pu (M + 800) := P5.mono (by omega)
        refine ⟨_, rfl, _, _, rfl, rfl, _, rfl, ?_⟩
        apply mergeS (J := fun G q => But pu G1 G ∧ Purse G pu (M + 800) ∧ ∃ ds, LL G pu q ds ∧ (pgs ds).length ≤ 4)
        · intro rest
          show if decide ((0 : Int) < 0 + (i : Int)) = true then _ else _
          cases decide ((0 : Int) < 0 + (i : Int)) with
          | true =>
            refine iteT ⟨_, rfl, pu, q, ds, 20, _, rfl, P5', hL, by omega, hG.ok, fun q' G6 s6 nq' hL6 => rest G6 q' ⟨b15.trans (But.of s6), P5'.same s6, ds.map (up 20), ⟨hL6, up_lg 20 hG, ?_, ?_, ?_, ?_, ?_⟩, ?_⟩⟩
            · rw [List.length_map]; omega
            · rw [List.length_map]; omega
            · intro d hd
              obtain ⟨e, he, rfl⟩ := List.mem_map.mp hd
              have := bd e he
              show e.n + 20 ≤ 120
              omega
            · rw [up_pgs]; exact ll5.p5
            · rw [up_pgs]; exact ll5.p30
            · rw [up_pgs]; exact p4
          | false => exact iteF ⟨_, rfl, rest G5 q ⟨b15, P5', ds, ll5, p4⟩⟩
        clear ll5 hL hG lds hps bd hpg hp lp ap p30 P5 P5' P4 P3 P2 b15 b5 b4 b3 b2 p4
        rintro G6 q6 ⟨b6, P6, ds, ll, p4⟩
        refine ⟨_, rfl, _, rfl, pu, q6, ds, M + 800, rfl, P6, by omega, ll.at_, ll.lg, ll.one, by have := ll.ten; omega, ll.n200, fun cq ls G8 b8 P8 ncq hch chd => ?_⟩
        have ll8 := ll.but b8
        have ncqpu : cq ≠ pu := fresh_ne P6 ncq
        obtain ⟨xs, hc', px⟩ := id hch
        have hc := off_le _ _ _ _ hc'
        have lx := paired_len px
        have lld : ls.length = ds.length := by rw [← chd.eq, List.length_map]
        have one := ll.one
        have ten := ll.ten
        obtain ⟨d1, d2, d3, d4, d5⟩ := dr (xs.length : Int) (by omega) (by omega) (M + 900) (by omega) _ _ P8
        refine ⟨_, rfl, _, rfl, _, rfl, cq, xs, rfl, .inl (SqL.of hc), pu, (xs.length : Int), M + 900, rfl, d1, d2, d3, d4, d5, fun r3 G9 r30 r31 b9 P9 => ?_⟩
        rw [mixes_one (by omega) (by omega)] at P9
        obtain ⟨r3, rfl⟩ : ∃ z : Nat, r3 = (z : Int) := ⟨r3.toNat, by omega⟩
        refine ⟨_, _, rfl, rfl, _, rfl, cq, xs, rfl, SqL.of (b9 _ _ ncqpu hc), fun LQ hLQ => ?_⟩
        have ec : cutV xs none (some (1 + (r3 : Int))) = xs.take (1 + r3) := by
          rw [show (1 + (r3 : Int)) = ((1 + r3 : Nat) : Int) by omega]
          exact cut_n _ _
        rw [ec]
        have sLQ := Same.updf (o := .lst (xs.take (1 + r3))) hLQ
        have nLQ : LQ ≠ pu := fresh_ne P9 hLQ
        have P10 := P9.same sLQ
        have ll10 := ll8.but (b9.trans (But.of sLQ))
        have chQ : ChAt (off (upd G9 LQ (.lst (xs.take (1 + r3)))) pu) LQ (ls.take (1 + r3)) := ⟨xs.take (1 + r3), (off_at nLQ).trans upd_same, paired_take _ (paired_mono (fun l x h => h.same (but_off (b9.trans (But.of sLQ)))) px)⟩
        have b10 : But pu G1 (upd G9 LQ (.lst (xs.take (1 + r3)))) := b6.trans (b8.trans (b9.trans (But.of sLQ)))
        obtain ⟨l0, e0⟩ : ∃ l0, ls[0]? = some l0 := ⟨_, List.getElem?_eq_getElem (by omega)⟩
        obtain ⟨N, lk⟩ := chd_lk ll.lg one (by omega) chd ll.fit ll.n200 (K := 1 + r3) (by omega) (by omega) e0
        have e0' : (ls.take (1 + r3))[0]? = some l0 := by
          rw [List.getElem?_take, if_pos (by omega)]
          exact e0
        generalize upd G9 LQ (.lst (xs.take (1 + r3))) = G10 at *
        generalize ls.take (1 + r3) = LS at *
        clear sLQ hLQ P9 ec b9 px hc hc' hch ll8 P8 b8 chd lld e0 lx
        obtain ⟨xs', hQ', px⟩ := id chQ
        have hQ := off_le _ _ _ _ hQ'
        obtain ⟨x0, ex0, t0, xd0, rfl, ht0', _⟩ := paired_get1 px e0'
        have ht0 := off_le _ _ _ _ ht0'
        have lx := paired_len px
        have l60 := lk.cc.len
        have lN := lk.lN
        obtain ⟨ah, eah⟩ : ∃ ah, ah = l0.a := ⟨_, rfl⟩
        rw [← eah] at lk
        refine ⟨_, rfl, LQ, xs', 0, _, rfl, rfl, SqL.of hQ, at0 ex0, t0, _, 1, _, rfl, rfl, SqT.of ht0, rfl, ?_⟩
        rw [← eah]
        refine ⟨_, rfl, _, rfl, LQ, LS, N, rfl, chQ.same (off_le _ _), l60, lk.up, fun G11 s11 => ⟨_, rfl, LQ, xs', rfl, SqL.of (s11 _ _ hQ), fun q5 hq5 => ?_⟩⟩
        rw [cut_n]
        have s12 := s11.trans (Same.updf (o := .lst (xs'.take N)) hq5)
        have hq5' := upd_same (H := G11) (a := q5) (o := .lst (xs'.take N))
        generalize upd G11 q5 (.lst (xs'.take N)) = G12 at *
        have ltk : (xs'.take N).length = N := by
          rw [List.length_take]
          omega
        refine ⟨q5, rfl, ⟨_, SqL.of hq5'⟩, fun D6 hD6 => ?_⟩
        have nD6 : D6 ≠ pu := fresh_ne (P10.same s12) hD6
        refine lc_rel (walk_list (K := K) (a := q5) (xs := xs'.take N)) (fun _ => true) (fun i y G => ∃ l, LS[i]? = some l ∧ DeedAt (off G pu) y l.d) (fun i y G G' s ⟨l, e, h⟩ => ⟨l, e, h.same (off_same pu s)⟩) (by omega) hD6 (fun G s => SqL.of (s _ _ hq5')) ?_ ?_
        · rintro i y G3 G4 Qy Qn hi s3 ⟨acc, hacc⟩ ⟨rfl, hv⟩ ky_ kn_
          have hv2 : xs'[i]? = some y := by
            rw [List.getElem?_take] at hv
            split at hv
            · exact hv
            · cases hv
          obtain ⟨l, el, t, xd, rfl, ht', hdd⟩ := paired_get2 px hv2
          refine ⟨rfl, _, rfl, t, _, 3, _, rfl, rfl, SqT.of ((s12.trans s3) _ _ (off_le _ _ _ _ ht')), rfl, ky_ _ _ rfl (Same.refl _) ⟨l, el, ?_⟩⟩
          exact hdd.same (into2 (But.of (s12.trans s3)) (none_back s12 hD6))
        rintro B ys s13 hys py
        rw [filter_true] at py
        have hLs : LogAt (off B pu) D6 (dsN LS N) := ⟨ys, (off_at nD6).trans hys, by
          have := paired_len py
          rw [List.length_range] at this
          unfold dsN
          rw [List.length_map, List.length_take]
          omega, fun i y d e1 e2 => by
          obtain ⟨j, ej, l, el, hdd⟩ := paired_get2 py e1
          have hj : j = i := by
            obtain ⟨h1, h2⟩ := List.getElem?_eq_some_iff.mp ej
            simpa using h2.symm
          subst hj
          unfold dsN at e2
          rw [List.getElem?_map, List.getElem?_take] at e2
          split at e2
          · rw [el] at e2
            cases e2
            exact hdd.same (off_same pu (off_le _ _))
          · cases e2⟩
        have lys : ys.length = N := by
          have := paired_len py
          rw [List.length_range] at this
          omega
        have sB := s12.trans s13
        have llB := ll10.but (But.of sB)
        have chB := chQ.same (off_same pu sB)
        have PB := P10.same sB
        have bB := b10.trans (But.of sB)
        have LN : Lg (dsN LS N) := by rw [lk.eq]; exact lg_take ll.lg N
        have inds : ∀ d ∈ dsN LS N, d ∈ ds := fun d hd => by
          rw [lk.eq] at hd
          exact List.mem_of_mem_take hd
        have subp : ∀ x ∈ pgs (dsN LS N), x ∈ pgs ds := fun x hx => by
          obtain ⟨d, hd, h⟩ := pgs_mem.mp hx
          exact pgs_mem.mpr ⟨d, inds d hd, h⟩
        have l10 : (dsN LS N).length ≤ 10 := by
          rw [lk.eq, List.length_take]
          omega
        clear py s13 s12 s11 hq5 hq5' hD6 sB hQ hQ' px ex0 ht0 ht0' lx chQ ll10 P10 b10 PG
        have bG0 := bG
        refine ⟨_, _, rfl, ?_⟩
        have hys' : B D6 = some (.lst ys) := hys
        refine ⟨_, rfl, Nat.zero_le _, fun E hE => ⟨D6, E, _, rfl, rfl, SqL.of (Same.updf hE _ _ hys'), SqL.of upd_same, _, rfl, ?_⟩⟩
        have sE := Same.updf (o := .lst []) hE
        have llC := llB.but (But.of sE)
        have chC := chB.same (off_same pu sE)
        have PC := PB.same sE
        have bC := bB.trans (But.of sE)
        have hLC := hLs.same (off_same pu sE)
        have hysC := sE _ _ hys'
        clear llB chB PB bB hLs hys hys'
        generalize upd B E (.lst []) = C at *
        clear sE hE
        have yN1 : ys.isEmpty = true → ∀ d, d ∉ dsN LS N := fun hz d hd => by
          rw [List.isEmpty_iff] at hz
          rw [hz] at lys
          unfold dsN at hd
          rw [← lys] at hd
          cases hd
        have yN2 : ys.isEmpty = false → N ≠ 0 := fun hz z => by
          rw [z] at lys
          rw [List.length_eq_zero_iff.mp lys] at hz
          cases hz
        apply mergeS (J := fun G mq => But pu C G ∧ Purse G pu (M + 1000) ∧ C mq = none ∧ Mks pu LS N ah 30 G mq)
        · intro rest
          cases hz : ys.isEmpty with
          | false =>
            have n0 := yN2 hz
            refine iteT ⟨_, rfl, _, rfl, _, rfl, _, rfl, pu, D6, dsN LS N, M + 901, rfl, PC, by omega, hLC, LN, l10, fun mr m G13 b13 P13 nmr hmr mk rt => ?_⟩
            have ll13 := llC.but b13
            have nmrp : mr ≠ pu := fresh_ne PC nmr
            have lpN : (pgs (dsN LS N)).length ≤ 4 := Nat.le_trans (List.Nodup.length_le_of_subset (pgs_nd _) subp) p4
            refine ⟨pu, q6, mr, ds, pgs (dsN LS N), m, M + 901 + 30, rfl, P13, by omega, ll13.at_, ll13.lg, one, ll13.n200, nmrp, hmr, pgs_nd _, by omega, fun mq m' G14 b14 P14 nmq hmq bg => rest G14 mq ⟨b13.trans b14, P14.mono (by omega), none_but b13 (fresh_ne P13 nmq) nmq, fresh_ne P13 nmq, pgs (dsN LS N), m', hmq, pgs_asc _, by omega, fun p hp => ll.p30 p (subp p hp), fun d hd p hp => pgs_mem.mpr ⟨d, hd, hp⟩, okc_begun ll.lg lk n0 mk rt bg⟩⟩
          | true =>
            have d0 := yN1 hz
            refine iteF fun mq hmq => rest (upd C mq (.dK [])) mq ⟨But.of (Same.updf hmq), (PC.same (Same.updf hmq)).mono (by omega), hmq, fresh_ne PC hmq, [], fun _ => 0, upd_same, .nil, Nat.zero_le _, (fun p hp => nomatch hp), fun d hd => absurd hd (d0 d), rt_iff.mpr fun d hd => absurd hd (d0 d), fun p hp => nomatch hp⟩
        rintro G13 mq ⟨b13, P13, nCmq, nmq, ks, m, hmq, ksa, k5, k30, ksub, okm⟩
        obtain ⟨d1, d2, d3, d4, d5⟩ := dr ((ah : Int) + 1) (by omega) (by have := lk.a200; omega) (M + 1000) (by omega) _ _ P13
        refine ⟨_, rfl, _, rfl, _, _, rfl, rfl, pu, (ah : Int) + 1, M + 1000, rfl, d1, d2, d3, d4, d5, fun r4 G14 r40 r41 b14 P14 => ?_⟩
        rw [mixes_one (by omega) (by have := lk.a200; omega)] at P14
        obtain ⟨r4, rfl⟩ : ∃ z : Nat, r4 = (z : Int) := ⟨r4.toNat, by omega⟩
        have nin : 90 + i ∉ ks := fun z => by
          have := k30 _ z
          omega
        have ek : (90 : Int) + (0 + (i : Int)) = ((90 + i : Nat) : Int) := by omega
        refine ⟨_, rfl, _, rfl, _, _, rfl, rfl, mq, _, rfl, (by show DPut G14 mq (V.int ((90 : Int) + (0 + (i : Int)))) (V.int (r4 : Int)) _; rw [ek]; exact DPut.k (k := ky (90 + i)) (b14 _ _ nmq hmq) (by rw [dV_len]; omega)), ?_⟩
        rw [mV_new nin]
        have hmqD : MkAt (upd G14 mq (.dK (mV (ks ++ [90 + i]) (putN m (90 + i) r4)))) mq (ks ++ [90 + i]) (putN m (90 + i) r4) := upd_same
        have PD : Purse (upd G14 mq (.dK (mV (ks ++ [90 + i]) (putN m (90 + i) r4)))) pu (M + 1001) := P14.same' (upd_ne nmq.symm)
        have okm2 := okc_more LN ksub okm nin (v := r4) (by have := lk.anew; omega)
        have bD : But pu C (upd G14 mq (.dK (mV (ks ++ [90 + i]) (putN m (90 + i) r4)))) := fun c o n e => by
          rw [upd_ne (ne_of_none e nCmq)]
          exact b14 _ _ n (b13 _ _ n e)
        have asc2 : (ks ++ [90 + i]).Pairwise (· < ·) := List.pairwise_append.mpr ⟨ksa, List.pairwise_singleton _ _, fun x hx y hy => by
          have := k30 x hx
          rw [List.mem_singleton.mp hy]
          omega⟩
        have l6 : (ks ++ [90 + i]).length ≤ 6 := by
          rw [List.length_append]
          show _ + 1 ≤ 6
          omega
        have l1 : 1 ≤ (ks ++ [90 + i]).length := by
          rw [List.length_append]
          show 1 ≤ _ + 1
          omega
        have sub2 : ∀ d ∈ dsN LS N, ∀ p ∈ d.r, p ∈ ks ++ [90 + i] := fun d hd p hp => List.mem_append_left _ (ksub d hd p hp)
        generalize upd G14 mq (.dK (mV (ks ++ [90 + i]) (putN m (90 + i) r4))) = D0 at *
        generalize ks ++ [90 + i] = ks2 at *
        generalize putN m (90 + i) r4 = m2 at *
        clear ksub k30 k5 ksa okm nin ek b14 P14 b13 P13 hmq yN1 yN2
        have pr2 : Pr ks2 LS N ah := pr_of lk (by omega) sub2
        have llD := llC.but bD
        have chD := chC.same (but_off bD)
        have hLD := hLC.same (but_off bD)
        have bD1 := bC.trans bD
        clear llC chC hLC bC PC hysC nCmq
        refine ⟨_, rfl, _, rfl, _, rfl, _, rfl, _, rfl, pu, .ref q6, LQ, mq, ks2, ks2, m2, LS, N, ah, M + 1001, rfl, PD, by omega, chD, nmq, hmqD, List.Perm.refl _, asc2, by omega, pr2, okm2, LN, lk.ne, lk.l20, fun G16 b16 P16 => ⟨true, rfl, iteF ?_⟩⟩
        have ll16 := llD.but b16
        have ch16 := chD.same (but_off b16)
        have hL16 := hLD.same (but_off b16)
        have hmq16 : MkAt G16 mq ks2 m2 := b16 _ _ nmq hmqD
        have b116 := bD1.trans b16
        clear llD chD hLD hmqD bD bD1 b16 PD
        have at2 : ∀ (f : Nat → Nat) i, (hi : i < ks2.length) → (mV ks2 f)[i]? = some (ky ks2[i], .int (f ks2[i] : Int)) := fun f i hi => by
          unfold mV dV
          rw [List.getElem?_map, List.getElem?_eq_getElem hi]
          rfl
        have nd2 : ks2.Nodup := asc2.imp fun h => Nat.ne_of_lt h
        have ldk : (mV ks2 m2).length = ks2.length := dV_len _ _
        obtain ⟨ys6, hq6', ly6, hy6⟩ := id ll16.at_
        have hq6 := off_le _ _ _ _ hq6'
        obtain ⟨dz, ez⟩ : ∃ d, ds[ds.length - 1]? = some d := ⟨_, List.getElem?_eq_getElem (by omega)⟩
        have uz := ll.n200 dz (List.mem_of_getElem? ez)
        obtain ⟨xz, exz⟩ : ∃ x, ys6[ys6.length - 1]? = some x := ⟨_, List.getElem?_eq_getElem (by omega)⟩
        obtain ⟨tz, rz, wz, rfl, htz', _⟩ := hy6 _ _ _ exz (by rw [ly6]; exact ez)
        have htz := off_le _ _ _ _ htz'
        have ntz : tz ≠ pu := fun z => by
          unfold off at htz'
          rw [if_pos z] at htz'
          cases htz'
        have nq6 := ll16.npu
        refine ⟨mq, _, hmq16, trivial, fun od => ⟨_, rfl, mq, od, rfl, .inl ⟨_, upd_same, fun D hD => ?_⟩⟩⟩
        have nq6m : q6 ≠ mq := fun z => by
          unfold MkAt at hmq16
          rw [z, hmq16] at hq6
          cases hq6
        have ntzm : tz ≠ mq := fun z => by
          unfold MkAt at hmq16
          rw [z, hmq16] at htz
          cases htz
        have fb : upd G16 mq (.frz od (.dK (mV ks2 m2))) mq = some (.frz od (.dK (mV ks2 m2))) := upd_same
        have fq6 := (upd_ne (H := G16) (o := .frz od (.dK (mV ks2 m2))) nq6m).trans hq6
        have ftz := (upd_ne (H := G16) (o := .frz od (.dK (mV ks2 m2))) ntzm).trans htz
        have back : ∀ {X : Hp}, But pu (upd G16 mq (.frz od (.dK (mV ks2 m2)))) X → But pu G16 (upd X mq (.dK (mV ks2 m2))) := fun s => unlockB hmq16 s
        have PF : Purse (upd G16 mq (.frz od (.dK (mV ks2 m2)))) pu (M + 1001 + 100) := P16.same' (upd_ne nmq.symm)
        have nDm : D ≠ mq := fun z => by
          rw [z, fb] at hD
          cases hD
        have nDp : D ≠ pu := fresh_ne PF hD
        generalize upd G16 mq (.frz od (.dK (mV ks2 m2))) = F4 at *
        refine lc_it (n := ks2.length) (by have := walk_keys (d := mq) (o := od) (kvs := mV ks2 m2); rw [ldk] at this; exact this) (fun j H5 => But pu F4 H5 ∧ (∃ M2, Purse H5 pu M2 ∧ M2 ≤ M + 1101 + j) ∧ ∃ (ws : List V) (mm : Nat → Nat), H5 D = some (.lst ws) ∧ ws.length = j ∧ Paired (fun p y => PrAt H5 p (mm p) y) (ks2.take j) ws)
          ⟨But.of (Same.updf hD), ⟨_, PF.same (Same.updf hD), by omega⟩, [], fun _ => 0, upd_same, rfl, by rw [List.take_zero]; exact .nil⟩ (fun j H5 _ hh => hh.1 _ _ nmq fb) ?_ ?_
        · rintro j v H5 H6 hj ⟨b5, ⟨M2, P5, lM2⟩, ws, mm, hws, lws, pws⟩ ⟨rfl, k', v', ek, rfl⟩
          rw [at2 m2 j hj] at ek
          cases ek
          have tk1 : ks2.take (j + 1) = ks2.take j ++ [ks2[j]] := by
            rw [List.take_succ, List.getElem?_eq_getElem hj]
            rfl
          have nin : ks2[j] ∉ ks2.take j := fun z => by
            obtain ⟨j', hj', e⟩ := List.getElem_of_mem z
            rw [List.getElem_take] at e
            rw [List.length_take] at hj'
            exact List.pairwise_iff_getElem.mp nd2 j' j (by omega) hj (by omega) e
          obtain ⟨d1, d2, d3, d4, d5⟩ := dr ((dz.n : Int) + 2) (by omega) (by omega) M2 (by omega) _ _ P5
          refine ⟨rfl, _, rfl, _, rfl, _, rfl, _, rfl, q6, _, -1, _, rfl, rfl, SqL.of (b5 _ _ nq6 fq6), atL exz, tz, _, 0, _, rfl, rfl, SqT.of (b5 _ _ ntz ftz), rfl, _, _, rfl, rfl, pu, _, M2, rfl, d1, d2, d3, d4, d5, fun r H7 r0 r1 b7 P7 => ⟨(by show 2 ≤ sizeLine; omega), fun T hT => ?_⟩⟩
          rw [mixes_one (by omega) (by omega)] at P7
          obtain ⟨r, rfl⟩ : ∃ z : Nat, r = (z : Int) := ⟨r.toNat, by omega⟩
          have hws7 := b7 _ _ nDp hws
          have sT := Same.updf (o := .tup [V.int (ks2[j] : Int), V.int (r : Int)]) hT
          have nT : T ≠ pu := fresh_ne P7 hT
          have nTD : T ≠ D := (ne_of_none hws7 hT).symm
          have hws8 := sT _ _ hws7
          refine ⟨ws, hws8, by omega, fun c o n e => ?_, ⟨_, P7.same' ((upd_ne nDp.symm).trans (upd_ne nT.symm)), by omega⟩, ws ++ [.ref T], putN mm ks2[j] r, upd_same, by rw [List.length_append, lws]; rfl, ?_⟩
          · rw [upd_ne (ne_of_none e hD)]
            exact sT _ _ (b7 _ _ n (b5 _ _ n e))
          · rw [tk1]
            refine paired_snoc ?_ ?_
            · have pw : Paired (fun p y => PrAt (upd (upd H7 T (.tup [V.int (ks2[j] : Int), V.int (r : Int)])) D (.lst (ws ++ [V.ref T]))) p (mm p) y) (ks2.take j) ws := paired_mono (fun p y h => (h.but P5 (b7.trans (But.of sT))).upd hws8) pws
              exact paired_put (R := fun p v' y => PrAt (upd (upd H7 T (.tup [V.int (ks2[j] : Int), V.int (r : Int)])) D (.lst (ws ++ [V.ref T]))) p v' y) nin pw
            · refine ⟨T, rfl, ?_⟩
              rw [upd_ne nTD, upd_same]
              unfold putN
              rw [if_pos rfl]
              rfl
        rintro H5 ⟨b5, ⟨M2, P5, lM2⟩, ws, wm, hws, lws, pws⟩
        rw [List.take_length] at pws
        have fb5 := b5 _ _ nmq fb
        have bU := back b5
        have PU : Purse (upd H5 mq (.dK (mV ks2 m2))) pu M2 := P5.same' (upd_ne nmq.symm)
        obtain ⟨ts, rfl, pt⟩ := pairs_addr (K := K) (f := fun p => (ky p, V.int (wm p : Int))) (paired_mono (fun p y h => show ∃ T, y = .ref T ∧ upd H5 mq (.dK (mV ks2 m2)) T = some (.tup [kV (ky p), V.int (wm p : Int)]) from by
          obtain ⟨T, e, h⟩ := h
          exact ⟨T, e, (upd_ne (fun z => by
            rw [z, fb5] at h
            cases h)).trans h⟩) pws)
        refine ⟨fb5, D, ts, mV ks2 wm, rfl, SqL.of ((upd_ne nDm).trans hws), pt, fun wq hwq => ?_⟩
        rw [merge_dV0 nd2]
        have nwq : wq ≠ pu := fresh_ne PU hwq
        have s18 := Same.updf (o := .dK (mV ks2 wm)) hwq
        have b18 := bU.trans (But.of s18)
        have P18 := PU.same s18
        have hwq' : MkAt (upd (upd H5 mq (.dK (mV ks2 m2))) wq (.dK (mV ks2 wm))) wq ks2 wm := upd_same
        generalize upd (upd H5 mq (.dK (mV ks2 m2))) wq (.dK (mV ks2 wm)) = W0 at *
        clear pt pws hws fb5 bU PU b5 P5 s18 hwq fb fq6 ftz back PF hD nDm nDp nq6m ntzm P16
        have llW := ll16.but b18
        have chW := ch16.same (but_off b18)
        have hLW := hL16.same (but_off b18)
        have hmqW : MkAt W0 mq ks2 m2 := b18 _ _ nmq hmq16
        have b1W := b116.trans b18
        clear ll16 ch16 hL16 hmq16 b116 hq6 hq6' ly6 hy6 htz htz' exz b18
        obtain ⟨nw, enw⟩ : ∃ nw, nw = newC LS N ah := ⟨_, rfl⟩
        obtain ⟨ysW, hysW', lyW, hyW⟩ := id hLW
        have hysW := off_le _ _ _ _ hysW'
        have lysW : ysW.length = N := by
          rw [lyW]
          unfold dsN
          rw [List.length_map, List.length_take]
          omega
        have lastN : ysW.isEmpty = false → ∃ (t : Addr) (xd : V × V × V), ysW[ysW.length - 1]? = some (V.ref t) ∧ off W0 pu t = some (.tup [.int (nw : Int), xd.1, xd.2.1, xd.2.2]) := fun hz => by
          have n0 : N ≠ 0 := fun z => by
            rw [z] at lysW
            rw [List.length_eq_zero_iff.mp lysW] at hz
            cases hz
          obtain ⟨d, ed⟩ : ∃ d, (dsN LS N)[N - 1]? = some d := ⟨_, List.getElem?_eq_getElem (by omega)⟩
          obtain ⟨x, ex⟩ : ∃ x, ysW[N - 1]? = some x := ⟨_, List.getElem?_eq_getElem (by omega)⟩
          obtain ⟨t, rd, tw, rfl, ht, _⟩ := hyW _ _ _ ex ed
          refine ⟨t, (.int (d.p : Int), .ref rd, .ref tw), by rw [lysW]; exact ex, ?_⟩
          rw [enw, new_last n0 ed]
          exact ht
        have zeroN : ysW.isEmpty = true → nw = ah := fun hz => by
          rw [List.isEmpty_iff] at hz
          rw [hz] at lysW
          rw [enw]
          unfold newC
          rw [if_pos (show N = 0 from lysW.symm)]
        refine ⟨_, rfl, Nat.zero_le _, fun E1 hE1 => ⟨D6, E1, _, rfl, rfl, SqL.of (Same.updf hE1 _ _ hysW), SqL.of upd_same, _, rfl, ?_⟩⟩
        have sE1 := Same.updf (o := .lst []) hE1
        have lastNE1 : ysW.isEmpty = false → ∃ (t : Addr) (xd : V × V × V), ysW[ysW.length - 1]? = some (V.ref t) ∧ upd W0 E1 (.lst []) t = some (.tup [.int (nw : Int), xd.1, xd.2.1, xd.2.2]) := fun n0 => by
          obtain ⟨t, xd, e1, e2⟩ := lastN n0
          exact ⟨t, xd, e1, sE1 _ _ (off_le _ _ _ _ e2)⟩
        apply mergeP
        · intro rest
          cases hz : ysW.isEmpty with
          | false =>
            obtain ⟨t, xd, e1, e2⟩ := lastNE1 hz
            exact iteT ⟨_, rfl, _, rfl, D6, _, -1, _, rfl, rfl, SqL.of (sE1 _ _ hysW), atL e1, t, _, 0, _, rfl, rfl, SqT.of e2, rfl, rest⟩
          | true =>
            have r2 := rest
            rw [zeroN hz] at r2
            exact iteF ⟨_, rfl, r2⟩
        refine ⟨(by show 2 ≤ sizeLine; omega), fun TT hTT => ⟨TT, [_, _], rfl, .inl (.inl upd_same), rfl, _, [_], rfl, _, [], rfl, rfl, ?_⟩⟩
        have sTT := sE1.trans (Same.updf (o := .tup [V.ref wq, V.int (nw : Int)]) hTT)
        have ll1 := llW.but (But.of sTT)
        have ch1 := chW.same (off_same pu sTT)
        have hL1 := hLW.same (off_same pu sTT)
        have hmq1 : MkAt (upd (upd W0 E1 (.lst [])) TT (.tup [V.ref wq, V.int (nw : Int)])) mq ks2 m2 := sTT _ _ hmqW
        have hwq1 : MkAt (upd (upd W0 E1 (.lst [])) TT (.tup [V.ref wq, V.int (nw : Int)])) wq ks2 wm := sTT _ _ hwq'
        have PW1 := P18.same sTT
        have b11 := b1W.trans (But.of sTT)
        have hys1 := sTT _ _ hysW
        have lastN1 : ysW.isEmpty = false → ∃ (t : Addr) (xd : V × V × V), ysW[ysW.length - 1]? = some (V.ref t) ∧ off (upd (upd W0 E1 (.lst [])) TT (.tup [V.ref wq, V.int (nw : Int)])) pu t = some (.tup [.int (nw : Int), xd.1, xd.2.1, xd.2.2]) := fun hz => by
          obtain ⟨t, xd, e1, e2⟩ := lastN hz
          exact ⟨t, xd, e1, off_same pu sTT _ _ e2⟩
        have hyE : ∀ (j : Nat) (x : V) (d : Dd), ysW[j]? = some x → (dsN LS N)[j]? = some d → DeedAt (off (upd (upd W0 E1 (.lst [])) TT (.tup [V.ref wq, V.int (nw : Int)])) pu) x d := fun j x d h1 h2 => (hyW j x d h1 h2).same (off_same pu sTT)
        clear lastN lastNE1 sTT hTT sE1 hE1 llW chW hLW hmqW hwq' P18 b1W hysW hysW' hyW
        generalize upd (upd W0 E1 (.lst [])) TT (.tup [V.ref wq, V.int (nw : Int)]) = W1 at *
        have dg : ∀ {G : Hp} {q : Addr} {f : Nat → Nat} {p : Nat}, MkAt G q ks2 f → p ∈ ks2 → DGet G q (.int (p : Int)) (some (.int (f p : Int))) := fun {G q f p} h hp => by
          have := DGet.k (k := ky p) h
          rw [mV_val hp] at this
          exact this
        refine ⟨_, rfl, D6, rfl, ⟨_, SqL.of hys1⟩, fun D10 hD10 => ?_⟩
        refine lc_sel (n := ysW.length) (walk_list (K := K) (a := D6) (xs := ysW)) (fun i => ((dsN LS N)[i]?).bind fun d => if decide (wm d.p < d.n) = true then some (V.int (d.n : Int)) else none) (by omega) hD10 (fun G s => SqL.of (s _ _ hys1)) ?_ ?_
        · rintro j y H5 H6 Qy Qn hj s7 ⟨rfl, hv⟩ ky_ kn_
          have lj : j < (dsN LS N).length := by omega
          have hdj : (dsN LS N)[j]? = some (dsN LS N)[j] := List.getElem?_eq_getElem lj
          have md := List.getElem_mem lj
          obtain ⟨t, rd, tw, rfl, ht', _⟩ := hyE j _ _ hv hdj
          have ht := s7 _ _ (off_le _ _ _ _ ht')
          rw [hdj, Option.bind_some] at ky_ kn_
          refine ⟨rfl, _, rfl, _, rfl, t, _, 1, _, rfl, rfl, SqT.of ht, rfl, wq, _, rfl, dg (s7 _ _ hwq1) (sub2 _ md _ (LN.ok _ md).own), _, rfl, t, _, 0, _, rfl, rfl, SqT.of ht, rfl, _, _, rfl, rfl, _, rfl, ?_⟩
          by_cases c1 : wm (dsN LS N)[j].p < (dsN LS N)[j].n
          · rw [decide_eq_true (show (wm (dsN LS N)[j].p : Int) < ((dsN LS N)[j].n : Int) by omega)]
            rw [decide_eq_true c1] at ky_
            exact iteT ⟨_, rfl, t, _, 0, _, rfl, rfl, SqT.of ht, rfl, ky_ _ _ (Same.refl _) rfl⟩
          · rw [decide_eq_false (show ¬ (wm (dsN LS N)[j].p : Int) < ((dsN LS N)[j].n : Int) by omega)]
            rw [decide_eq_false c1] at kn_
            exact iteF (kn_ _ (Same.refl _) rfl)
        intro W2 s2 hR
        rw [lyW, sel_dn] at hR
        have hR2 : W2 D10 = some (.lst (numsV (dueC LS N wm))) := hR
        have ldu : (dueC LS N wm).length ≤ 1000 := by
          unfold dueC
          rw [List.length_map]
          refine Nat.le_trans (List.length_filter_le _ _) ?_
          show (dsN LS N).length ≤ 1000
          omega
        have ch2 := (ch1.same (off_same pu s2)).same (off_le _ _)
        have hL2 := (hL1.same (off_same pu s2)).same (off_le _ _)
        have hwq2 : MkAt W2 wq ks2 wm := s2 _ _ hwq1
        have vals : (mV ks2 wm).map (·.2) = (ks2.map fun p : Nat => (wm p : Int)).map V.int := by
          unfold mV dV
          rw [List.map_map, List.map_map]
          rfl
        have tsl : ∀ {G : Hp} {T L : Addr} {l : List Nat}, l.length ≤ 1000 → G T = some (.tup [V.int (nw : Int), V.ref L]) → G L = some (.lst (numsV l)) → TD G 9 (.ref T) (.tuple [.int (nw : Int), .list (numsD l)]) := fun {G T L l} h0 h1 h2 => TD.of (Tr.tup h1 rfl (by simp) (tr_cons (Tr.flat (.int _)) (tr_cons (tr_nums h2 h0) tr_nil)))
        apply mergeG (J := fun G => Same W2 G)
        · intro rest
          refine ⟨_, rfl, wq, _, rfl, hwq2, fun pV hpV => ⟨pV, ks2.map fun p : Nat => (wm p : Int), rfl, SqL.of (upd_same.trans (by rw [vals])), (by rw [List.length_map]; omega), fun mx mx1 mx2 => ⟨_, rfl, _, _, rfl, rfl, _, rfl, ?_⟩⟩⟩
          have sV := Same.updf (o := .lst ((mV ks2 wm).map (·.2))) hpV
          have hwq3 : MkAt (upd W2 pV (.lst ((mV ks2 wm).map (·.2)))) wq ks2 wm := sV _ _ hwq2
          have ch3 := ch2.same sV
          have hL3 := hL2.same sV
          have refuse : ¬ OkC LS N ah ks2 wm → ∀ (G : Hp), Same (upd W2 pV (.lst ((mV ks2 wm).map (·.2)))) G → MkAt G wq ks2 wm ∧ ChAt G LQ LS := fun _ G s => ⟨s _ _ hwq3, ch3.same s⟩
          by_cases c1 : (nw : Int) < mx
          · have no : ¬ OkC LS N ah ks2 wm := fun o => by
              obtain ⟨p, hp, e⟩ := List.mem_map.mp mx1
              have := o.2 p hp
              rw [← enw] at this
              omega
            rw [decide_eq_true c1]
            exact iteT (iteT ⟨_, rfl, _, rfl, _, rfl, wq, LQ, ks2, wm, LS, N, ah, rfl, hwq3, nd2, by omega, ch3, lk.cc, lk.up, lk.lN, pr2.sub, lk.hd, no, fun G s => ⟨true, rfl, iteF (rest _ (sV.trans s))⟩⟩)
          · rw [decide_eq_false c1]
            refine iteF ⟨_, rfl, _, rfl, D6, wq, dsN LS N, ks2, wm, rfl, hL3, LN, hwq3, (fun p hp => by
              obtain ⟨d, hd, h⟩ := pgs_mem.mp hp
              exact sub2 d hd p h), fun w0 yw G22 s22 nw0 hw0 py => ⟨Nat.zero_le _, fun E0 hE0 => ⟨w0, E0, yw, rfl, rfl, SqL.of (Same.updf hE0 _ _ hw0), SqL.of upd_same, _, rfl, ?_⟩⟩⟩
            have sE0 := s22.trans (Same.updf (o := .lst []) hE0)
            cases hwr : wr (dsN LS N) wm with
            | cons w1 ws1 =>
              have no : ¬ OkC LS N ah ks2 wm := fun o => by
                have := o.1
                unfold Rt at this
                rw [show (LS.take N).map (·.d) = dsN LS N from rfl, hwr] at this
                cases this
              rw [hwr] at py
              cases py with
              | cons _ _ => exact iteT ⟨_, rfl, _, rfl, _, rfl, wq, LQ, ks2, wm, LS, N, ah, rfl, sE0 _ _ hwq3, nd2, by omega, ch3.same sE0, lk.cc, lk.up, lk.lN, pr2.sub, lk.hd, no, fun G s => ⟨true, rfl, iteF (rest _ (sV.trans (sE0.trans s)))⟩⟩
            | nil =>
              have okw : OkC LS N ah ks2 wm := ⟨hwr, fun p hp => by
                rw [← enw]
                have := mx2 _ (List.mem_map.mpr ⟨p, hp, rfl⟩)
                omega⟩
              rw [hwr] at py
              cases py
              refine iteF ⟨_, rfl, _, rfl, _, rfl, wq, LQ, ks2, wm, LS, N, ah, rfl, sE0 _ _ hwq3, ch3.same sE0, pr2, okw, fun T4 L4 G24 s24 nT4 nL4 hT4 hL4 => ⟨_, rfl, _, rfl, (by show 2 ≤ sizeLine; omega), fun T5 hT5 => ?_⟩⟩
              rw [← enw] at hT4
              have s26 := Same.updf (o := .tup [V.int (nw : Int), V.ref D10]) hT5
              have sAll := sV.trans (sE0.trans (s24.trans s26))
              exact ⟨.ref T4, .ref T5, .tuple [.int (nw : Int), .list (numsD (dueC LS N wm))], rfl, tsl ldu (s26 _ _ hT4) (s26 _ _ hL4), tsl ldu upd_same (sAll _ _ hR2), fun G27 s27 => ⟨true, rfl, iteF (rest _ (sAll.trans s27))⟩⟩
        intro W3 s3
        have s13 := s2.trans s3
        have ll3 := ll1.but (But.of s13)
        have ch3 := ch1.same (off_same pu s13)
        have hL3 := hL1.same (off_same pu s13)
        have hmq3 : MkAt W3 mq ks2 m2 := s13 _ _ hmq1
        have P3 := PW1.same s13
        have b13 := b11.trans (But.of s13)
        have hys3 := s13 _ _ hys1
        have lastN3 : ysW.isEmpty = false → ∃ (t : Addr) (xd : V × V × V), ysW[ysW.length - 1]? = some (V.ref t) ∧ off W3 pu t = some (.tup [.int (nw : Int), xd.1, xd.2.1, xd.2.2]) := fun hz => by
          obtain ⟨t, xd, e1, e2⟩ := lastN1 hz
          exact ⟨t, xd, e1, off_same pu s13 _ _ e2⟩
        clear lastN1 s13 s3 s2 ll1 ch1 hL1 hmq1 PW1 b11 hys1 hyE hR hR2 ch2 hL2 hwq1 hwq2 hD10 ldu
        refine ⟨_, rfl, mq, _, rfl, hmq3, fun G4 pl ts s4 npl nts nin4 hpl pts => ?_⟩
        have s4' : Same W3 G4 := s4
        have ll4 := ll3.but (But.of s4')
        have P4 := P3.same s4'
        refine ⟨_, rfl, q6, ds, rfl, ll4.got, ll.lg, fun pq G5 s5 npq hpq => ⟨pq, rfl, ⟨_, SqL.of hpq⟩, fun D hD => ?_⟩⟩
        have P5 := P4.same s5
        have npqp : pq ≠ pu := fresh_ne P4 npq
        have nDp : D ≠ pu := fresh_ne P5 hD
        have ll5 := ll4.but (But.of s5)
        obtain ⟨ys6, hq6', ly6, hy6⟩ := id ll5.at_
        have hq6 := off_le _ _ _ _ hq6'
        obtain ⟨xz, exz⟩ : ∃ x, ys6[ys6.length - 1]? = some x := ⟨_, List.getElem?_eq_getElem (by omega)⟩
        obtain ⟨tz, rz, wz, rfl, htz', _⟩ := hy6 _ _ _ exz (by rw [ly6]; exact ez)
        have htz := off_le _ _ _ _ htz'
        have ntz : tz ≠ pu := fun z => by
          unfold off at htz'
          rw [if_pos z] at htz'
          cases htz'
        have lpv : (numsV (pgs ds)).length = (pgs ds).length := List.length_map _
        refine lc_it (n := (numsV (pgs ds)).length) (walk_list (K := K) (a := pq) (xs := numsV (pgs ds))) (fun j H5 => But pu G5 H5 ∧ (∃ M2', Purse H5 pu M2' ∧ M2' ≤ M2 + j) ∧ ∃ (ws : List V) (zs : List Nat), H5 D = some (.lst ws) ∧ zs.Sublist ((pgs ds).take j) ∧ Paired (fun p y => PrAt H5 p dz.n y) zs ws)
          ⟨But.of (Same.updf hD), ⟨_, P5.same (Same.updf hD), by omega⟩, [], [], upd_same, List.nil_sublist _, .nil⟩ (fun j H5 _ hh => SqL.of (hh.1 _ _ npqp hpq)) ?_ ?_
        · rintro j v H5 H6 hj ⟨b5, ⟨M3, PH, lM3⟩, ws, zs, hws, szs, pws⟩ ⟨rfl, hv⟩
          have lj : j < (pgs ds).length := by omega
          unfold numsV at hv
          rw [List.getElem?_map, List.getElem?_eq_getElem lj] at hv
          obtain rfl := Option.some.inj hv
          obtain ⟨d1, d2, d3, d4, d5⟩ := dr 2 (by decide) (by decide) M3 (by omega) _ _ PH
          refine ⟨rfl, _, rfl, pu, 2, M3, rfl, d1, d2, d3, d4, d5, fun r H7 r0 r1 b7 P7 => ⟨rfl, _, rfl, ?_⟩⟩
          rw [mixes_one (by decide) (by decide)] at P7
          have tk : (pgs ds).take (j + 1) = (pgs ds).take j ++ [(pgs ds)[j]] := tk_snoc lj
          have b57 := b5.trans b7
          have hws7 := b7 _ _ nDp hws
          have lws := paired_len pws
          have lzs : zs.length ≤ 5 := by
            have h1 := szs.length_le
            rw [List.length_take] at h1
            omega
          cases decide (V.int r = V.int 0) with
          | true =>
            refine iteT ⟨_, rfl, _, rfl, _, rfl, q6, _, -1, _, rfl, rfl, SqL.of (b57 _ _ ll5.npu hq6), atL exz, tz, _, 0, _, rfl, rfl, SqT.of (b57 _ _ ntz htz), rfl, (by show 2 ≤ sizeLine; omega), fun T hT => ?_⟩
            have sT := Same.updf (o := .tup [V.int ((pgs ds)[j] : Int), V.int (dz.n : Int)]) hT
            have nT : T ≠ pu := fresh_ne P7 hT
            have nTD : T ≠ D := (ne_of_none hws7 hT).symm
            have hws8 := sT _ _ hws7
            refine ⟨ws, hws8, by omega, fun c o n e => ?_, ⟨_, P7.same' ((upd_ne nDp.symm).trans (upd_ne nT.symm)), by omega⟩, ws ++ [.ref T], zs ++ [(pgs ds)[j]], upd_same, by rw [tk]; exact szs.append (List.Sublist.refl _), ?_⟩
            · rw [upd_ne (ne_of_none e hD)]
              exact sT _ _ (b57 _ _ n e)
            · refine paired_snoc (paired_mono (fun p y h => (h.but PH (b7.trans (But.of sT))).upd hws8) pws) ⟨T, rfl, ?_⟩
              rw [upd_ne nTD, upd_same]
          | false => exact iteF ⟨b57, ⟨_, P7, by omega⟩, ws, zs, hws7, by rw [tk]; exact szs.trans (List.sublist_append_left _ _), paired_mono (fun p y h => h.but PH b7) pws⟩
        rintro G6 ⟨b6, ⟨M3, P6, lM3⟩, ws, zs, hws, szs, pws⟩
        rw [lpv, List.take_length] at szs
        have lzs : zs.length ≤ 5 := by
          have := szs.length_le
          omega
        obtain ⟨us, rfl, pus⟩ := pairs_addr (K := K) (f := fun p => (ky p, V.int (dz.n : Int))) (paired_mono (fun p y h => h) pws)
        have npl3 : pl ≠ pu := fresh_ne P3 npl
        have hpl6 := b6 _ _ npl3 (s5 _ _ hpl)
        have pts6 : Paired (fun (p : Addr) (kv : Key × V) => SqT K G6 p [kV kv.1, kv.2]) ts (mV ks2 m2) := paired_mono (fun t q h => SqT.of (b6 _ _ (fun z => by
          obtain ⟨_, _, _, _, e', _⟩ := P4
          rw [z, e'] at h
          cases h) (s5 _ _ h))) pts
        have ltsu : (ts.map V.ref).length = ks2.length := by
          rw [List.length_map, paired_len pts6, dV_len]
        have lusz : (us.map V.ref).length = zs.length := by
          have := paired_len pus
          rw [List.length_map] at this
          rw [List.length_map, this]
        refine ⟨pl, D, _, _, rfl, rfl, hpl6, hws, (by omega), fun L hL => ?_⟩
        have sL := Same.updf (o := .lst (ts.map V.ref ++ us.map V.ref)) hL
        refine ⟨L, ts ++ us, mV ks2 m2 ++ mV zs (fun _ => dz.n), rfl, SqL.of (by rw [upd_same, List.map_append]), paired_app (paired_mono (fun p kv h => sqT_same sL h) pts6) (paired_mono (fun p kv h => sqT_same sL h) pus), fun hq hhq0 => ?_⟩
        obtain ⟨ks3, m3, e3, nd3, sub3, l3⟩ := merge_hi (f := dz.n) zs ks2 m2 nd2
        rw [merge_app, merge_dV0 nd2, e3]
        have s7 := sL.trans (Same.updf (o := .dK (mV ks3 m3)) hhq0)
        have b7 : But pu W3 (upd (upd G6 L (.lst (ts.map V.ref ++ us.map V.ref))) hq (.dK (mV ks3 m3))) := (But.of s4').trans ((But.of s5).trans (b6.trans (But.of s7)))
        have hhq : MkAt (upd (upd G6 L (.lst (ts.map V.ref ++ us.map V.ref))) hq (.dK (mV ks3 m3))) hq ks3 m3 := upd_same
        have P7 := P6.same s7
        generalize upd (upd G6 L (.lst (ts.map V.ref ++ us.map V.ref))) hq (.dK (mV ks3 m3)) = X0 at *
        clear s7 sL hL hhq0 pts6 pus pws hws hpl6 hpl pts szs P6 b6 s5 s4 s4' ll4 ll5 P4 P5 hq6 hq6' ly6 hy6 htz htz' exz hpq npq hD npl nts nin4 e3 lusz ltsu
        have chX := ch3.same (but_off b7)
        have bX := b13.trans b7
        have nD6' := nD6
        have hysX := b7 _ _ nD6 hys3
        have lastX : ysW.isEmpty = false → ∃ (t : Addr) (xd : V × V × V), ysW[ysW.length - 1]? = some (V.ref t) ∧ off X0 pu t = some (.tup [.int (nw : Int), xd.1, xd.2.1, xd.2.2]) := fun hz => by
          obtain ⟨t, xd, e1, e2⟩ := lastN3 hz
          exact ⟨t, xd, e1, but_off b7 _ _ e2⟩
        clear lastN3 b7 ll3 ch3 hL3 hmq3 P3 b13 hys3
        refine ⟨_, rfl, Nat.zero_le _, fun E2 hE2 => ⟨D6, E2, _, rfl, rfl, SqL.of (Same.updf hE2 _ _ hysX), SqL.of upd_same, _, rfl, ?_⟩⟩
        have sE2 := Same.updf (o := .lst []) hE2
        have lastE2 : ysW.isEmpty = false → ∃ (t : Addr) (xd : V × V × V), ysW[ysW.length - 1]? = some (V.ref t) ∧ upd X0 E2 (.lst []) t = some (.tup [.int (nw : Int), xd.1, xd.2.1, xd.2.2]) := fun hz => by
          obtain ⟨t, xd, e1, e2⟩ := lastX hz
          exact ⟨t, xd, e1, sE2 _ _ (off_le _ _ _ _ e2)⟩
        apply mergeP
        · intro rest
          cases hz : ysW.isEmpty with
          | false =>
            obtain ⟨t, xd, e1, e2⟩ := lastE2 hz
            exact iteT ⟨_, rfl, _, rfl, D6, _, -1, _, rfl, rfl, SqL.of (sE2 _ _ hysX), atL e1, t, _, 0, _, rfl, rfl, SqT.of e2, rfl, rest⟩
          | true =>
            have r2 := rest
            rw [zeroN hz] at r2
            exact iteF ⟨_, rfl, r2⟩
        have chY := chX.same (off_same pu sE2)
        have bY := bX.trans (But.of sE2)
        have hhqY : MkAt (upd X0 E2 (.lst [])) hq ks3 m3 := sE2 _ _ hhq
        have PY := P7.same sE2
        clear lastE2 lastX chX bX hhq P7 hysX
        generalize upd X0 E2 (.lst []) = Y0 at *
        clear sE2 hE2
        have hhq := hhqY
        have dg3 : ∀ {G : Hp} {p : Nat}, MkAt G hq ks3 m3 → p ∈ ks3 → DGet G hq (.int (p : Int)) (some (.int (m3 p : Int))) := fun {G p} h hp => by
          have := DGet.k (k := ky p) h
          rw [mV_val hp] at this
          exact this
        have kys : (mV ks3 m3).map (·.1) = (ks3.map fun p : Nat => (p : Int)).map Sum.inl := by
          unfold mV dV
          rw [List.map_map, List.map_map]
          rfl
        refine ⟨_, rfl, hq, _, ks3.map fun p : Nat => (p : Int), rfl, .inl hhq, kys, by rw [List.length_map]; omega, fun ysI p1 hpm hso hp1 => ⟨p1, rfl, ⟨_, SqL.of upd_same⟩, fun D20 hD20 => ?_⟩⟩
        obtain ⟨ps3, er, pm3, asc3⟩ := sort_nat nd3 hpm hso
        rw [er] at hD20 ⊢
        have lps : (numsV ps3).length = ps3.length := List.length_map _
        have lpk := pm3.length_eq
        have t1 := Same.updf (o := .lst (numsV ps3)) hp1
        have hp1' := upd_same (H := Y0) (a := p1) (o := .lst (numsV ps3))
        generalize upd Y0 p1 (.lst (numsV ps3)) = Z1 at *
        refine lc_sel (n := (numsV ps3).length) (walk_list (K := K) (a := p1) (xs := numsV ps3)) (fun j => (ps3[j]?).bind fun p => if decide (m3 p ≤ nw) = true then some (V.int (p : Int)) else none) (by omega) hD20 (fun G s => SqL.of (s _ _ hp1')) ?_ ?_
        · rintro j v H5 H6 Qy Qn hj s5 ⟨rfl, hv⟩ ky_ kn_
          have lj : j < ps3.length := by omega
          unfold numsV at hv
          rw [List.getElem?_map, List.getElem?_eq_getElem lj] at hv
          obtain rfl := Option.some.inj hv
          rw [List.getElem?_eq_getElem lj, Option.bind_some] at ky_ kn_
          refine ⟨rfl, _, rfl, _, rfl, hq, _, rfl, dg3 ((t1.trans s5) _ _ hhq) (pm3.mem_iff.mp (List.getElem_mem lj)), _, rfl, _, _, rfl, rfl, _, rfl, ?_⟩
          by_cases c1 : m3 ps3[j] ≤ nw
          · rw [decide_eq_true (show (m3 ps3[j] : Int) ≤ (nw : Int) by omega)]
            rw [decide_eq_true c1] at ky_
            exact iteT ⟨_, rfl, ky_ _ _ (Same.refl _) rfl⟩
          · rw [decide_eq_false (show ¬ (m3 ps3[j] : Int) ≤ (nw : Int) by omega)]
            rw [decide_eq_false c1] at kn_
            exact iteF (kn_ _ (Same.refl _) rfl)
        intro Z2 t2 hR20
        rw [lps, sel_n] at hR20
        have t12 := t1.trans t2
        refine ⟨_, rfl, hq, _, ks3.map fun p : Nat => (p : Int), rfl, .inl (t12 _ _ hhq), kys, by rw [List.length_map]; omega, fun ysI2 p2 hpm2 hso2 hp2 => ⟨p2, rfl, ⟨_, SqL.of upd_same⟩, fun D21 hD21 => ?_⟩⟩
        rw [sort_uniq pm3.symm asc3 hpm2 hso2] at hD21 ⊢
        have t3 := Same.updf (o := .lst (numsV ps3)) hp2
        have hp2' := upd_same (H := Z2) (a := p2) (o := .lst (numsV ps3))
        generalize upd Z2 p2 (.lst (numsV ps3)) = Z3 at *
        have t13 := t12.trans t3
        refine lc_sel (n := (numsV ps3).length) (walk_list (K := K) (a := p2) (xs := numsV ps3)) (fun j => (ps3[j]?).bind fun p => if (!decide (m3 p ≤ nw)) = true then some (V.int (p : Int)) else none) (by omega) hD21 (fun G s => SqL.of (s _ _ hp2')) ?_ ?_
        · rintro j v H5 H6 Qy Qn hj s5 ⟨rfl, hv⟩ ky_ kn_
          have lj : j < ps3.length := by omega
          unfold numsV at hv
          rw [List.getElem?_map, List.getElem?_eq_getElem lj] at hv
          obtain rfl := Option.some.inj hv
          rw [List.getElem?_eq_getElem lj, Option.bind_some] at ky_ kn_
          refine ⟨rfl, _, rfl, _, rfl, hq, _, rfl, dg3 ((t13.trans s5) _ _ hhq) (pm3.mem_iff.mp (List.getElem_mem lj)), _, rfl, _, _, rfl, rfl, _, rfl, ?_⟩
          by_cases c1 : m3 ps3[j] ≤ nw
          · rw [decide_eq_false (show ¬ (nw : Int) < (m3 ps3[j] : Int) by omega)]
            rw [decide_eq_true c1] at kn_
            exact iteF (kn_ _ (Same.refl _) rfl)
          · rw [decide_eq_true (show (nw : Int) < (m3 ps3[j] : Int) by omega)]
            rw [decide_eq_false c1] at ky_
            exact iteT ⟨_, rfl, ky_ _ _ (Same.refl _) rfl⟩
        intro Z4 t4 hR21
        rw [lps, sel_n] at hR21
        have t14 := t13.trans t4
        refine ⟨(by show 2 ≤ sizeLine; omega), fun T12 hT12 => ?_⟩
        have t5 := Same.updf (o := .tup [V.ref D20, V.ref D21]) hT12
        have hT12' := upd_same (H := Z4) (a := T12) (o := .tup [V.ref D20, V.ref D21])
        generalize upd Z4 T12 (.tup [V.ref D20, V.ref D21]) = Z5 at *
        have t15 := t14.trans t5
        have sub4 : ∀ l ∈ LS.take N, ∀ p ∈ l.d.r, p ∈ ks3 := fun l hl p hp => sub3 p (pr2.sub l hl p hp)
        have chZ := (chY.same (off_same pu t15)).same (off_le _ _)
        refine ⟨_, rfl, _, rfl, hq, LQ, ks3, ps3, m3, LS, N, rfl, t15 _ _ hhq, pm3.symm, asc3, by omega, chZ, lk.cc, lk.up, lk.lN, sub4, fun T7 A7 B7 Z6 t6 nT7 hT7 hA7 hB7 => ?_⟩
        rw [last_new lk, ← enw] at hA7 hB7
        have tl2 : ∀ {G : Hp} {T A B : Addr} {l1 l2 : List Nat}, l1.length ≤ 1000 → l2.length ≤ 1000 → G T = some (.tup [V.ref A, V.ref B]) → G A = some (.lst (numsV l1)) → G B = some (.lst (numsV l2)) → TD G 9 (.ref T) (.tuple [.list (numsD l1), .list (numsD l2)]) := fun {G T A B l1 l2} e1 e2 h1 h2 h3 => TD.of (Tr.tup h1 rfl (by simp) (tr_cons (tr_nums h2 e1) (tr_cons (tr_nums h3 e2) tr_nil)))
        have lf1 : (ps3.filter fun p => decide (m3 p ≤ nw)).length ≤ 1000 := by
          have := List.length_filter_le (fun p => decide (m3 p ≤ nw)) ps3
          omega
        have lf2 : (ps3.filter fun p => !decide (m3 p ≤ nw)).length ≤ 1000 := by
          have := List.length_filter_le (fun p => !decide (m3 p ≤ nw)) ps3
          omega
        have t46 := t5.trans t6
        refine ⟨_, rfl, .ref T7, .ref T12, .tuple [.list (numsD (ps3.filter fun p => decide (m3 p ≤ nw))), .list (numsD (ps3.filter fun p => !decide (m3 p ≤ nw)))], rfl, tl2 lf1 lf2 hT7 hA7 hB7, tl2 lf1 lf2 (t6 _ _ hT12') ((t3.trans (t4.trans t46)) _ _ hR20) (t46 _ _ hR21), fun Z7 t7 => ⟨true, rfl, ?_⟩⟩
        have t17 := t15.trans (t6.trans t7)
        have hT17 := (t6.trans t7) _ _ hT12'
        have hR27 := (t46.trans t7) _ _ hR21
        refine iteF ⟨_, rfl, T12, _, 1, _, rfl, rfl, SqT.of hT17, rfl, Nat.zero_le _, fun E3 hE3 => ⟨D21, E3, _, rfl, rfl, SqL.of (Same.updf hE3 _ _ hR27), SqL.of upd_same, _, rfl, ?_⟩⟩
        have t8 := t17.trans (Same.updf (o := .lst []) hE3)
        have chE := (chY.same (off_same pu t8)).same (off_le _ _)
        have hhqE : MkAt (upd Z7 E3 (.lst [])) hq ks3 m3 := t8 _ _ hhq
        cases hl : (ps3.filter fun p => !decide (m3 p ≤ nw)) with
        | nil => exact iteF (iteF ⟨bG0.trans (bY.trans (But.of t8)), ⟨_, PY.same t8, by omega⟩, _, _, _, _, _, _, _, _, _, _, _, rfl⟩)
        | cons z0 zr =>
          have mz : z0 ∈ ps3.filter fun p => !decide (m3 p ≤ nw) := by
            rw [hl]
            exact List.mem_cons_self
          have no : ¬ OkC LS N ah ks3 m3 := fun o => by
            obtain ⟨h1, h2⟩ := List.mem_filter.mp mz
            have := o.2 z0 (pm3.mem_iff.mp h1)
            rw [← enw] at this
            rw [decide_eq_true this] at h2
            cases h2
          exact iteT ⟨_, rfl, _, rfl, _, rfl, hq, LQ, ks3, m3, LS, N, ah, rfl, hhqE, nd3, by omega, chE, lk.cc, lk.up, lk.lN, sub4, lk.hd, no, fun G9 s9 => ⟨true, rfl, iteF ⟨bG0.trans (bY.trans (But.of (t8.trans s9))), ⟨_, PY.same (t8.trans s9), by omega⟩, _, _, _, _, _, _, _, _, _, _, _, rfl⟩⟩⟩
      · rintro σ G ⟨bG, _, v2, v3, v4, v5, v6, v7, v8, v9, v10, v11, v12, rfl⟩
        exact ⟨bG _ _ nqp.symm hq, fun z => absurd z (by decide), _, _, _, _, _, _, _, _, _, _, _, _, rfl⟩
    · rintro σ G ⟨hq, eG, v1, v2, v3, v4, v5, v6, v7, v8, v9, v10, v11, v12, rfl⟩
      refine fun d1 hd1 => ⟨Nat.zero_le _, fun E1 hE1 => ?_⟩
      have u1 := Same.updf (o := .dK []) hd1
      have u2 := Same.updf (o := .lst []) hE1
      have hd1' : MkAt (upd G d1 (.dK [])) d1 [] fun _ => 0 := upd_same
      have hE1' : ChAt (upd (upd G d1 (.dK [])) E1 (.lst [])) E1 [] := ⟨[], upd_same, .nil⟩
      have pr0 : ∀ ks : List Nat, ks.length ≤ 40 → Pr ks [] 0 4 := fun ks h => ⟨h, ⟨(fun l hl => nomatch hl), (fun i l m e => by cases e), Nat.zero_le _⟩, ⟨(fun i l e => by cases e), .inl rfl⟩, Nat.le_refl _, (fun l hl => nomatch hl), fun l e => by cases e⟩
      have rt0 : ∀ m, Rt ((([] : List Ln).take 0).map (·.d)) m := fun m => rfl
      have k1 := u2 _ _ hd1'
      generalize upd (upd G d1 (.dK [])) E1 (.lst []) = G1 at *
      refine ⟨d1, E1, [], fun _ => 0, [], 0, 4, rfl, k1, hE1', pr0 [] (by decide), ⟨rt0 _, fun p hp => nomatch hp⟩, fun T1 L1 G2 s2 nT1 nL1 hT1 hL1 => ?_⟩
      refine fun d2 hd2 => ⟨upd_same, [(ky 5, .int ((4 : Nat) : Int))], rfl, by decide, ?_⟩
      obtain ⟨u3, m2⟩ := disp_one (k := 5) (v := 4) hd2
      generalize upd (upd G2 d2 (.dK [])) d2 (.dK (mergeK [] [(ky 5, .int ((4 : Nat) : Int))])) = G3 at *
      refine ⟨Nat.zero_le _, fun E2 hE2 => ?_⟩
      have u4 := Same.updf (o := .lst []) hE2
      have hE2' : ChAt (upd G3 E2 (.lst [])) E2 [] := ⟨[], upd_same, .nil⟩
      have m2' : MkAt (upd G3 E2 (.lst [])) d2 [5] fun _ => 4 := u4 _ _ m2
      generalize upd G3 E2 (.lst []) = G4 at *
      refine ⟨d2, E2, [5], fun _ => 4, [], 0, 4, rfl, m2', hE2', pr0 [5] (by decide), ⟨rt0 _, fun p hp => Nat.le_refl _⟩, fun T2 L2' G5 s5 nT2 nL2 hT2 hL2 => ?_⟩
      refine fun d3 hd3 => ⟨upd_same, [(ky 5, .int ((0 : Nat) : Int)), (ky 6, .int ((1 : Nat) : Int))], rfl, by decide, ?_⟩
      have u5 : Same G5 (upd (upd G5 d3 (.dK [])) d3 (.dK (mergeK [] [(ky 5, .int ((0 : Nat) : Int)), (ky 6, .int ((1 : Nat) : Int))]))) := fun c o e => by
        rw [upd_ne (ne_of_none e hd3), upd_ne (ne_of_none e hd3)]
        exact e
      have m3 : MkAt (upd (upd G5 d3 (.dK [])) d3 (.dK (mergeK [] [(ky 5, .int ((0 : Nat) : Int)), (ky 6, .int ((1 : Nat) : Int))]))) d3 [5, 6] fun p => p - 5 := upd_same
      generalize upd (upd G5 d3 (.dK [])) d3 (.dK (mergeK [] [(ky 5, .int ((0 : Nat) : Int)), (ky 6, .int ((1 : Nat) : Int))])) = G6 at *
      refine ⟨Nat.zero_le _, fun E3 hE3 => ?_⟩
      have u6 := Same.updf (o := .lst []) hE3
      have hE3' : ChAt (upd G6 E3 (.lst [])) E3 [] := ⟨[], upd_same, .nil⟩
      have m3' : MkAt (upd G6 E3 (.lst [])) d3 [5, 6] fun p => p - 5 := u6 _ _ m3
      generalize upd G6 E3 (.lst []) = G7 at *
      have pr3 := pr0 [5, 6] (by decide)
      refine ⟨d3, E3, [5, 6], [5, 6], fun p => p - 5, [], 0, rfl, m3', List.Perm.refl _, by decide, by decide, hE3', pr3.cc, pr3.up, pr3.lN, pr3.sub, fun T3 A3 B3 G8 s8 nT3 hT3 hA3 hB3 => ?_⟩
      refine ⟨(by show 3 ≤ sizeLine; omega), fun X1 hX1 => ?_⟩
      have w1 := Same.updf (o := .lst [V.ref T1, V.ref T2, V.ref T3]) hX1
      have hX1' := upd_same (H := G8) (a := X1) (o := .lst [V.ref T1, V.ref T2, V.ref T3])
      generalize upd G8 X1 (.lst [V.ref T1, V.ref T2, V.ref T3]) = G9 at *
      refine ⟨Nat.zero_le _, fun E4 hE4 => ⟨(by show 2 ≤ sizeLine; omega), fun T4 hT4 => ?_⟩⟩
      have w2 := Same.updf (o := .lst []) hE4
      have w3 := Same.updf (o := .tup [V.int 4, V.ref E4]) hT4
      have hT4' := upd_same (H := upd G9 E4 (.lst [])) (a := T4) (o := .tup [V.int 4, V.ref E4])
      have hE4' := w3 _ _ (upd_same (H := G9) (a := E4) (o := .lst []))
      have w23 := w2.trans w3
      generalize upd (upd G9 E4 (.lst [])) T4 (.tup [V.int 4, V.ref E4]) = G10 at *
      refine ⟨Nat.zero_le _, fun E5 hE5 => ⟨(by show 2 ≤ sizeLine; omega), fun T5 hT5 => ?_⟩⟩
      have w4 := Same.updf (o := .lst []) hE5
      have w5 := Same.updf (o := .tup [V.int 4, V.ref E5]) hT5
      have hT5' := upd_same (H := upd G10 E5 (.lst [])) (a := T5) (o := .tup [V.int 4, V.ref E5])
      have hE5' := w5 _ _ (upd_same (H := G10) (a := E5) (o := .lst []))
      have w45 := w4.trans w5
      generalize upd (upd G10 E5 (.lst [])) T5 (.tup [V.int 4, V.ref E5]) = G11 at *
      refine ⟨(by show 1 ≤ sizeLine; omega), fun A6 hA6 => ⟨(by show 1 ≤ sizeLine; omega), fun A7 hA7 => ⟨(by show 2 ≤ sizeLine; omega), fun T6 hT6 => ?_⟩⟩⟩
      have w6 := Same.updf (o := .lst [V.int 5]) hA6
      have w7 := Same.updf (o := .lst [V.int 6]) hA7
      have w8 := Same.updf (o := .tup [V.ref A6, V.ref A7]) hT6
      have hT6' := upd_same (H := upd (upd G11 A6 (.lst [V.int 5])) A7 (.lst [V.int 6])) (a := T6) (o := .tup [V.ref A6, V.ref A7])
      have hA6' := (w7.trans w8) _ _ (upd_same (H := G11) (a := A6) (o := .lst [V.int 5]))
      have hA7' := w8 _ _ (upd_same (H := upd G11 A6 (.lst [V.int 5])) (a := A7) (o := .lst [V.int 6]))
      have w68 := w6.trans (w7.trans w8)
      generalize upd (upd (upd G11 A6 (.lst [V.int 5])) A7 (.lst [V.int 6])) T6 (.tup [V.ref A6, V.ref A7]) = G12 at *
      refine ⟨(by show 3 ≤ sizeLine; omega), fun X2 hX2 => ?_⟩
      have w9 := Same.updf (o := .lst [V.ref T4, V.ref T5, V.ref T6]) hX2
      have hX2' := upd_same (H := G12) (a := X2) (o := .lst [V.ref T4, V.ref T5, V.ref T6])
      generalize upd G12 X2 (.lst [V.ref T4, V.ref T5, V.ref T6]) = G13 at *
      have one4 : ∀ {G : Hp} {T L : Addr}, G T = some (.tup [V.int 4, V.ref L]) → G L = some (.lst []) → TD G 8 (.ref T) (.tuple [.int 4, .list []]) := fun {G T L} h1 h2 => TD.of (Tr.tup h1 rfl (by simp) (tr_cons (Tr.flat (.int _)) (tr_cons (tr_nums (l := []) h2 (by decide)) tr_nil)))
      have two : ∀ {G : Hp} {T A B : Addr}, G T = some (.tup [V.ref A, V.ref B]) → G A = some (.lst (numsV [5])) → G B = some (.lst (numsV [6])) → TD G 8 (.ref T) (.tuple [.list (numsD [5]), .list (numsD [6])]) := fun {G T A B} h1 h2 h3 => TD.of (Tr.tup h1 rfl (by simp) (tr_cons (tr_nums h2 (by decide)) (tr_cons (tr_nums h3 (by decide)) tr_nil)))
      have z9 := w9
      have z8 := w68.trans z9
      have z7 := w45.trans z8
      have z6 := w23.trans z7
      have z5 := w1.trans z6
      have z4 := (u5.trans (u6.trans s8)).trans z5
      have z3 := (u3.trans (u4.trans s5)).trans z4
      refine ⟨.ref X1, .ref X2, .list [.tuple [.int 4, .list []], .tuple [.int 4, .list []], .tuple [.list (numsD [5]), .list (numsD [6])]], rfl, ?_, ?_, fun G14 s14 => k _⟩
      · exact TD.lst (z6 _ _ hX1') rfl (by simp) (td_cons (one4 (z3 _ _ hT1) (z3 _ _ hL1)) (td_cons (one4 (z4 _ _ hT2) (z4 _ _ hL2)) (td_cons (two (z5 _ _ hT3) (z5 _ _ hA3) (z5 _ _ hB3)) td_nil)))
      · exact TD.lst hX2' rfl (by simp) (td_cons (one4 (z7 _ _ hT4') (z7 _ _ hE4')) (td_cons (one4 (z8 _ _ hT5') (z8 _ _ hE5')) (td_cons (two (z9 _ _ hT6') (z9 _ _ hA6') (z9 _ _ hA7')) td_nil)))
end
end K33
set_option Elab.async false
set_option linter.all false
set_option maxRecDepth 100000
set_option maxHeartbeats 8000000
/-! What is read of the class Refused. -/
namespace K33
open PySem PySem.Spec PyProof.Rows L2 KB
theorem oexB_ok {K : PySem.W.Frag} {C : Addr} (q : oexB K C = true) : ∃ nm q N bs bm sn sub ab col dd k0 k1 k2 k3 k5, K.lookup C = some (excClassObj nm q C N bs bm true sn sub ab col dd k0 k1 k2 k3 k5 "ValueError.__new__") ∧ PySem.HandSPX.refsVE bm = true := by
  unfold oexB at q
  split at q
  · rename_i dd cd sl ho
    split at q
    · rename_i C' bm k0 k1 k2 k3 n k5 hm hs
      simp only [Bool.and_eq_true, decide_eq_true_eq, Bool.not_eq_true'] at q
      obtain ⟨rfl, rfl, hdel, hdict, hr⟩ := q
      obtain ⟨nm, bs, mro, ns, qn, hd, sn, sub, ab, col, del⟩ := cd
      dsimp only at hm hdel hdict
      subst hm hdel hdict
      have hsl : sl = #[k0, k1, k2, k3, some (.builtin "ValueError.__new__"), k5] := by
        obtain ⟨l⟩ := sl
        simp only at hs
        rw [hs]
      subst hsl
      exact ⟨_, _, _, _, _, _, _, _, _, _, _, _, _, _, _, ho, hr⟩
    · cases q
  · cases q
def errArgs (a b : Pos) (d : Expr) : Arguments := { posonlyargs := [], args := [{ arg := "self", annotation := none, pos := a }, { arg := "value", annotation := none, pos := b }], vararg := none, kwonlyargs := [], kw_defaults := [], kwarg := none, defaults := [d] }
theorem errB_of {K : PySem.W.Frag} {qual : Str} {body : List Stmt} {scope : Scope} {f : Addr} {fd : FuncData} {a b : Pos} {d : Expr} (F : FunD K "__init__" qual (errArgs a b d) body scope [.non] [] f fd) : ErrB K fd := by
  obtain ⟨ds0, r0, B0⟩ := FunD.binds1 (ps := ["self", "value"]) F 1 0 (List.cons_ne_nil _ _) rfl (fun T kV doc pm an cdv ct us its h1 h2 => match us, its, h1, h2 with | [_], [_], _, _ => ⟨_, rfl, rfl⟩)
  obtain ⟨ds1, r1, B1⟩ := FunD.binds1 (ps := ["self", "value"]) F 2 1 (List.cons_ne_nil _ _) rfl (fun T kV doc pm an cdv ct us its h1 h2 => match us, its, h1, h2 with | [_, _], [_], _, _ => ⟨_, rfl, rfl⟩)
  obtain ⟨itk, Bk⟩ := FunD.kbindsD (ps := ["self", "value"]) F 1 ["value"] (fun us _ zs => us ++ zs) (List.cons_ne_nil _ _) (fun r1 _ r3 => r1.append r3) (fun T kV doc pm an cdv ct us its ws h1 h2 h3 => match us, its, ws, h1, h2, h3 with | [_], [_], [_], _, _, _ => ⟨_, rfl, rfl⟩)
  have e0 : ds0 = [.none] := by
    cases r0 with
    | cons p q =>
      cases q
      cases p
      rfl
  have e1 : ds1 = [] := by
    cases r1
    rfl
  subst e0 e1
  exact ⟨fun s v X => B0 s [v] X rfl, fun s v u X => B1 s [v, u] X rfl, fun s v u X => Bk.to s [v] [u] X rfl rfl⟩
theorem clB_ok {K : PySem.W.Frag} {C I : Addr} (h : clB K C I = true) (o : onceB K = true) : OexC K C ∧ XfC K C ∧ ExcC K C ∧ PySem.W.findIn K (.ref C) "__init__" = some (some (.ref I)) ∧ PySem.W.typeIn K (.ref I) = some (.type "function") := by
  unfold clB at h
  unfold onceB at o
  simp only [Bool.and_eq_true, decide_eq_true_eq] at h o
  obtain ⟨h1, h2, h3, h4, h5, h6, h7, h8, h9, h10, h11, h12⟩ := h
  obtain ⟨o2, o3⟩ := o
  exact ⟨⟨oexB_ok h1, h2, h3, h4, h5⟩, ⟨h6, h7, h3, h8⟩, ⟨h6, h7, h3, h8, h9, o2, o3, h10⟩, h11, h12⟩
structure Ex (K : PySem.W.Frag) : Prop where
  T : ErrC K (cR K) (iR K)
  te : PySem.W.exmOne K (.ref (cR K)) (.ref (cS K)) = some true
  kt : PySem.W.kitOne K (.ref (cR K)) (.ref (cR K)) = some true
theorem ex_of {K : PySem.W.Frag} (e : exB K = true) : Ex K := by
  unfold exB at e
  obtain ⟨e1, e⟩ := He.ba e
  obtain ⟨e2, e⟩ := He.ba e
  obtain ⟨e3, e⟩ := He.ba e
  obtain ⟨e4, e5⟩ := He.ba e
  obtain ⟨o1, o2, o3, o4, o5⟩ := clB_ok e2 e1
  exact ⟨⟨o1, o2, o3, o4, o5, of_decide_eq_true e3⟩, of_decide_eq_true e4, of_decide_eq_true e5⟩
theorem shR : ∃ a b d p1 p2 p3 p4, defArgs (inClass (top 5) 0) = errArgs a b d ∧ defBody (inClass (top 5) 0) = errBody p1 p2 p3 p4 ∧ defScope (inClass (top 5) 0) = errScope := ⟨_, _, _, _, _, _, _, rfl, rfl, rfl⟩
theorem errOk {P : Program} {w : World} {K : PySem.W.Frag} {mg : Str → Option Value} {base : Heap} {fd : FuncData} (F0 : FunD K "__init__" "Refused.__init__" (defArgs (inClass (top 5) 0)) (defBody (inClass (top 5) 0)) (defScope (inClass (top 5) 0)) [.non] [] (iR K) fd) (T : ErrC K (cR K) (iR K)) :
    FnOk P w K mg base CX0 1 (iR K) fd ["self", "value"] (spErr (cR K)) ∧ ErrB K fd := by
  have F := F0
  obtain ⟨a, b, d, p1, p2, p3, p4, h1, h2, h3⟩ := shR
  rw [h1, h2, h3] at F
  exact ⟨ok_err F T, errB_of F⟩
end K33
set_option Elab.async false
set_option linter.all false
set_option maxRecDepth 100000
set_option maxHeartbeats 16000000
/-! The end. -/
namespace K33
open PySem PySem.Spec PyProof.Rows L2 KB
section
variable {P : Program} {w : World} {K : PySem.W.Frag} {h : Heap} {mg : Str → Option Value} {base : Heap}
theorem facM (c : He.SaysD fa fn K) {f : He.Fa} (hf : f ∈ fa) : f.ok K = true := by
  have c1 := (He.ba (show ((fa.all fun f => f.ok K) && fn.all fun d => d.ok K) = true from congrArg (fun z : He.AlD => z.1) c)).1
  exact List.all_eq_true.mp c1 f hf
theorem facts {f : Addr} (X : K.In h) (G : h.Ns mainGlobals mg) (hfa : mg ("law" : Str) = some (.ref f)) (c : He.SaysD fa fn K) (ex : exB K = true) :
    ∃ fd : FuncData, (∀ (s : Shared) (v : Value), BindsTo s fd ⟨[v], []⟩ [("_law_script", v)]) ∧ ∀ base : Heap, K.In base → base.Ns mainGlobals mg → FnOk P w K mg base CX0 12 f fd ["_law_script"] (spLaw K) := by
  obtain ⟨d_is_whole_number, F_is_whole_number⟩ := c.def_ 0 (d := dT 10 "is_whole_number") rfl
  obtain ⟨d_is_count, F_is_count⟩ := c.def_ 1 (d := dT 11 "is_count") rfl
  obtain ⟨d_is_tuple_of, F_is_tuple_of⟩ := c.def_ 2 (d := dT 12 "is_tuple_of") rfl
  obtain ⟨d_ascends, F_ascends⟩ := c.def_ 3 (d := dT 13 "ascends") rfl
  obtain ⟨d_are_ascending_counts, F_are_ascending_counts⟩ := c.def_ 4 (d := dT 14 "are_ascending_counts") rfl
  obtain ⟨d_is_word, F_is_word⟩ := c.def_ 5 (d := dT 15 "is_word") rfl
  obtain ⟨d_need_count, F_need_count⟩ := c.def_ 6 (d := dT 17 "need_count") rfl
  obtain ⟨d_are_words, F_are_words⟩ := c.def_ 7 (d := dT 19 "are_words") rfl
  obtain ⟨d_is_deed, F_is_deed⟩ := c.def_ 8 (d := dT 20 "is_deed") rfl
  obtain ⟨d_figures_of, F_figures_of⟩ := c.def_ 9 (d := dT 23 "figures_of") rfl
  obtain ⟨d_without_closing, F_without_closing⟩ := c.def_ 10 (d := dT 27 "without_closing") rfl
  obtain ⟨d_words_text, F_words_text⟩ := c.def_ 11 (d := dT 28 "words_text") rfl
  obtain ⟨d_text_of_deed, F_text_of_deed⟩ := c.def_ 12 (d := dT 29 "text_of_deed") rfl
  obtain ⟨d_fits_line, F_fits_line⟩ := c.def_ 13 (d := dT 30 "fits_line") rfl
  obtain ⟨d_is_line, F_is_line⟩ := c.def_ 14 (d := dT 32 "is_line") rfl
  obtain ⟨d_head_of, F_head_of⟩ := c.def_ 15 (d := dT 33 "head_of") rfl
  obtain ⟨d_need_chain, F_need_chain⟩ := c.def_ 16 (d := dT 35 "need_chain") rfl
  obtain ⟨d_up_to_commit, F_up_to_commit⟩ := c.def_ 17 (d := dT 36 "up_to_commit") rfl
  obtain ⟨d_beginning, F_beginning⟩ := c.def_ 18 (d := dT 38 "beginning") rfl
  obtain ⟨d_last_committed, F_last_committed⟩ := c.def_ 19 (d := dT 39 "last_committed") rfl
  obtain ⟨d_deeds_of, F_deeds_of⟩ := c.def_ 20 (d := dT 40 "deeds_of") rfl
  obtain ⟨d_need_stamps_and_lines, F_need_stamps_and_lines⟩ := c.def_ 21 (d := dT 41 "need_stamps_and_lines") rfl
  obtain ⟨d_opened, F_opened⟩ := c.def_ 22 (d := dT 42 "opened") rfl
  obtain ⟨d_lines_told, F_lines_told⟩ := c.def_ 23 (d := dT 43 "lines_told") rfl
  obtain ⟨d_purse, F_purse⟩ := c.def_ 24 (d := dT 45 "_law_purse") rfl
  obtain ⟨d_mixed, F_mixed⟩ := c.def_ 25 (d := dT 46 "_law_mixed") rfl
  obtain ⟨d_draw, F_draw⟩ := c.def_ 26 (d := dT 47 "_law_draw") rfl
  obtain ⟨d_purses, F_purses⟩ := c.def_ 27 (d := dT 48 "_law_purses") rfl
  obtain ⟨d_one_of, F_one_of⟩ := c.def_ 28 (d := dT 49 "_law_one_of") rfl
  obtain ⟨d_same, F_same⟩ := c.def_ 29 (d := dT 50 "_law_same") rfl
  obtain ⟨d_exact, F_exact⟩ := c.def_ 30 (d := dT 51 "_law_exact") rfl
  obtain ⟨d_word, F_word⟩ := c.def_ 31 (d := dT 52 "_law_word") rfl
  obtain ⟨d_words, F_words⟩ := c.def_ 32 (d := dT 53 "_law_words") rfl
  obtain ⟨d_speech, F_speech⟩ := c.def_ 33 (d := dT 54 "_law_speech") rfl
  obtain ⟨d_log, F_log⟩ := c.def_ 34 (d := dT 55 "_law_log") rfl
  obtain ⟨d_sheets, F_sheets⟩ := c.def_ 35 (d := dT 56 "_law_sheets") rfl
  obtain ⟨d_of_pages, F_of_pages⟩ := c.def_ 36 (d := dT 57 "_law_of_pages") rfl
  obtain ⟨d_marks_at, F_marks_at⟩ := c.def_ 37 (d := dT 58 "_law_marks_at") rfl
  obtain ⟨d_too_new, F_too_new⟩ := c.def_ 38 (d := dT 59 "_law_too_new") rfl
  obtain ⟨d_drawn_marks, F_drawn_marks⟩ := c.def_ 39 (d := dT 60 "_law_drawn_marks") rfl
  obtain ⟨d_right_marks, F_right_marks⟩ := c.def_ 40 (d := dT 61 "_law_right_marks") rfl
  obtain ⟨d_chained, F_chained⟩ := c.def_ 41 (d := dT 62 "_law_chained") rfl
  obtain ⟨d_end_of, F_end_of⟩ := c.def_ 42 (d := dT 63 "_law_end_of") rfl
  obtain ⟨d_opened_right, F_opened_right⟩ := c.def_ 43 (d := dT 64 "_law_opened_right") rfl
  obtain ⟨d_shifted, F_shifted⟩ := c.def_ 44 (d := dT 65 "_law_shifted") rfl
  obtain ⟨d_begun, F_begun⟩ := c.def_ 45 (d := dT 66 "_law_begun") rfl
  obtain ⟨d_opening_refused_with, F_opening_refused_with⟩ := c.def_ 46 (d := dT 67 "_law_opening_refused_with") rfl
  obtain ⟨d_law, F_law⟩ := c.def_ 47 (d := dT 68 "law") rfl
  have el : ∀ {α : Type} {l : List α} {i : Nat} {a : α}, l[i]? = some a → a ∈ l := fun h => List.mem_of_getElem? h
  have gl : ∀ {x : Str}, He.Fa.glo x ∈ fa0 → mg x = some (.ref (He.ga K x)) := fun {x} hx => He.glo_ok X G (facM c (List.mem_append_left _ hx))
  have fr : ∀ {x : Str}, He.Fa.free x ∈ fa1 → mg x = none := fun {x} hx => He.free_ok X G (facM c (List.mem_append_right _ (List.mem_append_left _ hx)))
  have f2 : ∀ {y : He.Fa}, y ∈ fa2 → y.ok K = true := fun {y} hx => facM c (List.mem_append_right _ (List.mem_append_right _ hx))
  have Z : FreeS mg := ⟨⟨fr (el (i := 0) rfl), fr (el (i := 1) rfl), fr (el (i := 2) rfl), fr (el (i := 3) rfl), fr (el (i := 4) rfl), fr (el (i := 5) rfl), fr (el (i := 6) rfl), fr (el (i := 7) rfl), fr (el (i := 8) rfl), fr (el (i := 9) rfl), fr (el (i := 10) rfl), fr (el (i := 11) rfl), fr (el (i := 12) rfl), fr (el (i := 13) rfl), fr (el (i := 14) rfl), fr (el (i := 15) rfl), fr (el (i := 16) rfl), fr (el (i := 17) rfl)⟩, fr (el (i := 18) rfl), fr (el (i := 19) rfl)⟩
  have g_is_whole_number := gl (x := "is_whole_number") (el (i := 0) rfl)
  have g_is_count := gl (x := "is_count") (el (i := 1) rfl)
  have g_is_tuple_of := gl (x := "is_tuple_of") (el (i := 2) rfl)
  have g_ascends := gl (x := "ascends") (el (i := 3) rfl)
  have g_are_ascending_counts := gl (x := "are_ascending_counts") (el (i := 4) rfl)
  have g_is_word := gl (x := "is_word") (el (i := 5) rfl)
  have g_need_count := gl (x := "need_count") (el (i := 6) rfl)
  have g_are_words := gl (x := "are_words") (el (i := 7) rfl)
  have g_is_deed := gl (x := "is_deed") (el (i := 8) rfl)
  have g_figures_of := gl (x := "figures_of") (el (i := 9) rfl)
  have g_without_closing := gl (x := "without_closing") (el (i := 10) rfl)
  have g_words_text := gl (x := "words_text") (el (i := 11) rfl)
  have g_text_of_deed := gl (x := "text_of_deed") (el (i := 12) rfl)
  have g_fits_line := gl (x := "fits_line") (el (i := 13) rfl)
  have g_is_line := gl (x := "is_line") (el (i := 14) rfl)
  have g_head_of := gl (x := "head_of") (el (i := 15) rfl)
  have g_need_chain := gl (x := "need_chain") (el (i := 16) rfl)
  have g_up_to_commit := gl (x := "up_to_commit") (el (i := 17) rfl)
  have g_beginning := gl (x := "beginning") (el (i := 18) rfl)
  have g_last_committed := gl (x := "last_committed") (el (i := 19) rfl)
  have g_deeds_of := gl (x := "deeds_of") (el (i := 20) rfl)
  have g_need_stamps_and_lines := gl (x := "need_stamps_and_lines") (el (i := 21) rfl)
  have g_opened := gl (x := "opened") (el (i := 22) rfl)
  have g_lines_told := gl (x := "lines_told") (el (i := 23) rfl)
  have g_purse := gl (x := "_law_purse") (el (i := 24) rfl)
  have g_mixed := gl (x := "_law_mixed") (el (i := 25) rfl)
  have g_draw := gl (x := "_law_draw") (el (i := 26) rfl)
  have g_purses := gl (x := "_law_purses") (el (i := 27) rfl)
  have g_one_of := gl (x := "_law_one_of") (el (i := 28) rfl)
  have g_same := gl (x := "_law_same") (el (i := 29) rfl)
  have g_exact := gl (x := "_law_exact") (el (i := 30) rfl)
  have g_word := gl (x := "_law_word") (el (i := 31) rfl)
  have g_words := gl (x := "_law_words") (el (i := 32) rfl)
  have g_speech := gl (x := "_law_speech") (el (i := 33) rfl)
  have g_log := gl (x := "_law_log") (el (i := 34) rfl)
  have g_sheets := gl (x := "_law_sheets") (el (i := 35) rfl)
  have g_of_pages := gl (x := "_law_of_pages") (el (i := 36) rfl)
  have g_marks_at := gl (x := "_law_marks_at") (el (i := 37) rfl)
  have g_too_new := gl (x := "_law_too_new") (el (i := 38) rfl)
  have g_drawn_marks := gl (x := "_law_drawn_marks") (el (i := 39) rfl)
  have g_right_marks := gl (x := "_law_right_marks") (el (i := 40) rfl)
  have g_chained := gl (x := "_law_chained") (el (i := 41) rfl)
  have g_end_of := gl (x := "_law_end_of") (el (i := 42) rfl)
  have g_opened_right := gl (x := "_law_opened_right") (el (i := 43) rfl)
  have g_shifted := gl (x := "_law_shifted") (el (i := 44) rfl)
  have g_begun := gl (x := "_law_begun") (el (i := 45) rfl)
  have g_opening_refused_with := gl (x := "_law_opening_refused_with") (el (i := 46) rfl)
  have g_law := gl (x := "law") (el (i := 47) rfl)
  have EX := ex_of ex
  obtain ⟨d_err, F_err⟩ := c.def_ 48 (d := dE 5 "Refused" "Refused.__init__") rfl
  have gRef : mg "Refused" = some (.ref (cR K)) := He.glo_ok X G (f2 (y := .glo "Refused") (el (i := 6) rfl))
  have gSto : mg "StoreError" = some (.ref (cS K)) := He.glo_ok X G (f2 (y := .glo "StoreError") (el (i := 7) rfl))
  have C : Cn mg := ⟨He.str_ok X G (f2 (y := .str "LETTERS" "abcdefghijklmnopqrstuvwxyz") (el (i := 0) rfl)), He.int_ok X G (f2 (y := .int "MOST_LETTERS" 8) (el (i := 1) rfl)), He.int_ok X G (f2 (y := .int "GREAT_PRIME" 2305843009213693951) (el (i := 2) rfl)), He.int_ok X G (f2 (y := .int "AT_ONCE" 64) (el (i := 3) rfl)), He.int_ok X G (f2 (y := .int "MOST_SIGNS" 144) (el (i := 4) rfl)), He.str_ok X G (f2 (y := .str "NOTHING" "-") (el (i := 5) rfl))⟩
  have e12 := hfa.symm.trans g_law
  cases e12
  have bL := FunD.bindsA (ps := ["_law_script"]) F_law fun _ _ _ _ _ _ us hl => match us, hl with | [_], _ => rfl
  refine ⟨d_law, fun s v => bL s [v] rfl, fun base _ _ => ?_⟩
  have O_is_whole_number := ok_is_whole_number (P := P) (w := w) (base := base) F_is_whole_number Z  
  have O_is_count := ok_is_count (P := P) (w := w) (base := base) F_is_count Z g_is_whole_number F_is_whole_number O_is_whole_number 
  have O_is_tuple_of := ok_is_tuple_of (P := P) (w := w) (base := base) F_is_tuple_of Z  
  have O_ascends := ok_ascends (P := P) (w := w) (base := base) F_ascends Z  
  have O_are_ascending_counts := ok_are_ascending_counts (P := P) (w := w) (base := base) F_are_ascending_counts Z g_ascends F_ascends O_ascends g_is_count F_is_count O_is_count 
  have O_is_word := ok_is_word (P := P) (w := w) (base := base) F_is_word Z  C
  have O_need_count := ok_need_count (P := P) (w := w) (base := base) F_need_count Z g_is_count F_is_count O_is_count 
  have O_are_words := ok_are_words (P := P) (w := w) (base := base) F_are_words Z g_is_count F_is_count O_is_count g_is_word F_is_word O_is_word 
  have O_is_deed := ok_is_deed (P := P) (w := w) (base := base) F_is_deed Z g_is_tuple_of F_is_tuple_of O_is_tuple_of g_are_ascending_counts F_are_ascending_counts O_are_ascending_counts g_are_words F_are_words O_are_words g_is_count F_is_count O_is_count 
  have O_figures_of := ok_figures_of (P := P) (w := w) (base := base) F_figures_of Z  
  have O_without_closing := ok_without_closing (P := P) (w := w) (base := base) F_without_closing Z  
  have O_words_text := ok_words_text (P := P) (w := w) (base := base) F_words_text Z g_without_closing F_without_closing O_without_closing g_figures_of F_figures_of O_figures_of C
  have O_text_of_deed := ok_text_of_deed (P := P) (w := w) (base := base) F_text_of_deed Z g_words_text F_words_text O_words_text g_figures_of F_figures_of O_figures_of 
  have O_fits_line := ok_fits_line (P := P) (w := w) (base := base) F_fits_line Z g_text_of_deed F_text_of_deed O_text_of_deed C
  have O_head_of := ok_head_of (P := P) (w := w) (base := base) F_head_of Z  
  have O_is_line := ok_is_line (P := P) (w := w) (base := base) F_is_line Z g_is_tuple_of F_is_tuple_of O_is_tuple_of g_head_of F_head_of O_head_of g_is_count F_is_count O_is_count g_is_deed F_is_deed O_is_deed g_fits_line F_fits_line O_fits_line C
  have O_need_chain := ok_need_chain (P := P) (w := w) (base := base) F_need_chain Z g_is_line F_is_line O_is_line 
  have O_up_to_commit := ok_up_to_commit (P := P) (w := w) (base := base) F_up_to_commit Z  
  have O_beginning := ok_beginning (P := P) (w := w) (base := base) F_beginning Z  
  have O_last_committed := ok_last_committed (P := P) (w := w) (base := base) F_last_committed Z g_up_to_commit F_up_to_commit O_up_to_commit g_beginning F_beginning O_beginning 
  have O_deeds_of := ok_deeds_of (P := P) (w := w) (base := base) F_deeds_of Z g_up_to_commit F_up_to_commit O_up_to_commit 
  have O_need_stamps_and_lines := ok_need_stamps_and_lines (P := P) (w := w) (base := base) F_need_stamps_and_lines Z g_need_chain F_need_chain O_need_chain g_is_count F_is_count O_is_count g_deeds_of F_deeds_of O_deeds_of 
  obtain ⟨G_err, B_err⟩ := errOk (P := P) (w := w) (mg := mg) (base := base) F_err EX.T
  have O_openedX := ok_opened (P := P) (w := w) (base := base) F_opened Z g_need_stamps_and_lines F_need_stamps_and_lines O_need_stamps_and_lines g_need_count F_need_count O_need_count g_up_to_commit F_up_to_commit O_up_to_commit g_last_committed F_last_committed O_last_committed g_deeds_of F_deeds_of O_deeds_of EX.T G_err B_err gRef
  have O_opened := okR O_openedX
  have O_lines_told := ok_lines_told (P := P) (w := w) (base := base) F_lines_told Z g_need_stamps_and_lines F_need_stamps_and_lines O_need_stamps_and_lines g_last_committed F_last_committed O_last_committed 
  have O_purse := ok_purse (P := P) (w := w) (base := base) F_purse Z.toFree
  have O_draw := ok_draw (P := P) (w := w) (base := base) F_draw Z.toFree F_mixed g_mixed
  have O_purse := ok_purse (P := P) (w := w) (base := base) F_purse Z.toFree
  have O_purses := ok_purses (P := P) (w := w) (base := base) F_purses Z.toFree O_purse F_purse g_purse
  have O_one_of := ok_one (P := P) (w := w) (base := base) F_one_of Z.toFree O_draw F_draw g_draw
  have O_same := ok_same (P := P) (w := w) (base := base) F_same Z g_same
  have O_exact := ok_exact (P := P) (w := w) (base := base) F_exact Z g_exact
  have O_word := ok_word (P := P) (w := w) (base := base) F_word Z g_draw F_draw O_draw 
  have O_words := ok_words (P := P) (w := w) (base := base) F_words Z g_word F_word O_word g_draw F_draw O_draw 
  have O_speech := ok_speech (P := P) (w := w) (base := base) F_speech Z g_words F_words O_words g_one_of F_one_of O_one_of g_draw F_draw O_draw 
  have O_log := ok_log (P := P) (w := w) (base := base) F_log Z g_one_of F_one_of O_one_of g_draw F_draw O_draw g_speech F_speech O_speech 
  have O_sheets := ok_sheets (P := P) (w := w) (base := base) F_sheets Z g_draw F_draw O_draw 
  have O_of_pages := ok_of_pages (P := P) (w := w) (base := base) F_of_pages Z  
  have O_marks_at := ok_marks_at (P := P) (w := w) (base := base) F_marks_at Z g_of_pages F_of_pages O_of_pages 
  have O_too_new := ok_too_new (P := P) (w := w) (base := base) F_too_new Z  
  have O_drawn_marks := ok_drawn_marks (P := P) (w := w) (base := base) F_drawn_marks Z g_of_pages F_of_pages O_of_pages g_one_of F_one_of O_one_of 
  have O_right_marks := ok_right_marks (P := P) (w := w) (base := base) F_right_marks Z g_drawn_marks F_drawn_marks O_drawn_marks g_too_new F_too_new O_too_new g_marks_at F_marks_at O_marks_at 
  have O_chained := ok_chained (P := P) (w := w) (base := base) F_chained Z g_draw F_draw O_draw 
  have O_end_of := ok_end_of (P := P) (w := w) (base := base) F_end_of Z  
  have O_opened_right := ok_opened_right (P := P) (w := w) (base := base) F_opened_right Z g_opened F_opened O_opened g_exact F_exact O_exact g_same F_same O_same g_end_of F_end_of O_end_of g_too_new F_too_new O_too_new g_lines_told F_lines_told O_lines_told g_of_pages F_of_pages O_of_pages g_draw F_draw O_draw 
  have O_shifted := ok_shifted (P := P) (w := w) (base := base) F_shifted Z  
  have O_begun := ok_begun (P := P) (w := w) (base := base) F_begun Z g_draw F_draw O_draw 
  have O_opening_refused_with := ok_opening_refused_with (P := P) (w := w) (base := base) F_opening_refused_with Z g_opened F_opened O_openedX EX.T gRef gSto EX.te EX.kt
  exact ok_law F_law Z g_purses F_purses O_purses g_exact F_exact O_exact g_log F_log O_log g_chained F_chained O_chained g_draw F_draw O_draw g_opened F_opened O_opened g_lines_told F_lines_told O_lines_told g_sheets F_sheets O_sheets g_shifted F_shifted O_shifted g_begun F_begun O_begun g_opened_right F_opened_right O_opened_right g_right_marks F_right_marks O_right_marks g_too_new F_too_new O_too_new g_opening_refused_with F_opening_refused_with O_opening_refused_with g_of_pages F_of_pages O_of_pages g_end_of F_end_of O_end_of 
end
end K33
open PySem PySem.W PySem.Calls PyProof.Rows
theorem PySem.Challenge.cw_weavestore_k33_whole_openings_and_openin_holds : PySem.Challenge.rw_weavestore_k33_whole_openings_and_openin.Holds := by
  w_on; o_law
  refine HandSHeadRun.head_any (r := OpenLaw.row PySem.Challenge.rw_weavestore_k33_whole_openings_and_openin) (q := view (OpenLaw.row PySem.Challenge.rw_weavestore_k33_whole_openings_and_openin).prog [68]) (H := K33.hk) (ob := K33.ob) (M := 20000) (loose := K33.names) (d := HandSHeadRun.topDef (OpenLaw.row PySem.Challenge.rw_weavestore_k33_whole_openings_and_openin).prog 68) (kwd := []) K33.ob_eq
    (by kernel_rfl) (fun s => by kernel_rfl) K33.run (by kernel_rfl) (by kernel_rfl) (by kernel_rfl) (by rfl) (by first | assumption | decide +kernel) (by decide +kernel) ⟨rfl, rfl, rfl, rfl, rfl, by decide +kernel⟩ ?hw ?hc
  case hw => w_witness2
  case hc =>
    refine L2.walk_ofE (l := PySem.Challenge.rw_weavestore_k33_whole_openings_and_openin) (n := 63) (k := 12) (x := "_law_script") (CX := L2.CX0) rfl (by decide) (by kernel_rfl) ⟨rfl, by decide, by decide⟩ ?F (fun _ _ _ _ h => h)
    intro w mg fa h Y G hmg0
    obtain ⟨K, KX, c, ex⟩ := Y
    have hmg : mg ("law" : PySem.Str) = some (.ref fa) := by
      have e : (HandSHeadRun.topDef (OpenLaw.row PySem.Challenge.rw_weavestore_k33_whole_openings_and_openin).prog 68).name = ("law" : PySem.Str) := by kernel_rfl
      rw [← e]
      exact hmg0
    obtain ⟨fd, hb, hF⟩ := K33.facts (P := (PySem.Challenge.rw_weavestore_k33_whole_openings_and_openin).prog) (w := w) KX G hmg c ex
    exact ⟨K, fd, K33.spLaw K, KX, hb, fun H a ns hl _ hS => ⟨a, ns, rfl, hS, fun _ => rfl⟩, hF⟩
