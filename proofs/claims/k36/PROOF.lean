import PyProof.Rows.All
import Wide.All
import OpenK.AllK
import Wide.FinOn
import KE.KStateDown
import KE.KIsAll
import HandS.Words
import HandS.Exc
import HandS.ExcInit
import HandS.ExcIs
import HandS.ExcField
import HandS.Defaults
import HandS.Head0
import HandS.Head1
import HandS.Head2
import HandS.HeadHook1
import HandS.HeadHook2
import PySem.Challenge.RW_weavestore_k36_room_refused_and_by_name
import HandS.ForMost
import HandS.Wide
import HandS.WideBits
import HandS.Ends
import HandS.HeadEnd
import HandS.Walk
import HandS.IsInst
import HandS.Style
import HandS.Zip
import HandS.Conv
import HandS.Deep
import HandS.SortKw
import HandS.SetBool
import HandS.Strs
import PyProof.MinMaxWalk
import PyProof.WalkInts
import HandS.Dict
import HandS.DictComp
import HandS.Iter
import PyProof.EqAt
import PyProof.EqKinds
import PyProof.TupleCall
import KE.KTryMore
import HandS.ExcValue
import HandS.Text
import HandS.DictEq
import HandS.More
import HandS.ListItems
import PyProof.NeData
import KE.SortData
import HandS.WordsExc
import HandS.MakeKw
set_option Elab.async false
set_option linter.all false
set_option maxRecDepth 100000
set_option maxHeartbeats 0
/-! What is read of the heap that the module's top leaves, and the run of it. -/
namespace K36
open PySem PySem.Spec PyProof.Rows L2
def top (i : Nat) : Stmt := PySem.Challenge.pw_weavestore_k36_room_refused_and_by_name.main.body.getD i (.Pass ⟨0, 0, 0, 0⟩)
/-- the classes of errors, their __init__s -/
abbrev cRun (K : PySem.W.Frag) : Addr := He.ga K "InvalidRun"
abbrev cMom (K : PySem.W.Frag) : Addr := He.ga K "InvalidMoment"
abbrev cCnt (K : PySem.W.Frag) : Addr := He.ga K "InvalidCount"
abbrev cFul (K : PySem.W.Frag) : Addr := He.ga K "Full"
abbrev cS (K : PySem.W.Frag) : Addr := He.ga K "StoreError"
abbrev iOf (K : PySem.W.Frag) (C : Addr) : Addr := He.ma K C "__init__"
/-- the class object at C, as OexC wants it -/
def oexB (K : PySem.W.Frag) (C : Addr) : Bool := match K.lookup C with
  | some ⟨.type "type", _, .cls cd, sl⟩ => (match cd.mro, sl.toList with
    | .ref C' :: bm, [_, _, _, _, some (.builtin n), _] => decide (C' = C) && (decide (n = "ValueError.__new__") && (!cd.hasDel && (cd.hasDict && PySem.HandSPX.refsVE bm)))
    | _, _ => false)
  | _ => false
/-- what is read of a class of errors -/
def clB (K : PySem.W.Frag) (C : Addr) (I : Addr) : Bool :=
  oexB K C && (decide (PySem.W.findIn K (.ref C) "__setattr__" = some (some (.builtin "object.__setattr__"))) && (decide (PySem.W.subIn K (.ref C) (.type "BaseException") = some true) &&
  (decide (PySem.W.typeIn K (.ref C) = some (.type "type")) && (PySem.W.keepIn K (.ref C) &&
  (decide (PySem.W.findIn K (.ref C) "__getattribute__" = some (some (.builtin "BaseException.__getattribute__"))) && (decide (PySem.W.findIn K (.ref C) "__getattr__" = some none) &&
  (PySem.W.hasDictIn K C && (decide (PySem.W.findIn K (.ref C) "__class__" = some (some (.builtin "object.__class__"))) && (decide (PySem.W.mroIn K C (.type "object") = some true) &&
  (decide (PySem.W.findIn K (.ref C) "__init__" = some (some (.ref I))) && decide (PySem.W.typeIn K (.ref I) = some (.type "function"))))))))))))
/-- what is read once -/
def onceB (K : PySem.W.Frag) : Bool := decide (PySem.W.specialIn K (.builtin "object.__class__") "__get__" = some (some (.builtin "getset_descriptor.__get__"))) && decide (PySem.W.takesIn K (.builtin "object.__class__") = some true)
def kits (K : PySem.W.Frag) (C : Addr) (a b c d : Bool) : Bool := decide (PySem.W.kitOne K (.ref C) (.ref (cRun K)) = some a) && (decide (PySem.W.kitOne K (.ref C) (.ref (cCnt K)) = some b) && (decide (PySem.W.kitOne K (.ref C) (.ref (cMom K)) = some c) && (decide (PySem.W.kitOne K (.ref C) (.ref (cFul K)) = some d) &&
  (decide (PySem.W.kitOne K (.ref C) (.type "ValueError") = some true) && (decide (PySem.W.findIn K (.ref C) "value" = some none) && (decide (PySem.W.exmOne K (.ref C) (.ref (cS K)) = some true) && clB K C (iOf K C)))))))
def exB (K : PySem.W.Frag) : Bool := onceB K && (kits K (cRun K) true false false false && (kits K (cCnt K) false true false false && (kits K (cMom K) false false true false && (kits K (cFul K) false false false true &&
  (He.tupB K "LINE" [.str "line"] && He.tupB K "ROOT" [.str "root"])))))
def dE (i : Nat) (x q : Str) : He.DefD := ⟨(x, some "__init__"), "__init__", q, defArgs (inClass (top i) 0), defBody (inClass (top i) 0), defScope (inClass (top i) 0), [.non], []⟩
def dT (i : Nat) (x : Str) : He.DefD := ⟨(x, none), x, x, defArgs (top i), defBody (top i), defScope (top i), [], []⟩
def fn0 : List He.DefD := [dT 7 "is_whole_number", dT 8 "is_count", dT 9 "is_count_below", dT 10 "is_count_from_one", dT 11 "is_tuple_of", dT 12 "ascends", dT 13 "are_ascending_counts", dT 14 "are_ascending_below", dT 16 "need_count", dT 17 "need_count_from_one", dT 23 "is_stand", dT 24 "is_event", dT 25 "is_life", dT 26 "need_life", dT 27 "need_life_and_places"]
def fn1 : List He.DefD := [dT 28 "need_moment", dT 29 "numbers_given_up", dT 30 "line_places", dT 31 "given_up", dT 32 "still_needed", dT 33 "wanted", dT 34 "fits", dT 35 "first_full", dT 36 "least_places", dT 37 "spans_of", dT 38 "spans_apart", dT 39 "roots_for", dT 40 "apart_lines", dT 41 "are_apart_lines", dT 42 "with_roots"]
def fn2 : List He.DefD := [dT 43 "is_enough_with", dT 44 "places_with", dT 45 "need_two_counts", dT 46 "disc_cells", dT 47 "most_places", dT 49 "_law_purse", dT 50 "_law_mixed", dT 51 "_law_draw", dT 52 "_law_exact", dT 53 "_law_is_very", dT 54 "_law_life", dT 55 "_law_door", dT 56 "_law_by_name", dT 57 "_law_word_of", dT 58 "_law_falls"]
def fn3 : List He.DefD := [dT 59 "_law_lives_fall", dT 60 "_law_counts_fall", dT 61 "law"]
def fnE : List He.DefD := [dE 2 "InvalidRun" "InvalidRun.__init__", dE 3 "InvalidMoment" "InvalidMoment.__init__", dE 4 "InvalidCount" "InvalidCount.__init__", dE 5 "Full" "Full.__init__"]
def fn : List He.DefD := (fn0 ++ (fn1 ++ (fn2 ++ (fn3)))) ++ fnE
def gn0 : List Str := ["is_whole_number", "is_count", "is_count_below", "is_count_from_one", "is_tuple_of", "ascends", "are_ascending_counts", "are_ascending_below", "need_count", "need_count_from_one", "is_stand", "is_event", "is_life", "need_life", "need_life_and_places"]
def gn1 : List Str := ["need_moment", "numbers_given_up", "line_places", "given_up", "still_needed", "wanted", "fits", "first_full", "least_places", "spans_of", "spans_apart", "roots_for", "apart_lines", "are_apart_lines", "with_roots"]
def gn2 : List Str := ["is_enough_with", "places_with", "need_two_counts", "disc_cells", "most_places", "_law_purse", "_law_mixed", "_law_draw", "_law_exact", "_law_is_very", "_law_life", "_law_door", "_law_by_name", "_law_word_of", "_law_falls"]
def gn3 : List Str := ["_law_lives_fall", "_law_counts_fall", "law"]
def gn : List Str := gn0 ++ (gn1 ++ (gn2 ++ (gn3)))
def fa0 : List He.Fa := gn.map He.Fa.glo
def fa1 : List He.Fa := [.free "sum", .free "int", .free "max", .free "min", .free "len", .free "range", .free "isinstance", .free "all", .free "any", .free "zip", .free "divmod", .free "reversed", .free "enumerate", .free "set", .free "list", .free "tuple", .free "dict", .free "bool", .free "str", .free "sorted"]
def fa2 : List He.Fa := [.glo "LINE", .glo "ROOT", .glo "InvalidRun", .glo "InvalidMoment", .glo "InvalidCount", .glo "Full", .glo "StoreError", .int "PAGE_CELLS" 61, .int "PLACE_CELLS" 20, .free "ValueError"]
def fa : List He.Fa := fa0 ++ (fa1 ++ fa2)
def names0 : List Str := ["StoreError", "InvalidRun", "InvalidMoment", "InvalidCount", "Full", "is_whole_number", "is_count", "is_count_below", "is_count_from_one", "is_tuple_of", "ascends", "are_ascending_counts", "are_ascending_below", "need_count", "need_count_from_one"]
def names1 : List Str := ["LINE", "ROOT", "PAGE_CELLS", "PLACE_CELLS", "is_stand", "is_event", "is_life", "need_life", "need_life_and_places", "need_moment", "numbers_given_up", "line_places", "given_up", "still_needed", "wanted"]
def names2 : List Str := ["fits", "first_full", "least_places", "spans_of", "spans_apart", "roots_for", "apart_lines", "are_apart_lines", "with_roots", "is_enough_with", "places_with", "need_two_counts", "disc_cells", "most_places", "_law_purse"]
def names3 : List Str := ["_law_mixed", "_law_draw", "_law_exact", "_law_is_very", "_law_life", "_law_door", "_law_by_name", "_law_word_of", "_law_falls", "_law_lives_fall", "_law_counts_fall"]
def names : List Str := names0 ++ (names1 ++ (names2 ++ (names3)))
abbrev R : PySem.W.OpenRow := PySem.W.OpenLaw.row PySem.Challenge.rw_weavestore_k36_room_refused_and_by_name
abbrev qv : Program := PySem.W.view R.prog [61]
abbrev AlX : Type := He.AlD × Bool
def obX (K : PySem.W.Frag) : AlX := (He.obsD fa fn K, exB K)
/-- what an object of these names, one step on -/
def tgt (g : Addr → Option Obj) (a : Addr) : List Addr := match g a with
  | some o => (match o.data with
    | .cls cd => [cd.ns]
    | .func fd => He.refV fd.code ++ He.refV fd.defaults
    | .dict es _ => es.toList.flatMap fun e => He.refV e.val
    | _ => [])
  | none => []
def as1 (g : Addr → Option Obj) : List Addr := tgt g mainGlobals
def as2 (g : Addr → Option Obj) : List Addr := (as1 g).flatMap (tgt g)
def as3 (g : Addr → Option Obj) : List Addr := (as2 g).flatMap (tgt g)
def as4 (g : Addr → Option Obj) : List Addr := (as3 g).flatMap (tgt g)
def obG (g : Addr → Option Obj) : AlX := obX (He.frG g (sysModules :: mainGlobals :: (as1 g ++ (as2 g ++ (as3 g ++ as4 g)))))
def hk : PySem.W.Hook where
  α := AlX
  obs := fun s => obG s.heap.get?
  val := fun _ => (He.valD fn, true)
  says := fun _ h => ∃ K : PySem.W.Frag, K.In h ∧ He.SaysD fa fn K ∧ exB K = true
  of := fun _ _ e => ⟨_, He.frG_in, congrArg (fun z : AlX => z.1) e, congrArg (fun z : AlX => z.2) e⟩
  keeps := fun _ _ _ ⟨K, hK, c⟩ k => ⟨K, PySem.W.Frag.In.keeps hK k, c⟩
def ob (s : PySem.W.SharedT) : AlX := obG (HandSHeadRun.getT s)
theorem ob_eq (s : PySem.W.SharedT) : ob s = hk.obs s.abs := by
  have e : HandSHeadRun.getT s = s.abs.heap.get? := funext (HandSHeadRun.getT_eq s)
  show obG (HandSHeadRun.getT s) = obG s.abs.heap.get?
  rw [e]
theorem run (w : World) : HandSHeadRun.RunEq R qv hk ob 20000 names w := by
  intro os
  kernel_rfl
end K36
set_option Elab.async false
set_option linter.all false
set_option maxRecDepth 100000
set_option maxHeartbeats 4000000
/-! What does not speak of a law: purses, what is left as it was, walks. -/
namespace L2
open PySem PySem.Spec PyProof.Rows
theorem Same.updf {H : Hp} {p : Addr} {o : HO} (h : H p = none) : Same H (L2.upd H p o) := fun b o' e => by
  rw [upd_ne (ne_of_none e h)]
  exact e
/-- a comprehension whose turns change nothing that stands: what it gives at each turn, if anything -/
theorem lc_sel {J : It} {n : Nat} {G : Hp → Prop} {Y : Nat → Hp → V → Hp → Prop} (w : Walk J n G Y) {g : TG} {tt : TT} {te : TE} {vs : List Nat} {σ : St} {H1 : Hp} {D : Addr} {Qd : Hp → Prop} (f : Nat → Option V) (hn : n ≤ 100000) (hD : H1 D = none)
    (hG : ∀ H, Same H1 H → G H)
    (hs : ∀ i x H H' (Qy : V → Hp → Prop) (Qn : Hp → Prop), i < n → Same H1 H → Y i H x H' → (∀ y H4, Same H H4 → f i = some y → Qy y H4) → (∀ H4, Same H H4 → f i = none → Qn H4) →
      g x (wipe σ vs) H' fun σ2 H2 => wipe σ2 vs = wipe σ vs ∧ tt σ2 H2 fun b H3 => if b = true then te σ2 H3 Qy else Qn H3)
    (hd : ∀ H, Same H1 H → H D = some (.lst ((List.range n).filterMap f)) → Qd H) :
    ∃ W : Nat → Nat → Hp → Prop, (∃ m, W 0 m (upd H1 D (.lst []))) ∧ ∀ i m H, W i m H →
      (J.stop i H ∧ Qd H) ∨ (J.go i H ∧ ∃ Nx : Hp → Prop, (∀ H', Nx H' → ∃ m', m' < m ∧ W (i + 1) m' H') ∧ ∀ x H', J.yld i H x H' → g x (wipe σ vs) H' fun σ2 H2 => wipe σ2 vs = wipe σ vs ∧ tt σ2 H2 fun b H3 =>
        if b = true then te σ2 H3 fun y H4 => ∃ acc, H4 D = some (.lst acc) ∧ acc.length < sizeLine ∧ Nx (upd H4 D (.lst (acc ++ [y]))) else Nx H3) := by
  refine lc_it w (fun i H => Same H1 H ∧ H D = some (.lst ((List.range i).filterMap f))) ⟨Same.updf hD, upd_same⟩ (fun i H _ h => hG H h.1) (fun i x H H' hi hP hy => ?_) (fun H h => hd H h.1 h.2)
  refine hs i x H H' _ _ hi hP.1 hy (fun y H4 s4 e => ?_) (fun H4 s4 e => ?_)
  · refine ⟨_, s4 _ _ hP.2, ?_, fun b o eb => ?_, ?_⟩
    · have l1 : ((List.range i).filterMap f).length ≤ i := by
        have := List.length_filterMap_le f (List.range i)
        rw [List.length_range] at this
        exact this
      have l2 : (100000 : Nat) < sizeLine := by decide
      omega
    · rw [upd_ne (ne_of_none eb hD)]
      exact s4 _ _ (hP.1 _ _ eb)
    · rw [upd_same, List.range_succ, List.filterMap_append, List.filterMap_cons, e]
      rfl
  · refine ⟨hP.1.trans s4, ?_⟩
    rw [List.range_succ, List.filterMap_append, List.filterMap_cons, e, List.filterMap_nil, List.append_nil]
    exact s4 _ _ hP.2
/-- a pair's two names: the tuple is new -/
theorem pair_st {i j : Nat} {xs ys : Nat → Option V} {t : Nat} {σ : St} {H H' : Hp} {v : V} {Q : St → Hp → Prop} (y : YPair xs ys t H v H') {K : PySem.W.Frag}
    (k : ∀ x z, xs t = some x → ys t = some z → Same H H' → ∃ T, v = .ref T ∧ SqT K H' T [x, z] ∧ Q ((σ.set i (some x)).set j (some z)) H') :
    ∃ x z T, v = .ref T ∧ SqT K H' T [x, z] ∧ Q ((σ.set i (some x)).set j (some z)) H' := by
  obtain ⟨T, x, z, h1, h2, h3, h4, h5⟩ := y
  obtain ⟨T', e1, e2, e3⟩ := k x z h4 h5 (by rw [h3]; exact Same.updf h2)
  exact ⟨x, z, T', e1, e2, e3⟩
end L2
namespace KB
open PySem PySem.Spec PyProof.Rows L2
/-- built-in names that the module leaves free -/
structure Free (mg : Str → Option Value) : Prop where
  sum : mg "sum" = none
  int : mg "int" = none
  max : mg "max" = none
  min : mg "min" = none
  len : mg "len" = none
  range : mg "range" = none
  isi : mg "isinstance" = none
  all : mg "all" = none
  any : mg "any" = none
  zip : mg "zip" = none
  divmod : mg "divmod" = none
  reversed : mg "reversed" = none
  enumerate : mg "enumerate" = none
  tset : mg "set" = none
  tlist : mg "list" = none
  ttuple : mg "tuple" = none
  tdict : mg "dict" = none
  tbool : mg "bool" = none
theorem op_powL {X : Cx} : OpR X (binaryOp .Pow) (rI (fun i n => 0 ≤ n ∧ (Builtin.Int.intBits i : Int) * n ≤ 2 ^ 27) fun i j => .int (i ^ j.toNat)) :=
  opI fun _ _ _ _ _ _ _ hc q => pow_int hc.1 hc.2 q
/-- a purse: what is left of a great number, the seed, how often it was mixed, the place -/
structure Purse (H : Hp) (p : Addr) (N : Nat) : Prop where
  at_ : ∃ A B c i : Int, H p = some (.lst [.int A, .int B, .int c, .int i]) ∧ (0 ≤ B ∧ B < 2147483648) ∧ 0 ≤ A ∧ 0 ≤ c ∧ c ≤ (N : Int)
theorem Purse.mono {H : Hp} {p : Addr} {N M : Nat} (h : Purse H p N) (l : N ≤ M) : Purse H p M := by
  obtain ⟨A, B, c, i, e, hB, h1, h2, h3⟩ := h
  exact ⟨A, B, c, i, e, hB, h1, h2, by omega⟩
theorem Purse.same {H H' : Hp} {p : Addr} {N : Nat} (k : Same H H') (h : Purse H p N) : Purse H' p N := by
  obtain ⟨A, B, c, i, e, r⟩ := h
  exact ⟨A, B, c, i, k _ _ e, r⟩
/-- all but p stands as it did -/
def But (p : Addr) (H H' : Hp) : Prop := ∀ b o, b ≠ p → H b = some o → H' b = some o
theorem But.refl (p : Addr) (H : Hp) : But p H H := fun _ _ _ e => e
theorem But.trans {p : Addr} {H H1 H2 : Hp} (a : But p H H1) (b : But p H1 H2) : But p H H2 := fun x o n e => b x o n (a x o n e)
theorem But.of {p : Addr} {H H' : Hp} (k : Same H H') : But p H H' := fun b o _ e => k b o e
theorem But.upd {p : Addr} {H : Hp} {o : HO} : But p H (L2.upd H p o) := fun b o' n e => by
  rw [upd_ne n]
  exact e
theorem Same.upd {H : Hp} {p : Addr} {o : HO} (h : H p = none) : Same H (L2.upd H p o) := fun b o' e => by
  rw [upd_ne (ne_of_none e h)]
  exact e
theorem cut_map (ns : List Int) (lo hi : Option Int) : cutV (ns.map V.int) lo hi = ((ns.drop (HT.sIx (ns.map V.int).length 0 lo)).take (HT.sIx (ns.map V.int).length (ns.map V.int).length hi - HT.sIx (ns.map V.int).length 0 lo)).map V.int := by
  unfold cutV
  rw [List.map_take, List.map_drop]
def spPurse (K : PySem.W.Frag) : Sp := fun vs H Q _ => ∃ (a : Addr) (ns : List Int) (i : Int), vs = [.ref a, .int i] ∧ SqL K H a (ns.map V.int) ∧
  ∀ p H', Same H H' → H p = none → Purse H' p 0 → Q (.ref p) H'
/-- any rest there is -/
def spMixed : Sp := fun vs H Q _ => ∃ B c i : Int, vs = [.int B, .int c, .int i] ∧ (0 ≤ c ∧ c ≤ 2 ^ 60) ∧ ∀ r : Int, 0 ≤ r → r < 2147483587 → Q (.int r) H
/-- how often a draw of one of m mixes -/
def mixes (m : Int) : Nat := (1 + (Builtin.Int.intBits m : Int) / 28).toNat
def spDraw : Sp := fun vs H Q _ => ∃ (p : Addr) (m : Int) (N : Nat), vs = [.ref p, .int m] ∧ 1 ≤ m ∧ m.natAbs.log2 < 9000 ∧ Purse H p N ∧ N + mixes m ≤ 2 ^ 50 ∧ mixes m ≤ 2 ^ 50 ∧
  ∀ (r : Int) (H' : Hp), 0 ≤ r → r < m → But p H H' → Purse H' p (N + mixes m) → Q (.int r) H'
theorem mixes_one {m : Int} (h0 : 1 ≤ m) (h : m < 2 ^ 27) : mixes m = 1 := by
  have e : Builtin.Int.intBits m ≤ 27 := PyProof.Rows.intBits_le (by omega)
  unfold mixes
  omega
theorem log_small {m : Int} (h0 : 1 ≤ m) (h : m < 2 ^ 27) : m.natAbs.log2 < 9000 := by
  have e : m.natAbs < 2 ^ 27 := by omega
  have := PySem.Flt.log2_lt_of (by decide) e
  omega
theorem But.seq {K : PySem.W.Frag} {p a : Addr} {H H' : Hp} {xs : List V} (k : But p H H') (n : a ≠ p) (h : SqL K H a xs) : SqL K H' a xs := by
  rcases h with (h | ⟨o, h⟩) | h
  · exact .inl (.inl (k _ _ n h))
  · exact .inl (.inr ⟨o, k _ _ n h⟩)
  · exact .inr h
/-- purses(script, 1): the list of one purse -/
def spPurses (K : PySem.W.Frag) : Sp := fun vs H Q _ => ∃ (a : Addr) (ns : List Int), vs = [.ref a, .int 1] ∧ SqL K H a (ns.map V.int) ∧
  ∀ q p H', Same H H' → H p = none → H q = none → p ≠ q → H' q = some (.lst [.ref p]) → Purse H' p 0 → Q (.ref q) H'
def spOne (K : PySem.W.Frag) : Sp := fun vs H Q _ => ∃ (p q : Addr) (xs : List V) (N : Nat), vs = [.ref p, .ref q] ∧ q ≠ p ∧ SqL K H q xs ∧ 1 ≤ xs.length ∧ xs.length ≤ 1000000 ∧ Purse H p N ∧ N ≤ 2 ^ 40 ∧
  ∀ x H', x ∈ xs → But p H H' → Purse H' p (N + 1) → Q x H'

theorem none_back {H H' : Hp} {q : Addr} (k : Same H H') (h : H' q = none) : H q = none := by
  cases e : H q with
  | none => rfl
  | some o =>
    have := k _ _ e
    rw [h] at this
    cases this
theorem mixes_le {m : Int} (h0 : 1 ≤ m) (h : m < 2 ^ 62) : mixes m ≤ 3 := by
  have e : Builtin.Int.intBits m ≤ 62 := PyProof.Rows.intBits_le (by omega)
  unfold mixes
  omega
theorem via_nx {f b c : L2.St → Hp → Prop} {r : VK} {σ : L2.St} {H : Hp} (h : f σ H) : (Ends.mk f r b c).nx σ H := h
theorem via_seq {t u : TS} {D : Ends} {σ : L2.St} {H : Hp} (h : t { D with nx := u D } σ H) : tSeq t u D σ H := h
theorem via_asg {te : TE} {g : TG} {D : Ends} {σ : L2.St} {H : Hp} (h : te σ H fun x H1 => g x σ H1 D.nx) : tAsg te g D σ H := h
theorem fresh_ne {X : Hp} {pu b : Addr} {M : Nat} (h : Purse X pu M) (hb : X b = none) : b ≠ pu := fun e => by
  obtain ⟨A0, B, c, i, e2, _⟩ := h
  rw [e, e2] at hb
  cases hb
theorem But.none {pu b : Addr} {X Y : Hp} (k : But pu X Y) (ne : b ≠ pu) (h : Y b = none) : X b = none := by
  cases e : X b with
  | none => rfl
  | some o =>
    have := k _ _ ne e
    rw [h] at this
    cases this
theorem Purse.same' {H H' : Hp} {p : Addr} {N : Nat} (k : H' p = H p) (h : Purse H p N) : Purse H' p N := by
  obtain ⟨A, B, c, i, e, r⟩ := h
  exact ⟨A, B, c, i, k.trans e, r⟩

/-- a statement that is never come to -/
theorem ps_dead {X : Cx} {st : Stmt} : PS X st (fun _ _ _ => False) := ⟨fun _ _ _ _ _ _ h => h.elim⟩
end KB
set_option Elab.async false
set_option linter.all false
set_option maxRecDepth 100000
set_option maxHeartbeats 4000000
/-! Data on the tracked heap; what is counted; the greatest of a list that may be empty. -/
namespace L2
open PySem PySem.Spec PyProof.Rows
open RZ
theorem walk_zipT {K : PySem.W.Frag} {a b : Addr} {xs ys : List V} {n : Nat} (hn : n = min xs.length ys.length) : Walk (ItzT K a b) n (fun H => SqT K H a xs ∧ SqT K H b ys) (YPair (fun i => xs[i]?) (fun i => ys[i]?)) where
  goes := fun i _ hi q => ⟨xs, ys, xs[i]'(by omega), ys[i]'(by omega), q.1, q.2, List.getElem?_eq_getElem _, List.getElem?_eq_getElem _⟩
  stops := fun _ q => ⟨xs, ys, q.1, q.2, by omega⟩
  yields := fun i H v H' _ q y => by
    obtain ⟨T, x, z, e1, e2, e3, e4, e5⟩ := y
    exact ⟨T, x, z, e1, e2, e3, e4 _ q.1, e5 _ q.2⟩
section
variable {X : Cx}
/-- how often a datum stands in a list of data -/
def rCountD (K : PySem.W.Frag) : V → List V → Hp → VK → Prop := fun x zs H Q => ∃ (a : Addr) (y : V) (d : PyData) (ds : List PyData), x = V.ref a ∧ zs = [y] ∧ Dp K H (V.ref a) (.list ds) ∧ Dp K H y d ∧ SeqAt.shaped (.list ds) = true ∧ SeqAt.shaped d = true ∧
  Q (.int ((ds.countP fun z => PyData.eqv z d : Nat) : Int)) H
theorem mt_countD (hu : X.A.units + 65 < cLine) : MtR X "list.count" (rCountD X.K) := by
  intro pins s σ H x zs v us Q I rx rz h
  obtain ⟨a, y, d, ds, rfl, rfl, hL, hY, sL, sY, q⟩ := h
  obtain ⟨w, rfl, rw'⟩ := rz.one
  cases rx
  obtain ⟨bs, rY⟩ := Dp.reads I d y w hY rw'
  have cL : PyData.canLayAll0 ds = true := SeqAt.canLay_of_shaped sL
  cases hL with
  | lst hs hA =>
    obtain ⟨its, rv, ⟨⟨c0, d0, dat, sl0⟩, k0, hob, hcl, _, hda⟩, _⟩ := I.list hs
    dsimp only at hcl hda
    subst hcl hda
    obtain ⟨as, rA⟩ := Dp.readsAll I ds _ its hA rv
    have em : its.map (SeqAt.readOf s.heap) = ds := SeqAt.readsAll_map ds its as cL rA
    refine call_meets PySem.F.slot_list_count ⟨_, hob, rfl⟩ PySem.F.entry_list_count (PySem.F.args_list_count_2 _ _)
      (SeqAt.list_countAt a its.toArray k0 d0 sl0 w fun u => PyData.eqv (SeqAt.readOf s.heap u) d) ⟨hob, ?_, ?_⟩
    · exact SeqAt.items_eqAt (vs := its.toArray) (show ReadsAll s.heap its.toArray.toList ds as from rA) rY cL (SeqAt.canLay_of_shaped sY) (room_in_shaped sY hu)
    · refine ⟨.int (its.toArray.toList.countP fun u => PyData.eqv (SeqAt.readOf s.heap u) d : Nat), H, I.tok _, ⟨_, rfl⟩, ?_⟩
      have e : ((its.toArray.toList.countP fun u => PyData.eqv (SeqAt.readOf s.heap u) d : Nat) : Int) = ((ds.countP fun z => PyData.eqv z d : Nat) : Int) := by
        rw [← em, List.countP_map]
        rfl
      rw [e]
      exact q
end
end L2
namespace KB
open PySem PySem.Spec PyProof.Rows L2
/-- a value that is no object -/
inductive FlatD : V → PyData → Prop
  | non : FlatD .non .none
  | bl (b : Bool) : FlatD (.bl b) (.bool b)
  | int (i : Int) : FlatD (.int i) (.int i)
  | str (x : Str) : FlatD (.str x) (.str x)
/-- a value that stands for a datum: lists and tuples, each tracked, nested at most so deep -/
def Tr (H : Hp) : Nat → V → PyData → Prop
  | 0, x, d => FlatD x d
  | n + 1, x, d => FlatD x d ∨ ∃ (a : Addr) (xs : List V) (ds : List PyData), x = .ref a ∧ xs.length = ds.length ∧ ds.length ≤ 1000 ∧ ((H a = some (.lst xs) ∧ d = .list ds) ∨ (H a = some (.tup xs) ∧ d = .tuple ds)) ∧
      ∀ (i : Nat) (u : V) (e : PyData), xs[i]? = some u → ds[i]? = some e → Tr H n u e
theorem Tr.same {H H' : Hp} (k : Same H H') : ∀ {n : Nat} {x : V} {d : PyData}, Tr H n x d → Tr H' n x d
  | 0, _, _, h => h
  | n + 1, _, _, h => by
    rcases h with h | ⟨a, xs, ds, e1, e2, e3, e4, e5⟩
    · exact .inl h
    · exact .inr ⟨a, xs, ds, e1, e2, e3, e4.elim (fun z => .inl ⟨k _ _ z.1, z.2⟩) (fun z => .inr ⟨k _ _ z.1, z.2⟩), fun i u e h1 h2 => Tr.same k (e5 i u e h1 h2)⟩
theorem Tr.up {H : Hp} : ∀ {n : Nat} {x : V} {d : PyData}, Tr H n x d → Tr H (n + 1) x d
  | 0, _, _, h => .inl h
  | n + 1, _, _, h => by
    rcases h with h | ⟨a, xs, ds, e1, e2, e3, e4, e5⟩
    · exact .inl h
    · exact .inr ⟨a, xs, ds, e1, e2, e3, e4, fun i u e h1 h2 => Tr.up (e5 i u e h1 h2)⟩
theorem Tr.flat {H : Hp} {n : Nat} {x : V} {d : PyData} (h : FlatD x d) : Tr H n x d := by
  cases n with
  | zero => exact h
  | succ n => exact .inl h
theorem Tr.lst {H : Hp} {n : Nat} {a : Addr} {xs : List V} {ds : List PyData} (h : H a = some (.lst xs)) (l : xs.length = ds.length) (s : ds.length ≤ 1000) (k : ∀ (i : Nat) (u : V) (e : PyData), xs[i]? = some u → ds[i]? = some e → Tr H n u e) : Tr H (n + 1) (.ref a) (.list ds) :=
  .inr ⟨a, xs, ds, rfl, l, s, .inl ⟨h, rfl⟩, k⟩
theorem Tr.tup {H : Hp} {n : Nat} {a : Addr} {xs : List V} {ds : List PyData} (h : H a = some (.tup xs)) (l : xs.length = ds.length) (s : ds.length ≤ 1000) (k : ∀ (i : Nat) (u : V) (e : PyData), xs[i]? = some u → ds[i]? = some e → Tr H n u e) : Tr H (n + 1) (.ref a) (.tuple ds) :=
  .inr ⟨a, xs, ds, rfl, l, s, .inr ⟨h, rfl⟩, k⟩
/-- item by item -/
theorem tr_cons {H : Hp} {n : Nat} {x : V} {xs : List V} {d : PyData} {ds : List PyData} (h : Tr H n x d) (k : ∀ (i : Nat) (u : V) (e : PyData), xs[i]? = some u → ds[i]? = some e → Tr H n u e) : ∀ (i : Nat) (u : V) (e : PyData), (x :: xs)[i]? = some u → (d :: ds)[i]? = some e → Tr H n u e
  | 0, _, _, h1, h2 => by
    obtain rfl := Option.some.inj h1
    obtain rfl := Option.some.inj h2
    exact h
  | i + 1, u, e, h1, h2 => k i u e h1 h2
theorem tr_nil {H : Hp} {n : Nat} : ∀ (i : Nat) (u : V) (e : PyData), ([] : List V)[i]? = some u → ([] : List PyData)[i]? = some e → Tr H n u e := fun i u e h1 h2 => by simp at h1
theorem tr_snoc {H : Hp} {n : Nat} {x : V} {xs : List V} {d : PyData} {ds : List PyData} (l : xs.length = ds.length) (k : ∀ (i : Nat) (u : V) (e : PyData), xs[i]? = some u → ds[i]? = some e → Tr H n u e) (h : Tr H n x d) :
    ∀ (i : Nat) (u : V) (e : PyData), (xs ++ [x])[i]? = some u → (ds ++ [d])[i]? = some e → Tr H n u e := fun i u e h1 h2 => by
  by_cases hi : i < xs.length
  · rw [List.getElem?_append_left hi] at h1
    rw [List.getElem?_append_left (by omega)] at h2
    exact k i u e h1 h2
  · rw [List.getElem?_append_right (by omega)] at h1
    rw [List.getElem?_append_right (by omega)] at h2
    cases hj : i - xs.length with
    | zero =>
      rw [hj] at h1
      rw [show i - ds.length = 0 by omega] at h2
      obtain rfl := Option.some.inj h1
      obtain rfl := Option.some.inj h2
      exact h
    | succ j =>
      rw [hj] at h1
      simp at h1
theorem FlatD.dp {K : PySem.W.Frag} {H : Hp} {x : V} {d : PyData} (h : FlatD x d) : Dp K H x d := by
  cases h
  · exact .non
  · exact .bl _
  · exact .int _
  · exact .str _
theorem dpAll_of {K : PySem.W.Frag} {H : Hp} : ∀ {xs : List V} {ds : List PyData}, xs.length = ds.length → (∀ (i : Nat) (u : V) (e : PyData), xs[i]? = some u → ds[i]? = some e → Dp K H u e) → DpAll K H xs ds
  | [], [], _, _ => .nil
  | [], _ :: _, h, _ => by simp at h
  | _ :: _, [], h, _ => by simp at h
  | x :: xs, d :: ds, h, k => .cons (k 0 x d rfl rfl) (dpAll_of (by simpa using h) fun i u e h1 h2 => k (i + 1) u e h1 h2)
theorem Tr.dp {K : PySem.W.Frag} {H : Hp} : ∀ {n : Nat} {x : V} {d : PyData}, Tr H n x d → Dp K H x d
  | 0, _, _, h => FlatD.dp h
  | n + 1, _, _, h => by
    rcases h with h | ⟨a, xs, ds, rfl, e2, e3, e4, e5⟩
    · exact FlatD.dp h
    · rcases e4 with ⟨h, rfl⟩ | ⟨h, rfl⟩
      · exact .lst (SqL.of h) (dpAll_of e2 fun i u e h1 h2 => (e5 i u e h1 h2).dp)
      · exact .tup (SqT.of h) (dpAll_of e2 fun i u e h1 h2 => (e5 i u e h1 h2).dp)
/-- alike: both stand for one datum -/
def spExact (n : Nat) : Sp := fun vs H Q _ => ∃ (x y : V) (d : PyData), vs = [x, y] ∧ Tr H n x d ∧ Tr H n y d ∧ ∀ H', Same H H' → Q (.bl true) H'
theorem FlatD.ty {K : PySem.W.Frag} {H : Hp} {x : V} {d : PyData} (h : FlatD x d) : ∃ t, TyX K H x (.type t) ∧ kitB t "list" = some false ∧ kitB t "tuple" = some false ∧ kitB t "dict" = some false ∧ ∃ i b, kitB t "int" = some i ∧ kitB t "bool" = some b := by
  cases h with
  | non => exact ⟨"NoneType", .base .non, by decide +kernel, by decide +kernel, by decide +kernel, false, false, by decide +kernel, by decide +kernel⟩
  | bl b => exact ⟨"bool", .base (.bl b), by decide +kernel, by decide +kernel, by decide +kernel, true, true, by decide +kernel, by decide +kernel⟩
  | int i => exact ⟨"int", .base (.int i), by decide +kernel, by decide +kernel, by decide +kernel, true, false, by decide +kernel, by decide +kernel⟩
  | str z => exact ⟨"str", .base (.str z), by decide +kernel, by decide +kernel, by decide +kernel, false, false, by decide +kernel, by decide +kernel⟩
theorem FlatD.scal {x : V} {d : PyData} (h : FlatD x d) : scal x x = true := by
  cases h <;> rfl
theorem FlatD.eq {x y : V} {d : PyData} (h : FlatD x d) (h' : FlatD y d) : x = y := by
  cases h <;> cases h' <;> rfl
theorem FlatD.noL {x : V} {ds : List PyData} (h : FlatD x (.list ds)) : False := nomatch h
theorem FlatD.noT {x : V} {ds : List PyData} (h : FlatD x (.tuple ds)) : False := nomatch h
/-- all of a list that is true at each place -/
theorem all_bits {K : PySem.W.Frag} {n : Nat} {H : Hp} {D : Addr} (hR : H D = some (.lst ((List.range n).filterMap fun _ => some (V.bl true)))) : ∃ bs : List Bool, SqL K H D (bs.map V.bl) ∧ bs.all id = true := by
  refine ⟨List.replicate n true, ?_, ?_⟩
  · have e : ((List.range n).filterMap fun _ => some (V.bl true)) = (List.replicate n true).map V.bl := by
      rw [List.filterMap_eq_map', List.map_const', List.length_range, List.map_replicate]
    rw [e] at hR
    exact SqL.of hR
  · rw [List.all_eq_true]
    intro b hb
    exact (List.eq_of_mem_replicate hb)
end KB
set_option Elab.async false
set_option linter.all false
set_option maxRecDepth 100000
set_option maxHeartbeats 4000000
namespace K36
open PySem PySem.Spec PyProof.Rows L2 KB
abbrev FnP (K : PySem.W.Frag) (x : Str) (st : Stmt) (f : Addr) (fd : FuncData) : Prop := FunD K x x (defArgs st) (defBody st) (defScope st) [] [] f fd
abbrev sPurse : Stmt := top 49
abbrev sMixed : Stmt := top 50
abbrev sDraw : Stmt := top 51
section
variable {P : Program} {w : World} {K : PySem.W.Frag} {mg : Str → Option Value} {base : Heap} {f fM : Addr} {fd fdM : FuncData}
theorem scPurse : FnScope ["_law_script", "_law_at", "_law_seed"] ["_law_script", "_law_at"] (defScope sPurse) := ⟨rfl, rfl, rfl, by decide +kernel, rfl, by decide +kernel, by decide +kernel⟩
theorem ok_purse (F : FnP K "_law_purse" sPurse f fd) (Z : Free mg) : FnOk P w K mg base CX0 1 f fd ["_law_script", "_law_at"] (spPurse K) := by
  refine F.ok scPurse (fun vs H Q E h => ?_) (fun cdv A outer s H vs Q E hr h => ?_)
  · obtain ⟨a, ns, i, rfl, _⟩ := h
    rfl
  · obtain ⟨a, ns, i, rfl, hS, k⟩ := h
    have nd := scPurse.nd
    refine ⟨_, PSs.nox (pss_cons (ps_set (i := 2) nd rfl (Or.inl rfl) (pe_callB (cr_sum rfl) (by rfl) Z.sum (by decide +kernel) (pa_cons (pe_slice sl_list (pv 0) (po_some (pv 1)) (po_some (pe_op op_add (pv 1) pe_int))) pa_nil)))
      (pss_one (ps_ret (pe_lst (pa_cons (pe_op op_mod (pe_callTy call_int1 (by rfl) Z.int (by decide +kernel) (pa_cons (pe_callB (call_max2 rfl) (by rfl) Z.max (by decide +kernel)
          (pa_cons (pe_op op_sub (pv 2) (pe_op op_pow pe_int pe_int)) (pa_cons pe_int pa_nil))) pa_nil)) (pe_op op_powL (pe_op op_pow pe_int pe_int) pe_int))
        (pa_cons (pe_op op_mod (pe_callTy call_int1 (by rfl) Z.int (by decide +kernel) (pa_cons (pv 2) pa_nil)) pe_int) (pa_cons pe_int (pa_cons (pv 1) pa_nil)))))))), ?_⟩
    refine ⟨_, rfl, _, rfl, i, rfl, ?_⟩
    refine ⟨_, rfl, _, _, rfl, rfl, ?_⟩
    refine ⟨i + 1, rfl, a, _, rfl, hS, fun q hq => ?_⟩
    rw [cut_map]
    refine ⟨q, _, rfl, SqL.of upd_same, ?_⟩
    -- the list
    refine ⟨_, rfl, _, _, rfl, rfl, ⟨by decide, by decide, by decide⟩, _, _, rfl, rfl, ?_⟩
    refine ⟨_, _, rfl, Or.inl ⟨_, rfl, ?_⟩⟩
    refine ⟨_, _, rfl, rfl, ⟨by decide, by decide, by decide⟩, ?_⟩
    refine ⟨_, _, rfl, rfl, ⟨by decide, by decide +kernel⟩, ?_⟩
    refine ⟨_, _, rfl, rfl, (by show (0 : Int) < _; decide +kernel), ?_⟩
    refine ⟨_, rfl, Or.inl ⟨_, rfl, ?_⟩⟩
    refine ⟨_, _, rfl, rfl, (by show (0 : Int) < _; decide), ?_⟩
    refine ⟨_, rfl, (by show 4 ≤ sizeLine; decide), fun p hp => ?_⟩
    refine k p _ (Same.trans (Same.upd hq) (Same.upd hp)) ?_ ⟨_, _, 0, i, upd_same, ⟨Int.emod_nonneg _ (by decide), Int.lt_trans (Int.emod_lt_of_pos _ (by decide)) (by decide)⟩, Int.emod_nonneg _ (by decide +kernel), Int.le_refl _, Int.le_refl _⟩
    rw [upd_ne (fun e => by rw [e, upd_same] at hp; cases hp)] at hp
    exact hp
theorem scMixed : FnScope ["_law_seed", "_law_spin", "_law_at", "_law_mixed_here"] ["_law_seed", "_law_spin", "_law_at"] (defScope sMixed) := ⟨rfl, rfl, rfl, by decide +kernel, rfl, by decide +kernel, by decide +kernel⟩
theorem ok_mixed (F : FnP K "_law_mixed" sMixed f fd) (Z : Free mg) : FnOk P w K mg base CX0 1 f fd ["_law_seed", "_law_spin", "_law_at"] spMixed := by
  refine F.ok scMixed (fun vs H Q E h => ?_) (fun cdv A outer s H vs Q E hr h => ?_)
  · obtain ⟨B, c, i, rfl, _⟩ := h
    rfl
  · obtain ⟨B, c, i, rfl, ⟨hc0, hc1⟩, k⟩ := h
    have nd := scMixed.nd
    refine ⟨_, PSs.nox (pss_cons (ps_set (i := 3) nd rfl (Or.inl rfl) (pe_op op_add (pe_op op_mul (pv 0) pe_int) (pe_op op_mul (pe_op op_mul pe_int (pv 1)) (pv 1))))
      (pss_cons (ps_set (i := 3) nd rfl (Or.inl rfl) (pe_op op_mod (pe_callTy call_int1 (by rfl) Z.int (by decide +kernel) (pa_cons (pe_op op_add (pe_op op_add (pv 3) (pe_op op_mul pe_int (pv 2))) (pv 1)) pa_nil)) pe_int))
      (pss_cons (ps_set (i := 3) nd rfl (Or.inl rfl) (pe_op op_mod (pe_callTy call_int1 (by rfl) Z.int (by decide +kernel) (pa_cons (pe_op op_add (pe_op op_mul (pv 3) (pv 3)) pe_int) pa_nil)) pe_int))
      (pss_one (ps_ret (pe_op op_mod (pe_callTy call_int1 (by rfl) Z.int (by decide +kernel) (pa_cons (pe_op op_mul (pv 3) pe_int) pa_nil)) pe_int)))))), ?_⟩
    have c64 : -(2 ^ 64) < c ∧ c < 2 ^ 64 := ⟨by omega, by omega⟩
    refine ⟨_, rfl, _, _, rfl, rfl, Or.inr ⟨by decide, by decide⟩, ?_⟩
    refine ⟨_, rfl, _, _, rfl, rfl, Or.inl ⟨by decide, by decide⟩, ?_⟩
    refine ⟨_, rfl, _, _, rfl, rfl, Or.inr c64, ?_⟩
    refine ⟨_, _, rfl, rfl, ?_⟩
    refine ⟨_, rfl, _, rfl, _, _, rfl, rfl, Or.inl ⟨by decide, by decide⟩, ?_⟩
    refine ⟨_, _, rfl, rfl, _, rfl, _, _, rfl, rfl, ?_⟩
    refine Or.inl ⟨_, rfl, ?_⟩
    refine ⟨_, _, rfl, rfl, (by show (0 : Int) < _; decide), ?_⟩
    generalize hm : (B * 69069 + 104729 * c * c + 7919 * i + c) % 2147483647 = m
    have h1 : 0 ≤ m := by rw [← hm]; exact Int.emod_nonneg _ (by decide)
    have h2 : m < 2147483647 := by rw [← hm]; exact Int.emod_lt_of_pos _ (by decide)
    refine ⟨_, rfl, _, rfl, _, _, rfl, rfl, Or.inl ⟨by omega, by omega⟩, ?_⟩
    refine ⟨_, _, rfl, rfl, Or.inl ⟨_, rfl, ?_⟩⟩
    refine ⟨_, _, rfl, rfl, (by show (0 : Int) < _; decide), ?_⟩
    refine ⟨_, rfl, _, _, rfl, rfl, Or.inr ⟨by decide, by decide⟩, Or.inl ⟨_, rfl, ?_⟩⟩
    refine ⟨_, _, rfl, rfl, (by show (0 : Int) < _; decide), ?_⟩
    exact k _ (Int.emod_nonneg _ (by decide)) (Int.emod_lt_of_pos _ (by decide))
theorem scDraw : FnScope ["_law_purse_here", "_law_many", "_law_drawn", "_law_found", "_law_piece"] ["_law_purse_here", "_law_many"] (defScope sDraw) := ⟨rfl, rfl, rfl, by decide +kernel, rfl, by decide +kernel, by decide +kernel⟩
theorem ok_draw (F : FnP K "_law_draw" sDraw f fd) (Z : Free mg) (FM : FnP K "_law_mixed" sMixed fM fdM) (gM : mg "_law_mixed" = some (.ref fM)) : FnOk P w K mg base CX0 2 f fd ["_law_purse_here", "_law_many"] spDraw := by
  have GM : FnOk P w K mg base CX0 1 fM fdM ["_law_seed", "_law_spin", "_law_at"] spMixed := ok_mixed FM Z
  have bM : Binds K fdM ["_law_seed", "_law_spin", "_law_at"] [] := FM.bindsN fun _ _ _ _ _ _ us hl => match us, hl with | [_, _, _], _ => rfl
  refine F.ok scDraw (fun vs H Q E h => ?_) (fun cdv A outer s H vs Q E hr h => ?_)
  · obtain ⟨p, m, N, rfl, _⟩ := h
    rfl
  · obtain ⟨p, m, N, rfl, hm1, hm2, hP, hN, hN2, k⟩ := h
    obtain ⟨A0, B, c, i, hp, hB, hA, hc, hcN⟩ := id hP
    have nd := scDraw.nd
    refine ⟨_, PSs.nox (pss_cons (ps_if (pt_cmpR op_gt (pe_ix ix_list (pv 0) pe_int (fun _ _ => rfl)) pe_int (nomark _))
        (pss_cons (ps_set (i := 2) nd rfl (Or.inl rfl) (pe_op op_mod (pe_callTy call_int1 (by rfl) Z.int (by decide +kernel) (pa_cons (pe_ix ix_list (pv 0) pe_int (fun _ _ => rfl)) pa_nil)) (pv 1)))
        (pss_cons (ps_asg (pe_op op_fdivW (pe_ix ix_list (pv 0) pe_int (fun _ _ => rfl)) (pv 1)) (pg_sub (pv 0) pe_int set_list))
        (pss_one (ps_ret (pv 2))))) pss_nil)
      (pss_cons (ps_set (i := 3) nd rfl (Or.inl rfl) pe_int)
      (pss_cons (ps_for PassesOwn.never rfl (pi_range1 rfl Z.range (pa_cons (pe_op op_add pe_int (pe_op op_fdiv (pe_bits (pv 1)) pe_int)) pa_nil)) (pg_name (i := 4) nd rfl (Or.inl rfl))
        (pss_cons (ps_asg (pe_op op_add (pe_ix ix_list (pv 0) pe_int (fun _ _ => rfl)) pe_int) (pg_sub (pv 0) pe_int set_list))
        (pss_one (ps_set (i := 3) nd rfl (Or.inl rfl) (pe_op op_add (pe_op op_mul (pv 3) pe_int) (pe_call GM hr rfl gM FM.kp bM .nil pass0
          (pa_cons (pe_ix ix_list (pv 0) pe_int (fun _ _ => rfl)) (pa_cons (pe_ix ix_list (pv 0) pe_int (fun _ _ => rfl)) (pa_cons (pe_ix ix_list (pv 0) pe_int (fun _ _ => rfl)) pa_nil)))))))))
      (pss_one (ps_ret (pe_op op_mod (pe_callTy call_int1 (by rfl) Z.int (by decide +kernel) (pa_cons (pv 3) pa_nil)) (pv 1))))))), ?_⟩
    -- if purse[0] > 0
    refine ⟨_, rfl, p, _, 0, .int A0, rfl, rfl, SqL.of hp, rfl, ?_⟩
    refine ⟨_, _, rfl, rfl, _, rfl, ?_⟩
    refine ite2 (fun hpos => ?_) (fun hneg => ?_)
    · refine ⟨_, rfl, p, _, 0, .int A0, rfl, rfl, SqL.of hp, rfl, Or.inl ⟨_, rfl, ?_⟩⟩
      refine ⟨_, rfl, _, _, rfl, rfl, (by show (0 : Int) < m; omega), ?_⟩
      refine ⟨_, rfl, p, _, 0, .int A0, rfl, rfl, SqL.of hp, rfl, ?_⟩
      refine ⟨_, rfl, _, _, rfl, rfl, ⟨by omega, hm2⟩, ?_⟩
      refine ⟨_, rfl, p, _, 0, 0, rfl, rfl, hp, rfl, ?_⟩
      refine ⟨_, rfl, ?_⟩
      refine k _ _ (Int.emod_nonneg _ (by omega)) (Int.emod_lt_of_pos _ (by omega)) But.upd ⟨A0 / m, B, c, i, upd_same, hB, Int.ediv_nonneg hA (by omega), hc, by omega⟩
    · -- found = 0; for piece in range(..)
      have hb : (0 : Int) ≤ 1 + (Builtin.Int.intBits m : Int) / 28 := by omega
      have hM : ((mixes m : Nat) : Int) = 1 + (Builtin.Int.intBits m : Int) / 28 := by
        unfold mixes
        exact Int.toNat_of_nonneg hb
      refine ⟨_, rfl, _, rfl, _, _, rfl, rfl, ⟨by decide, by decide⟩, _, _, rfl, rfl, ?_⟩
      refine ⟨1 + (Builtin.Int.intBits m : Int) / 28, rfl, by omega, by omega, ?_⟩
      refine for_range (lo := 0) (n := (1 + (Builtin.Int.intBits m : Int) / 28).toNat) (fun j σ H2 => ∃ (g : Int) (v2 v4 : Option V), σ = [some (.ref p), some (.int m), v2, some (.int g), v4] ∧ But p H H2 ∧
          ∃ c' : Int, H2 p = some (.lst [.int A0, .int B, .int c', .int i]) ∧ 0 ≤ c' ∧ c' ≤ (N : Int) + (j : Int))
        ⟨0, none, none, rfl, But.refl _ _, c, hp, hc, by omega⟩ ?_ ?_
      · rintro j σ H2 hj ⟨g, v2, v4, rfl, kb, c', hp2, h0, h1⟩
        have hj2 : (j : Int) < 2 ^ 50 := by
          have : j < mixes m := hj
          omega
        refine ⟨_, rfl, p, _, 2, .int c', rfl, rfl, SqL.of hp2, rfl, ?_⟩
        refine ⟨_, _, rfl, rfl, ?_⟩
        refine ⟨_, rfl, p, _, 2, 2, rfl, rfl, hp2, rfl, ?_⟩
        have hp3 : (L2.upd H2 p (.lst (List.set [V.int A0, .int B, .int c', .int i] 2 (.int (c' + 1))))) p = some (.lst [.int A0, .int B, .int (c' + 1), .int i]) := upd_same
        refine ⟨_, rfl, _, _, rfl, rfl, Or.inr ⟨by decide, by decide⟩, ?_⟩
        refine ⟨_, rfl, p, _, 1, .int B, rfl, rfl, SqL.of hp3, rfl, ?_⟩
        refine ⟨_, rfl, p, _, 2, .int (c' + 1), rfl, rfl, SqL.of hp3, rfl, ?_⟩
        refine ⟨_, rfl, p, _, 3, .int i, rfl, rfl, SqL.of hp3, rfl, ?_⟩
        refine ⟨B, c' + 1, i, rfl, ⟨by omega, by omega⟩, fun r hr0 hr1 => ?_⟩
        refine ⟨_, _, rfl, rfl, ?_⟩
        exact ⟨_, v2, _, rfl, But.trans kb But.upd, c' + 1, hp3, by omega, by omega⟩
      · rintro σ H2 ⟨g, v2, v4, rfl, kb, c', hp2, h0, h1⟩
        refine ⟨_, rfl, Or.inl ⟨_, rfl, ?_⟩⟩
        refine ⟨_, rfl, _, _, rfl, rfl, (by show (0 : Int) < m; omega), ?_⟩
        refine k _ _ (Int.emod_nonneg _ (by omega)) (Int.emod_lt_of_pos _ (by omega)) kb ⟨A0, B, c', i, hp2, hB, hA, h0, ?_⟩
        have : ((N + mixes m : Nat) : Int) = (N : Int) + (mixes m : Int) := by omega
        rw [this]
        exact h1
end
abbrev s_purse := sPurse
abbrev s_mixed := sMixed
abbrev s_draw := sDraw
end K36
set_option Elab.async false
set_option linter.all false
set_option maxRecDepth 100000
set_option maxHeartbeats 4000000
/-! Lives and the roots put into them: the mathematics alone. -/
namespace K36
inductive Ev
  | line | root | stand (n : Nat)
deriving DecidableEq
/-- lines written, the line that stands, lines given up -/
structure S3 where
  w : Nat
  s : Nat
  g : Nat
def step (x : S3) : Ev → S3
  | .line => ⟨x.w + 1, x.s, x.g⟩
  | .root => ⟨x.w, x.s, x.s⟩
  | .stand n => ⟨x.w, n, x.g⟩
def stAt (es : List Ev) (i : Nat) : S3 := (es.take i).foldl step ⟨0, 0, 0⟩
theorem stAt_zero (es : List Ev) : stAt es 0 = ⟨0, 0, 0⟩ := by simp [stAt]
theorem stAt_succ {es : List Ev} {i : Nat} {e : Ev} (h : es[i]? = some e) : stAt es (i + 1) = step (stAt es i) e := by
  unfold stAt
  rw [List.take_succ, h, List.foldl_append]
  rfl
theorem stAt_app {es fs : List Ev} {i : Nat} (h : i ≤ es.length) : stAt (es ++ fs) i = stAt es i := by
  unfold stAt
  rw [List.take_append_of_le_length h]
theorem stAt_take {es : List Ev} {m i : Nat} (h : i ≤ m) : stAt (es.take m) i = stAt es i := by
  unfold stAt
  rw [List.take_take, Nat.min_eq_left h]
structure Valid (es : List Ev) : Prop where
  len : es.length ≤ 200
  ok : ∀ (i n : Nat), es[i]? = some (.stand n) → (stAt es i).s ≤ n ∧ n ≤ (stAt es i).w
theorem Valid.nil : Valid [] := ⟨by decide, fun i n h => by simp at h⟩
theorem Valid.take {es : List Ev} (h : Valid es) (m : Nat) : Valid (es.take m) := by
  refine ⟨?_, fun i n e => ?_⟩
  · have := h.len
    rw [List.length_take]
    omega
  · have hi : i < m := by
      rcases Nat.lt_or_ge i m with q | q
      · exact q
      · rw [List.getElem?_take] at e
        rw [if_neg (by omega)] at e
        cases e
    rw [List.getElem?_take, if_pos hi] at e
    rw [stAt_take (Nat.le_of_lt hi)]
    exact h.ok i n e
theorem Valid.snoc {es : List Ev} {e : Ev} (h : Valid es) (l : es.length < 200) (k : ∀ n, e = .stand n → (stAt es es.length).s ≤ n ∧ n ≤ (stAt es es.length).w) : Valid (es ++ [e]) := by
  refine ⟨by rw [List.length_append, List.length_singleton]; omega, fun i n q => ?_⟩
  by_cases hi : i < es.length
  · rw [List.getElem?_append_left hi] at q
    rw [stAt_app (Nat.le_of_lt hi)]
    exact h.ok i n q
  · rw [List.getElem?_append_right (by omega)] at q
    cases hj : i - es.length with
    | zero =>
      rw [hj] at q
      have ei : i = es.length := by omega
      rw [ei, stAt_app (Nat.le_refl _)]
      exact k n (Option.some.inj q)
    | succ j =>
      rw [hj] at q
      simp at q
theorem stAt_snoc (es : List Ev) (e : Ev) : stAt (es ++ [e]) (es ++ [e]).length = step (stAt es es.length) e := by
  rw [List.length_append, List.length_singleton, stAt_succ (e := e) (by rw [List.getElem?_append_right (Nat.le_refl _), Nat.sub_self]; rfl), stAt_app (Nat.le_refl _)]
/-- in a right life: what is given up stands, what stands was written -/
theorem Valid.ord {es : List Ev} (h : Valid es) : ∀ i, i ≤ es.length → (stAt es i).g ≤ (stAt es i).s ∧ (stAt es i).s ≤ (stAt es i).w ∧ (stAt es i).w ≤ i
  | 0, _ => by
    rw [stAt_zero]
    exact ⟨Nat.le_refl _, Nat.le_refl _, Nat.le_refl _⟩
  | i + 1, hi => by
    obtain ⟨a, b, c⟩ := h.ord i (by omega)
    have e := List.getElem?_eq_getElem (show i < es.length by omega)
    rw [stAt_succ e]
    cases q : es[i] with
    | line =>
      show (stAt es i).g ≤ (stAt es i).s ∧ (stAt es i).s ≤ (stAt es i).w + 1 ∧ (stAt es i).w + 1 ≤ i + 1
      omega
    | root =>
      show (stAt es i).s ≤ (stAt es i).s ∧ (stAt es i).s ≤ (stAt es i).w ∧ (stAt es i).w ≤ i + 1
      omega
    | stand n =>
      rw [q] at e
      have := h.ok i n e
      show (stAt es i).g ≤ n ∧ n ≤ (stAt es i).w ∧ (stAt es i).w ≤ i + 1
      omega
def isL (es : List Ev) (i : Nat) : Bool := match es[i]? with
  | some .line => true
  | _ => false
/-- the places of the lines -/
def lp (es : List Ev) : List Nat := (List.range es.length).filter (isL es)
/-- a line that may not be written there -/
def bad (es : List Ev) (p i : Nat) : Bool := isL es i && decide ((stAt es i).w + 1 > p + (stAt es i).g)
def full (es : List Ev) (p : Nat) : Option Nat := (List.range es.length).find? (bad es p)
/-- the lines ahead of a place -/
theorem lp_pre (es : List Ev) : ∀ i, i ≤ es.length → ((List.range i).filter (isL es)).length = (stAt es i).w
  | 0, _ => by rw [stAt_zero]; rfl
  | i + 1, hi => by
    have e := List.getElem?_eq_getElem (show i < es.length by omega)
    rw [List.range_succ, List.filter_append, List.length_append, lp_pre es i (by omega), stAt_succ e]
    cases q : es[i] with
    | line =>
      have : isL es i = true := by unfold isL; rw [e, q]
      rw [List.filter_cons, this]
      rfl
    | root =>
      have : isL es i = false := by unfold isL; rw [e, q]
      rw [List.filter_cons, this]
      rfl
    | stand n =>
      have : isL es i = false := by unfold isL; rw [e, q]
      rw [List.filter_cons, this]
      rfl
/-- the k-th line has k lines ahead -/
theorem lp_at {es : List Ev} {k i : Nat} (h : (lp es)[k]? = some i) : i < es.length ∧ isL es i = true ∧ (stAt es i).w = k := by
  have hm := List.mem_of_getElem? h
  unfold lp at hm
  rw [List.mem_filter, List.mem_range] at hm
  refine ⟨hm.1, hm.2, ?_⟩
  have sp : lp es = (List.range i).filter (isL es) ++ (i :: ((List.range es.length).drop (i + 1)).filter (isL es)) := by
    unfold lp
    have e1 : List.range es.length = List.range i ++ (i :: (List.range es.length).drop (i + 1)) := by
      conv => lhs; rw [← List.take_append_drop i (List.range es.length)]
      congr 1
      · rw [List.take_range, Nat.min_eq_left (by omega)]
      · rw [List.drop_eq_getElem_cons (by rw [List.length_range]; exact hm.1), List.getElem_range]
    conv => lhs; rw [e1]
    rw [List.filter_append, List.filter_cons, if_pos hm.2]
  have nd : (lp es).Pairwise (· < ·) := List.Pairwise.filter _ List.pairwise_lt_range
  have hl := lp_pre es i (by omega)
  have h2 : (lp es)[(stAt es i).w]? = some i := by
    rw [sp, List.getElem?_append_right (by rw [hl]; exact Nat.le_refl _), hl, Nat.sub_self]
    rfl
  obtain ⟨hk, ek⟩ := List.getElem?_eq_some_iff.mp h
  obtain ⟨hj, ej⟩ := List.getElem?_eq_some_iff.mp h2
  rw [List.pairwise_iff_getElem] at nd
  rcases Nat.lt_trichotomy (stAt es i).w k with q | q | q
  · have := nd _ _ hj hk q
    rw [ej, ek] at this
    omega
  · exact q
  · have := nd _ _ hk hj q
    rw [ej, ek] at this
    omega
theorem fm_congr {α β : Type} {f g : α → Option β} : ∀ {l : List α}, (∀ x ∈ l, f x = g x) → l.filterMap f = l.filterMap g
  | [], _ => rfl
  | a :: l, h => by
    rw [List.filterMap_cons, List.filterMap_cons, h a (List.mem_cons_self ..), fm_congr fun x hx => h x (List.mem_cons_of_mem _ hx)]
/-- what is wanted: (number, place) of the lines that may not be written -/
def wl (es : List Ev) (p : Nat) : List (Nat × Nat) := (List.range (lp es).length).filterMap fun k => if k + 1 > p + (stAt es ((lp es).getD k 0)).g then some (k + 1, (lp es).getD k 0) else none
theorem wl_full (es : List Ev) (p : Nat) : (wl es p).head?.map Prod.snd = full es p := by
  have e : (wl es p).map Prod.snd = (List.range es.length).filter (bad es p) := by
    have e1 : (List.range es.length).filter (bad es p) = (lp es).filter fun i => decide ((stAt es i).w + 1 > p + (stAt es i).g) := by
      unfold lp
      rw [List.filter_filter]
      refine List.filter_congr fun i _ => ?_
      unfold bad
      rw [Bool.and_comm]
    rw [e1]
    unfold wl
    rw [List.map_filterMap]
    have e2 : lp es = (List.range (lp es).length).map fun k => (lp es).getD k 0 := by
      refine List.ext_getElem? fun k => ?_
      rw [List.getElem?_map]
      by_cases hk : k < (lp es).length
      · rw [List.getElem?_range hk, List.getElem?_eq_getElem hk]
        show _ = some ((lp es).getD k 0)
        rw [List.getD_eq_getElem?_getD, List.getElem?_eq_getElem hk]
        rfl
      · rw [List.getElem?_eq_none (by omega), List.getElem?_eq_none (by rw [List.length_range]; omega)]
        rfl
    conv => rhs; rw [e2]
    rw [List.filter_map, ← List.filterMap_eq_filter, List.map_filterMap]
    refine fm_congr fun k hk => ?_
    rw [List.mem_range] at hk
    have hk' : (lp es)[k]? = some ((lp es).getD k 0) := by
      rw [List.getD_eq_getElem?_getD, List.getElem?_eq_getElem hk]
      rfl
    obtain ⟨_, _, ew⟩ := lp_at hk'
    show Option.map Prod.snd (if k + 1 > p + (stAt es ((lp es).getD k 0)).g then some (k + 1, (lp es).getD k 0) else none) = Option.map _ (Option.guard _ k)
    unfold Option.guard
    show _ = Option.map (fun k => (lp es).getD k 0) (if decide ((stAt es ((lp es).getD k 0)).w + 1 > p + (stAt es ((lp es).getD k 0)).g) = true then some k else none)
    rw [ew]
    by_cases q : k + 1 > p + (stAt es ((lp es).getD k 0)).g
    · rw [if_pos q, if_pos (decide_eq_true q)]
      rfl
    · rw [if_neg q, if_neg (by rw [decide_eq_false q]; exact Bool.false_ne_true)]
      rfl
  unfold full
  rw [← List.head?_filter, ← e, List.head?_map]


/-- each line may be written -/
def Fits (p : Nat) (xs : List Ev) : Prop := ∀ i, i < xs.length → isL xs i = true → (stAt xs i).w + 1 ≤ p + (stAt xs i).g
theorem full_iff (es : List Ev) (p : Nat) : (full es p).isNone = true ↔ Fits p es := by
  unfold full
  rw [Option.isNone_iff_eq_none, List.find?_eq_none]
  constructor
  · intro h i hi hl
    have := h i (List.mem_range.mpr hi)
    unfold bad at this
    rw [hl, Bool.true_and, decide_eq_true_eq] at this
    omega
  · intro h i hi
    unfold bad
    intro z
    obtain ⟨z1, z2⟩ := Bool.and_eq_true_iff.mp z
    have := h i (List.mem_range.mp hi) z1
    have := of_decide_eq_true z2
    omega
theorem isL_app {xs : List Ev} {i : Nat} (e : Ev) (h : i < xs.length) : isL (xs ++ [e]) i = isL xs i := by
  unfold isL
  rw [List.getElem?_append_left h]
theorem isL_last (xs : List Ev) (e : Ev) : isL (xs ++ [e]) xs.length = decide (e = .line) := by
  unfold isL
  rw [List.getElem?_append_right (Nat.le_refl _), Nat.sub_self]
  cases e <;> rfl
theorem isL_at {es : List Ev} {i : Nat} {e : Ev} (h : es[i]? = some e) : isL es i = decide (e = .line) := by
  unfold isL
  rw [h]
  cases e <;> rfl
theorem Fits.snoc {p : Nat} {xs : List Ev} {e : Ev} : Fits p (xs ++ [e]) ↔ Fits p xs ∧ (e = .line → (stAt xs xs.length).w + 1 ≤ p + (stAt xs xs.length).g) := by
  constructor
  · intro h
    refine ⟨fun i hi hl => ?_, fun he => ?_⟩
    · have := h i (by rw [List.length_append]; omega) (by rw [isL_app e hi]; exact hl)
      rw [stAt_app (Nat.le_of_lt hi)] at this
      exact this
    · have := h xs.length (by rw [List.length_append, List.length_singleton]; omega) (by rw [isL_last, he]; rfl)
      rw [stAt_app (Nat.le_refl _)] at this
      exact this
  · rintro ⟨h1, h2⟩ i hi hl
    rw [List.length_append, List.length_singleton] at hi
    by_cases c : i < xs.length
    · rw [isL_app e c] at hl
      rw [stAt_app (Nat.le_of_lt c)]
      exact h1 i c hl
    · have : i = xs.length := by omega
      subst this
      rw [isL_last] at hl
      rw [stAt_app (Nat.le_refl _)]
      exact h2 (of_decide_eq_true hl)
/-- the first k events with a root ahead of each event of P -/
def wr (es : List Ev) (P : List Nat) : Nat → List Ev
  | 0 => []
  | k + 1 => wr es P k ++ (if P.contains k then [.root] else []) ++ (match es[k]? with | some e => [e] | none => [])
def stE (xs : List Ev) : S3 := stAt xs xs.length
theorem stE_snoc (xs : List Ev) (e : Ev) : stE (xs ++ [e]) = step (stE xs) e := stAt_snoc xs e
def helps (es : List Ev) (P : List Nat) (c k : Nat) : Prop := ∃ j, j ∈ P ∧ j < k ∧ c ≤ (stAt es j).s
theorem s_mono {es : List Ev} (h : Valid es) : ∀ i j, i ≤ j → j ≤ es.length → (stAt es i).s ≤ (stAt es j).s
  | i, 0, a, _ => by
    rw [show i = 0 by omega]
    exact Nat.le_refl _
  | i, j + 1, a, b => by
    rcases Nat.lt_or_ge i (j + 1) with q | q
    · refine Nat.le_trans (s_mono h i j (by omega) (by omega)) ?_
      have e := List.getElem?_eq_getElem (show j < es.length by omega)
      rw [stAt_succ e]
      cases c : es[j] with
      | line => exact Nat.le_refl _
      | root => exact Nat.le_refl _
      | stand n =>
        rw [c] at e
        exact (h.ok j n e).1
    · rw [show i = j + 1 by omega]
      exact Nat.le_refl _
theorem wr_st {es : List Ev} (h : Valid es) (P : List Nat) : ∀ k, k ≤ es.length → (stE (wr es P k)).w = (stAt es k).w ∧ (stE (wr es P k)).s = (stAt es k).s ∧ ∀ c, c ≤ (stE (wr es P k)).g ↔ (c ≤ (stAt es k).g ∨ helps es P c k)
  | 0, _ => ⟨by rw [stAt_zero]; rfl, by rw [stAt_zero]; rfl, fun c => by
      rw [stAt_zero]
      refine ⟨fun h => .inl h, fun h => ?_⟩
      rcases h with h | ⟨j, _, h, _⟩
      · exact h
      · omega⟩
  | k + 1, hk => by
    obtain ⟨i1, i2, i3⟩ := wr_st h P k (by omega)
    have e := List.getElem?_eq_getElem (show k < es.length by omega)
    have od := h.ord k (by omega)
    have wk : wr es P (k + 1) = wr es P k ++ (if P.contains k then [.root] else []) ++ [es[k]] := by
      show _ ++ (match es[k]? with | some e => [e] | none => []) = _
      rw [e]
    -- behind the root that is put in
    have mid : (stE (wr es P k ++ (if P.contains k then [.root] else []))).w = (stAt es k).w ∧ (stE (wr es P k ++ (if P.contains k then [.root] else []))).s = (stAt es k).s ∧ ∀ c, c ≤ (stE (wr es P k ++ (if P.contains k then [.root] else []))).g ↔ (c ≤ (stAt es k).g ∨ helps es P c (k + 1)) := by
      cases cP : P.contains k with
      | false =>
        rw [if_neg Bool.false_ne_true, List.append_nil]
        refine ⟨i1, i2, fun c => ?_⟩
        rw [i3 c]
        refine or_congr Iff.rfl ⟨fun ⟨j, a, b, d⟩ => ⟨j, a, by omega, d⟩, fun ⟨j, a, b, d⟩ => ⟨j, a, ?_, d⟩⟩
        have : j ≠ k := fun z => by
          rw [z] at a
          have := List.contains_iff_mem.mpr a
          rw [cP] at this
          cases this
        omega
      | true =>
        rw [if_pos rfl, stE_snoc]
        refine ⟨i1, i2, fun c => ?_⟩
        show c ≤ (stE (wr es P k)).s ↔ _
        rw [i2]
        constructor
        · intro z
          exact .inr ⟨k, List.contains_iff_mem.mp cP, by omega, z⟩
        · rintro (z | ⟨j, _, b, d⟩)
          · omega
          · exact Nat.le_trans d (s_mono h j k (by omega) (by omega))
    obtain ⟨m1, m2, m3⟩ := mid
    rw [wk, stE_snoc, stAt_succ e]
    cases q : es[k] with
    | line => exact ⟨congrArg (· + 1) m1, m2, m3⟩
    | stand n => exact ⟨m1, rfl, m3⟩
    | root =>
      refine ⟨m1, m2, fun c => ?_⟩
      show c ≤ (stE _).s ↔ (c ≤ (stAt es k).s ∨ _)
      rw [m2]
      refine ⟨fun z => .inl z, ?_⟩
      rintro (z | ⟨j, _, b, d⟩)
      · exact z
      · exact Nat.le_trans d (s_mono h j k (by omega) (by omega))
/-- so it fits with roots at P -/
def FitP (es : List Ev) (p : Nat) (P : List Nat) : Prop := ∀ i, i < es.length → isL es i = true → (stAt es i).w + 1 ≤ p + (stAt es i).g ∨ ∃ j, j ∈ P ∧ j ≤ i ∧ (stAt es i).w + 1 ≤ p + (stAt es j).s
theorem wr_mid {es : List Ev} (h : Valid es) (P : List Nat) {k : Nat} (hk : k < es.length) : (stE (wr es P k ++ (if P.contains k then [.root] else []))).w = (stAt es k).w ∧ ∀ c, c ≤ (stE (wr es P k ++ (if P.contains k then [.root] else []))).g ↔ (c ≤ (stAt es k).g ∨ helps es P c (k + 1)) := by
  obtain ⟨i1, i2, i3⟩ := wr_st h P k (by omega)
  have od := h.ord k (by omega)
  cases cP : P.contains k with
  | false =>
    rw [if_neg Bool.false_ne_true, List.append_nil]
    refine ⟨i1, fun c => ?_⟩
    rw [i3 c]
    refine or_congr Iff.rfl ⟨fun ⟨j, a, b, d⟩ => ⟨j, a, by omega, d⟩, fun ⟨j, a, b, d⟩ => ⟨j, a, ?_, d⟩⟩
    have : j ≠ k := fun z => by
      rw [z] at a
      have := List.contains_iff_mem.mpr a
      rw [cP] at this
      cases this
    omega
  | true =>
    rw [if_pos rfl, stE_snoc]
    refine ⟨i1, fun c => ?_⟩
    show c ≤ (stE (wr es P k)).s ↔ _
    rw [i2]
    constructor
    · intro z
      exact .inr ⟨k, List.contains_iff_mem.mp cP, by omega, z⟩
    · rintro (z | ⟨j, _, b, d⟩)
      · omega
      · exact Nat.le_trans d (s_mono h j k (by omega) (by omega))
theorem wr_fits {es : List Ev} (h : Valid es) (p : Nat) (P : List Nat) : ∀ k, k ≤ es.length → (Fits p (wr es P k) ↔ ∀ i, i < k → isL es i = true → (stAt es i).w + 1 ≤ p + (stAt es i).g ∨ ∃ j, j ∈ P ∧ j ≤ i ∧ (stAt es i).w + 1 ≤ p + (stAt es j).s)
  | 0, _ => ⟨fun _ i hi => by omega, fun _ i hi => by cases hi⟩
  | k + 1, hk => by
    have ih := wr_fits h p P k (by omega)
    have e := List.getElem?_eq_getElem (show k < es.length by omega)
    obtain ⟨m1, m3⟩ := wr_mid h P (show k < es.length by omega)
    have wk : wr es P (k + 1) = wr es P k ++ (if P.contains k then [.root] else []) ++ [es[k]] := by
      show _ ++ (match es[k]? with | some e => [e] | none => []) = _
      rw [e]
    have mid : Fits p (wr es P k ++ (if P.contains k then [.root] else [])) ↔ Fits p (wr es P k) := by
      cases P.contains k with
      | false => rw [if_neg Bool.false_ne_true, List.append_nil]
      | true =>
        rw [if_pos rfl, Fits.snoc]
        exact ⟨fun x => x.1, fun x => ⟨x, fun z => nomatch z⟩⟩
    rw [wk, Fits.snoc, mid, ih]
    have key : (es[k] = .line → (stE (wr es P k ++ (if P.contains k then [.root] else []))).w + 1 ≤ p + (stE (wr es P k ++ (if P.contains k then [.root] else []))).g) ↔ (isL es k = true → (stAt es k).w + 1 ≤ p + (stAt es k).g ∨ ∃ j, j ∈ P ∧ j ≤ k ∧ (stAt es k).w + 1 ≤ p + (stAt es j).s) := by
      rw [isL_at e, decide_eq_true_eq, m1]
      refine imp_congr Iff.rfl ?_
      have m := m3 ((stAt es k).w + 1 - p)
      constructor
      · intro z
        rcases m.mp (by omega) with y | ⟨j, a, b, d⟩
        · exact .inl (by omega)
        · exact .inr ⟨j, a, by omega, by omega⟩
      · intro z
        have := m.mpr (by
          rcases z with y | ⟨j, a, b, d⟩
          · exact .inl (by omega)
          · exact .inr ⟨j, a, by omega, by omega⟩)
        omega
    constructor
    · rintro ⟨h1, h2⟩ i hi hl
      rcases Nat.lt_or_ge i k with q | q
      · exact h1 i q hl
      · rw [show i = k by omega] at hl ⊢
        exact key.mp h2 hl
    · intro x
      exact ⟨fun i hi hl => x i (by omega) hl, key.mpr (x k (by omega))⟩
theorem full_wr {es : List Ev} (h : Valid es) (p : Nat) (P : List Nat) : (full (wr es P es.length) p).isNone = true ↔ FitP es p P := by
  rw [full_iff]
  exact wr_fits h p P _ (Nat.le_refl _)
/-- a stand at a that gives up enough for the line n -/
def stGe (es : List Ev) (p n a : Nat) : Bool := match es[a]? with
  | some (.stand m) => decide (n ≤ m + p)
  | _ => false
def early (es : List Ev) (p n i : Nat) : List Nat := (List.range i).filter (stGe es p n)
theorem s_ge {es : List Ev} (h : Valid es) {p n : Nat} (hn : p < n) : ∀ j, j ≤ es.length → (n ≤ p + (stAt es j).s ↔ ∃ a, a < j ∧ stGe es p n a = true)
  | 0, _ => by
    rw [stAt_zero]
    constructor
    · intro z
      exact absurd z (by show ¬ n ≤ p + 0; omega)
    · rintro ⟨a, b, _⟩
      omega
  | j + 1, hj => by
    have ih := s_ge h hn j (by omega)
    have e := List.getElem?_eq_getElem (show j < es.length by omega)
    rw [stAt_succ e]
    have nx : stGe es p n j = false → ((∃ a, a < j ∧ stGe es p n a = true) ↔ ∃ a, a < j + 1 ∧ stGe es p n a = true) := by
      intro z
      refine ⟨fun ⟨a, b, c⟩ => ⟨a, by omega, c⟩, fun ⟨a, b, c⟩ => ⟨a, ?_, c⟩⟩
      have : a ≠ j := fun y => by
        rw [y, z] at c
        cases c
      omega
    cases q : es[j] with
    | line => exact ih.trans (nx (by unfold stGe; rw [e, q]))
    | root => exact ih.trans (nx (by unfold stGe; rw [e, q]))
    | stand m =>
      have hm : stGe es p n j = decide (n ≤ m + p) := by unfold stGe; rw [e, q]
      show n ≤ p + m ↔ _
      constructor
      · intro z
        exact ⟨j, by omega, by rw [hm, decide_eq_true_eq]; omega⟩
      · rintro ⟨a, b, c⟩
        rcases Nat.lt_or_ge a j with y | y
        · have := ih.mpr ⟨a, y, c⟩
          rw [q] at e
          have := (h.ok j m e).1
          omega
        · rw [show a = j by omega, hm, decide_eq_true_eq] at c
          omega
/-- what is wanted, by the lines -/
theorem wl_mem {es : List Ev} {p n i : Nat} : (n, i) ∈ wl es p ↔ i < es.length ∧ isL es i = true ∧ (stAt es i).w + 1 = n ∧ p + (stAt es i).g < n := by
  unfold wl
  rw [List.mem_filterMap]
  constructor
  · rintro ⟨k, hk, h⟩
    rw [List.mem_range] at hk
    have hk' : (lp es)[k]? = some ((lp es).getD k 0) := by
      rw [List.getD_eq_getElem?_getD, List.getElem?_eq_getElem hk]
      rfl
    obtain ⟨a1, a2, a3⟩ := lp_at hk'
    split at h
    · rename_i c
      have := Option.some.inj h
      have e1 := congrArg Prod.fst this
      have e2 := congrArg Prod.snd this
      dsimp only at e1 e2
      rw [e2] at a1 a2 a3 c
      exact ⟨a1, a2, by omega, by omega⟩
    · cases h
  · rintro ⟨a1, a2, a3, a4⟩
    have hm : i ∈ lp es := by
      unfold lp
      rw [List.mem_filter, List.mem_range]
      exact ⟨a1, a2⟩
    obtain ⟨k, hk⟩ := List.mem_iff_getElem?.mp hm
    obtain ⟨hl, ek⟩ := List.getElem?_eq_some_iff.mp hk
    have hw := (lp_at hk).2.2
    have ed : (lp es).getD k 0 = i := by
      rw [List.getD_eq_getElem?_getD, hk]
      rfl
    refine ⟨k, List.mem_range.mpr hl, ?_⟩
    rw [ed, if_pos (by omega)]
    rw [show k + 1 = n by omega]
theorem lp_pw (es : List Ev) : (lp es).Pairwise (· < ·) := List.Pairwise.filter _ List.pairwise_lt_range
theorem pw_fm {α β : Type} {R : α → α → Prop} {S : β → β → Prop} {f : α → Option β} (k : ∀ a b x y, R a b → f a = some x → f b = some y → S x y) : ∀ {l : List α}, l.Pairwise R → (l.filterMap f).Pairwise S
  | [], _ => .nil
  | a :: l, h => by
    rw [List.pairwise_cons] at h
    rw [List.filterMap_cons]
    cases q : f a with
    | none => exact pw_fm k h.2
    | some x =>
      refine .cons (fun y hy => ?_) (pw_fm k h.2)
      rw [List.mem_filterMap] at hy
      obtain ⟨b, hb, eb⟩ := hy
      exact k _ _ _ _ (h.1 b hb) q eb
theorem wl_pw (es : List Ev) (p : Nat) : (wl es p).Pairwise fun a b => a.1 < b.1 ∧ a.2 < b.2 := by
  unfold wl
  have hp := List.pairwise_iff_getElem.mp (lp_pw es)
  have hr : (List.range (lp es).length).Pairwise fun a b => a < b ∧ b < (lp es).length := by
    rw [List.pairwise_iff_getElem]
    intro i j hi hj hij
    rw [List.length_range] at hi hj
    rw [List.getElem_range, List.getElem_range]
    exact ⟨hij, hj⟩
  refine pw_fm (fun a b x y hab ha hb => ?_) hr
  split at ha
  · split at hb
    · have e1 := Option.some.inj ha
      have e2 := Option.some.inj hb
      rw [← e1, ← e2]
      refine ⟨by show a + 1 < b + 1; omega, ?_⟩
      show (lp es).getD a 0 < (lp es).getD b 0
      rw [List.getD_eq_getElem?_getD, List.getD_eq_getElem?_getD, List.getElem?_eq_getElem (show a < (lp es).length by omega), List.getElem?_eq_getElem hab.2]
      exact hp a b (by omega) hab.2 hab.1
    · cases hb
  · cases ha
structure Span where
  n : Nat
  f : Nat
  l : Nat
deriving DecidableEq
/-- the stretch of a line that is wanted -/
def spanOf (es : List Ev) (p : Nat) (x : Nat × Nat) : Option Span := (early es p x.1 x.2).head?.map fun a => ⟨x.1, a + 1, x.2⟩
def spansOf (es : List Ev) (p : Nat) : Option (List Span) := if (wl es p).all fun x => (spanOf es p x).isSome then some ((wl es p).filterMap (spanOf es p)) else none
def greedy : Nat → List Span → List Span
  | _, [] => []
  | e, s :: L => if e < s.f then s :: greedy s.l L else greedy e L
structure SpanOk (es : List Ev) (p : Nat) (s : Span) : Prop where
  li : s.l < es.length
  ln : isL es s.l = true
  nu : (stAt es s.l).w + 1 = s.n
  wt : p + (stAt es s.l).g < s.n
  f1 : 1 ≤ s.f
  fl : s.f ≤ s.l
  st : stGe es p s.n (s.f - 1) = true
  mn : ∀ a, a < s.f - 1 → stGe es p s.n a = false
theorem head_filter {q : Nat → Bool} {i a : Nat} : ((List.range i).filter q).head? = some a ↔ a < i ∧ q a = true ∧ ∀ b, b < a → q b = false := by
  rw [List.head?_filter, List.find?_range_eq_some]
  constructor
  · rintro ⟨h1, h2, h3⟩
    exact ⟨List.mem_range.mp h2, h1, fun b hb => by
      have := h3 b hb
      cases c : q b
      · rfl
      · rw [c] at this
        cases this⟩
  · rintro ⟨h1, h2, h3⟩
    exact ⟨h2, List.mem_range.mpr h1, fun b hb => by rw [h3 b hb]; rfl⟩
theorem span_ok {es : List Ev} {p : Nat} {x : Nat × Nat} {s : Span} (hx : x ∈ wl es p) (h : spanOf es p x = some s) : SpanOk es p s ∧ s.n = x.1 ∧ s.l = x.2 := by
  unfold spanOf at h
  obtain ⟨a, ha, rfl⟩ := Option.map_eq_some_iff.mp h
  obtain ⟨a1, a2, a3⟩ := head_filter.mp ha
  obtain ⟨n, i⟩ := x
  obtain ⟨w1, w2, w3, w4⟩ := wl_mem.mp hx
  exact ⟨⟨w1, w2, w3, w4, by show 1 ≤ a + 1; omega, by show a + 1 ≤ i; exact a1, a2, fun b hb => a3 b hb⟩, rfl, rfl⟩
theorem spans_mem {es : List Ev} {p : Nat} {L : List Span} (h : spansOf es p = some L) : (∀ s ∈ L, SpanOk es p s) ∧ (∀ n i, (n, i) ∈ wl es p → ∃ s ∈ L, s.n = n ∧ s.l = i) ∧ L.Pairwise fun a b => a.n < b.n ∧ a.l < b.l := by
  unfold spansOf at h
  split at h
  · rename_i c
    have e := Option.some.inj h
    rw [← e]
    refine ⟨fun s hs => ?_, fun n i hx => ?_, ?_⟩
    · obtain ⟨x, hx, ex⟩ := List.mem_filterMap.mp hs
      exact (span_ok hx ex).1
    · have := List.all_eq_true.mp c _ hx
      obtain ⟨s, es'⟩ := Option.isSome_iff_exists.mp this
      obtain ⟨_, q1, q2⟩ := span_ok hx es'
      exact ⟨s, List.mem_filterMap.mpr ⟨_, hx, es'⟩, q1, q2⟩
    · have hw := wl_pw es p
      have hw2 : (wl es p).Pairwise fun a b => (a ∈ wl es p ∧ b ∈ wl es p) ∧ (a.1 < b.1 ∧ a.2 < b.2) := by
        rw [List.pairwise_iff_forall_sublist] at hw ⊢
        intro a b hab
        exact ⟨⟨hab.subset (List.mem_cons_self ..), hab.subset (List.mem_cons_of_mem _ (List.mem_cons_self ..))⟩, hw hab⟩
      refine pw_fm (fun a b x y hab ha hb => ?_) hw2
      obtain ⟨_, q1, q2⟩ := span_ok hab.1.1 ha
      obtain ⟨_, q3, q4⟩ := span_ok hab.1.2 hb
      omega
  · cases h
theorem greedy_sub : ∀ (L : List Span) (e : Nat), (greedy e L).Sublist L
  | [], e => List.Sublist.slnil
  | s :: L, e => by
    unfold greedy
    split
    · exact (greedy_sub L _).cons₂ s
    · exact (greedy_sub L _).cons s
/-- each span holds the end of a chosen one -/
theorem greedy_stab : ∀ (L : List Span) (e : Nat), (L.Pairwise fun a b => a.n < b.n ∧ a.l < b.l) → (∀ s ∈ L, s.f ≤ s.l) → ∀ s ∈ L, s.f ≤ e ∨ ∃ c ∈ greedy e L, s.f ≤ c.l ∧ c.l ≤ s.l
  | [], e, _, _, s, hs => by cases hs
  | x :: L, e, hp, hf, s, hs => by
    rw [List.pairwise_cons] at hp
    unfold greedy
    by_cases c : e < x.f
    · rw [if_pos c]
      rcases List.mem_cons.mp hs with rfl | hs
      · exact .inr ⟨s, List.mem_cons_self .., hf s (List.mem_cons_self ..), Nat.le_refl _⟩
      · rcases greedy_stab L x.l hp.2 (fun s hs => hf s (List.mem_cons_of_mem _ hs)) s hs with q | ⟨d, h1, h2⟩
        · exact .inr ⟨x, List.mem_cons_self .., q, Nat.le_of_lt (hp.1 s hs).2⟩
        · exact .inr ⟨d, List.mem_cons_of_mem _ h1, h2⟩
    · rw [if_neg c]
      rcases List.mem_cons.mp hs with rfl | hs
      · exact .inl (by omega)
      · exact greedy_stab L e hp.2 (fun s hs => hf s (List.mem_cons_of_mem _ hs)) s hs
/-- one behind the other, apart -/
def Chain : Nat → List Span → Prop
  | _, [] => True
  | e, s :: L => e < s.f ∧ s.f ≤ s.l ∧ Chain s.l L
theorem greedy_chain : ∀ (L : List Span) (e : Nat), (∀ s ∈ L, s.f ≤ s.l) → Chain e (greedy e L)
  | [], _, _ => trivial
  | s :: L, e, hf => by
    unfold greedy
    split
    · rename_i c
      exact ⟨c, hf s (List.mem_cons_self ..), greedy_chain L _ fun s hs => hf s (List.mem_cons_of_mem _ hs)⟩
    · exact greedy_chain L _ fun s hs => hf s (List.mem_cons_of_mem _ hs)
theorem Chain.mem : ∀ {L : List Span} {e : Nat} {s : Span}, Chain e L → s ∈ L → e < s.f
  | [], _, _, _, hs => by cases hs
  | x :: L, e, s, h, hs => by
    rcases List.mem_cons.mp hs with rfl | hs
    · exact h.1
    · have := h.2.2.mem hs
      have := h.1
      have := h.2.1
      omega
/-- what stabs a chain -/
theorem stab_chain : ∀ {L : List Span} {e : Nat} {P : List Nat}, Chain e L → P.Pairwise (· < ·) → (∀ s ∈ L, ∃ j ∈ P, s.f ≤ j ∧ j ≤ s.l) → L.length ≤ P.length ∧ ∀ (k : Nat) (s : Span) (j : Nat), L[k]? = some s → P[k]? = some j → j ≤ s.l
  | [], _, P, _, _, _ => ⟨Nat.zero_le _, fun k s j h => by simp at h⟩
  | x :: L, e, [], _, _, h => by
    obtain ⟨j, hj, _⟩ := h x (List.mem_cons_self ..)
    cases hj
  | x :: L, e, a :: P, hc, hp, h => by
    rw [List.pairwise_cons] at hp
    have ha : a ≤ x.l := by
      obtain ⟨j, hj, h1, h2⟩ := h x (List.mem_cons_self ..)
      rcases List.mem_cons.mp hj with rfl | hj
      · exact h2
      · have := hp.1 j hj
        omega
    obtain ⟨i1, i2⟩ := stab_chain (L := L) (e := x.l) (P := P) hc.2.2 hp.2 fun s hs => by
      obtain ⟨j, hj, h1, h2⟩ := h s (List.mem_cons_of_mem _ hs)
      rcases List.mem_cons.mp hj with rfl | hj
      · have := hc.2.2.mem hs
        omega
      · exact ⟨j, hj, h1, h2⟩
    refine ⟨by simp only [List.length_cons]; omega, fun k s j h1 h2 => ?_⟩
    cases k with
    | zero =>
      cases h1
      cases h2
      exact ha
    | succ k => exact i2 k s j h1 h2
theorem chain_room {es : List Ev} {p : Nat} : ∀ {L : List Span} {e : Nat}, Chain e L → (∀ s ∈ L, SpanOk es p s) → isL es e = true → e < es.length → e + 1 + 2 * L.length ≤ es.length
  | [], e, _, _, _, h => by
    show e + 1 + 0 ≤ _
    omega
  | x :: L, e, hc, ho, hl, he => by
    have hx := ho x (List.mem_cons_self ..)
    have ih := chain_room hc.2.2 (fun s hs => ho s (List.mem_cons_of_mem _ hs)) hx.ln hx.li
    have ne : e ≠ x.f - 1 := fun z => by
      have h1 := hx.st
      rw [← z] at h1
      unfold stGe at h1
      unfold isL at hl
      split at h1
      · rename_i q
        rw [q] at hl
        cases hl
      · cases h1
    have := hc.1
    have := hc.2.1
    rw [List.length_cons]
    omega
def cs (es : List Ev) (p : Nat) : Option (List Span) := (spansOf es p).map (greedy 0)
theorem chain_four {es : List Ev} {p : Nat} {L : List Span} (h : cs es p = some L) : 2 * L.length ≤ es.length := by
  obtain ⟨sp, h1, rfl⟩ := Option.map_eq_some_iff.mp h
  obtain ⟨o, _, _⟩ := spans_mem h1
  have hc := greedy_chain sp 0 fun s hs => (o s hs).fl
  have ho : ∀ s ∈ greedy 0 sp, SpanOk es p s := fun s hs => o s ((greedy_sub sp 0).subset hs)
  cases q : greedy 0 sp with
  | nil => exact Nat.zero_le _
  | cons x L =>
    rw [q] at hc ho
    have hx := ho x (List.mem_cons_self ..)
    have := chain_room hc.2.2 (fun s hs => ho s (List.mem_cons_of_mem _ hs)) hx.ln hx.li
    have := hc.1
    have := hc.2.1
    rw [List.length_cons]
    omega
def Asc (n : Nat) (P : List Nat) : Prop := P.Pairwise (· < ·) ∧ ∀ x ∈ P, x < n
/-- a wanted line is served just by roots in its stretch -/
theorem serve {es : List Ev} (h : Valid es) {p : Nat} {s : Span} (o : SpanOk es p s) (P : List Nat) : (∃ j, j ∈ P ∧ j ≤ s.l ∧ (stAt es s.l).w + 1 ≤ p + (stAt es j).s) ↔ ∃ j ∈ P, s.f ≤ j ∧ j ≤ s.l := by
  have := o.wt
  have := o.f1
  have := o.li
  constructor
  · rintro ⟨j, a, b, d⟩
    refine ⟨j, a, ?_, b⟩
    rw [o.nu] at d
    obtain ⟨x, x1, x2⟩ := (s_ge h (n := s.n) (p := p) (by omega) j (by omega)).mp d
    rcases Nat.lt_or_ge x (s.f - 1) with q | q
    · rw [o.mn x q] at x2
      cases x2
    · omega
  · rintro ⟨j, a, b, d⟩
    refine ⟨j, a, d, ?_⟩
    rw [o.nu]
    exact (s_ge h (n := s.n) (p := p) (by omega) j (by omega)).mpr ⟨s.f - 1, by omega, o.st⟩
theorem fit_spans {es : List Ev} (h : Valid es) {p : Nat} {L : List Span} (hs : spansOf es p = some L) (P : List Nat) : FitP es p P ↔ ∀ s ∈ L, ∃ j ∈ P, s.f ≤ j ∧ j ≤ s.l := by
  obtain ⟨o, w, _⟩ := spans_mem hs
  constructor
  · intro k s hs
    have ho := o s hs
    rcases k s.l ho.li ho.ln with q | q
    · have := ho.wt
      have := ho.nu
      omega
    · exact (serve h ho P).mp q
  · intro k i hi hl
    by_cases c : (stAt es i).w + 1 ≤ p + (stAt es i).g
    · exact .inl c
    · obtain ⟨s, s1, s2, s3⟩ := w _ i (wl_mem.mpr ⟨hi, hl, rfl, by omega⟩)
      have := (serve h (o s s1) P).mpr (k s s1)
      rw [s3] at this
      exact .inr this
theorem fit_none {es : List Ev} (h : Valid es) {p : Nat} (hs : spansOf es p = none) (P : List Nat) : ¬ FitP es p P := by
  intro k
  unfold spansOf at hs
  split at hs
  · cases hs
  · rename_i c
    rw [Bool.not_eq_true, List.all_eq_false] at c
    obtain ⟨⟨n, i⟩, hx, c⟩ := c
    obtain ⟨w1, w2, w3, w4⟩ := wl_mem.mp hx
    rcases k i w1 w2 with q | ⟨j, a, b, d⟩
    · omega
    · obtain ⟨x, x1, x2⟩ := (s_ge h (n := n) (p := p) (by omega) j (by omega)).mp (by omega)
      refine c ?_
      unfold spanOf
      show ((early es p n i).head?.map _).isSome = true
      rw [Option.isSome_map]
      cases q : (early es p n i).head? with
      | some _ => rfl
      | none =>
        rw [List.head?_eq_none_iff] at q
        unfold early at q
        rw [List.filter_eq_nil_iff] at q
        exact absurd x2 (q x (List.mem_range.mpr (by omega)))
/-- the roots told: they fit, and each that fit are as many and no later -/
theorem told_best {es : List Ev} (h : Valid es) {p : Nat} {L : List Span} (hs : cs es p = some L) : Asc es.length (L.map Span.l) ∧ FitP es p (L.map Span.l) ∧
    ∀ P, P.Pairwise (· < ·) → FitP es p P → L.length ≤ P.length ∧ ∀ (k : Nat) (s : Span) (j : Nat), L[k]? = some s → P[k]? = some j → j ≤ s.l := by
  obtain ⟨sp, h1, rfl⟩ := Option.map_eq_some_iff.mp hs
  obtain ⟨o, w, pw⟩ := spans_mem h1
  have hc := greedy_chain sp 0 fun s hs => (o s hs).fl
  have sub := greedy_sub sp 0
  refine ⟨⟨?_, fun x hx => ?_⟩, ?_, fun P hP hf => ?_⟩
  · rw [List.pairwise_map]
    exact (pw.sublist sub).imp fun h => h.2
  · obtain ⟨s, hs, rfl⟩ := List.mem_map.mp hx
    exact (o s (sub.subset hs)).li
  · rw [fit_spans h h1]
    intro s hs
    rcases greedy_stab sp 0 pw (fun s hs => (o s hs).fl) s hs with q | ⟨c, c1, c2⟩
    · have := (o s hs).f1
      omega
    · exact ⟨c.l, List.mem_map.mpr ⟨c, c1, rfl⟩, c2⟩
  · exact stab_chain hc hP fun s hs => (fit_spans h h1 P).mp hf s (sub.subset hs)
theorem cs_none {es : List Ev} (h : Valid es) {p : Nat} (hs : cs es p = none) (P : List Nat) : ¬ FitP es p P := fit_none h (by
  unfold cs at hs
  exact Option.map_eq_none_iff.mp hs) P
theorem FitP.mono {es : List Ev} {p q : Nat} {P : List Nat} (h : FitP es p P) (k : p ≤ q) : FitP es q P := fun i hi hl => by
  rcases h i hi hl with a | ⟨j, a, b, c⟩
  · exact .inl (by omega)
  · exact .inr ⟨j, a, b, by omega⟩
/-- so many roots are enough -/
def enough (es : List Ev) (p r : Nat) : Bool := match cs es p with
  | some L => decide (L.length ≤ r)
  | none => false
theorem enough_iff {es : List Ev} (h : Valid es) {p r : Nat} : enough es p r = true ↔ ∃ P, Asc es.length P ∧ FitP es p P ∧ P.length ≤ r := by
  unfold enough
  cases q : cs es p with
  | none =>
    constructor
    · intro z
      cases z
    · rintro ⟨P, _, b, _⟩
      exact absurd b (cs_none h q P)
  | some L =>
    obtain ⟨a1, a2, a3⟩ := told_best h q
    constructor
    · intro z
      exact ⟨_, a1, a2, by rw [List.length_map]; exact of_decide_eq_true z⟩
    · rintro ⟨P, b1, b2, b3⟩
      exact decide_eq_true (Nat.le_trans (a3 P b1.1 b2).1 b3)
theorem enough_mono {es : List Ev} (h : Valid es) {p q r : Nat} (k : p ≤ q) (e : enough es p r = true) : enough es q r = true := by
  obtain ⟨P, a, b, c⟩ := (enough_iff h).mp e
  exact (enough_iff h).mpr ⟨P, a, b.mono k, c⟩
theorem w_mono (es : List Ev) : ∀ i j, i ≤ j → j ≤ es.length → (stAt es i).w ≤ (stAt es j).w
  | i, 0, a, _ => by
    rw [show i = 0 by omega]
    exact Nat.le_refl _
  | i, j + 1, a, b => by
    rcases Nat.lt_or_ge i (j + 1) with q | q
    · refine Nat.le_trans (w_mono es i j (by omega) (by omega)) ?_
      have e := List.getElem?_eq_getElem (show j < es.length by omega)
      rw [stAt_succ e]
      cases es[j] with
      | line => exact Nat.le_succ _
      | root => exact Nat.le_refl _
      | stand n => exact Nat.le_refl _
    · rw [show i = j + 1 by omega]
      exact Nat.le_refl _
theorem enough_all {es : List Ev} (h : Valid es) {p : Nat} (r : Nat) (k : (stAt es es.length).w ≤ p) : enough es p r = true := by
  refine (enough_iff h).mpr ⟨[], ⟨.nil, fun x hx => by cases hx⟩, fun i hi hl => .inl ?_, Nat.zero_le _⟩
  have e := List.getElem?_eq_getElem hi
  rw [isL_at e, decide_eq_true_eq] at hl
  have h1 := w_mono es (i + 1) es.length (by omega) (Nat.le_refl _)
  rw [stAt_succ e, hl] at h1
  have : (stAt es i).w + 1 ≤ (stAt es es.length).w := h1
  omega
/-- given up: a root behind the first stand that is enough -/
theorem g_ge {es : List Ev} (h : Valid es) {p n : Nat} (hn : p < n) : ∀ i, i ≤ es.length → (n ≤ p + (stAt es i).g ↔ ∃ r, r < i ∧ es[r]? = some .root ∧ n ≤ p + (stAt es r).s)
  | 0, _ => by
    rw [stAt_zero]
    exact ⟨fun z => absurd z (by show ¬ n ≤ p + 0; omega), fun ⟨r, a, _⟩ => by omega⟩
  | i + 1, hi => by
    have ih := g_ge h hn i (by omega)
    have e := List.getElem?_eq_getElem (show i < es.length by omega)
    have od := h.ord i (by omega)
    rw [stAt_succ e]
    have nx : es[i] ≠ .root → ((∃ r, r < i ∧ es[r]? = some .root ∧ n ≤ p + (stAt es r).s) ↔ ∃ r, r < i + 1 ∧ es[r]? = some .root ∧ n ≤ p + (stAt es r).s) := by
      intro z
      refine ⟨fun ⟨r, a, b⟩ => ⟨r, by omega, b⟩, fun ⟨r, a, b⟩ => ⟨r, ?_, b⟩⟩
      have : r ≠ i := fun y => by
        rw [y, e] at b
        exact z (Option.some.inj b.1)
      omega
    cases q : es[i] with
    | line => exact ih.trans (nx (by rw [q]; exact fun z => nomatch z))
    | stand m => exact ih.trans (nx (by rw [q]; exact fun z => nomatch z))
    | root =>
      show n ≤ p + (stAt es i).s ↔ _
      constructor
      · intro z
        exact ⟨i, by omega, by rw [e, q], z⟩
      · rintro ⟨r, a, b, c⟩
        have := s_mono h r i (by omega) (by omega)
        omega
/-- the law's own way of telling what is wanted -/
theorem want_iff {es : List Ev} (h : Valid es) {p i a0 : Nat} (hi : i < es.length) (he : (early es p ((stAt es i).w + 1) i).head? = some a0) : p + (stAt es i).g < (stAt es i).w + 1 ↔ (p < (stAt es i).w + 1 ∧ ∀ r, a0 < r → r < i → es[r]? ≠ some .root) := by
  obtain ⟨a1, a2, a3⟩ := head_filter.mp he
  constructor
  · intro z
    refine ⟨by omega, fun r b c d => ?_⟩
    have := (g_ge h (show p < (stAt es i).w + 1 by omega) i (by omega)).mpr ⟨r, c, d, (s_ge h (by omega) r (by omega)).mpr ⟨a0, b, a2⟩⟩
    omega
  · rintro ⟨z, k⟩
    rcases Nat.lt_or_ge (p + (stAt es i).g) ((stAt es i).w + 1) with q | q
    · exact q
    · obtain ⟨r, r1, r2, r3⟩ := (g_ge h z i (by omega)).mp q
      obtain ⟨a, b1, b2⟩ := (s_ge h z r (by omega)).mp r3
      have : a0 ≤ a := by
        rcases Nat.lt_or_ge a a0 with y | y
        · rw [a3 a y] at b2
          cases b2
        · exact y
      exact absurd r2 (k r (by omega) r1)
end K36
set_option Elab.async false
set_option linter.all false
set_option maxRecDepth 100000
set_option maxHeartbeats 4000000
/-! Set comprehensions of any members, of one clause or two: the loop of a clause once and for all. -/
namespace KB
open PySem PySem.Spec PyProof.Rows L2
/-- no error leaves -/
abbrev F0 : Value → Shared → Prop := fun _ _ => False
/-- the tests of a clause -/
abbrev tests (ifs : List Expr) (env : Env) : Sem Bool := forIn ifs true fun q r => if r = true then (do let b ← isTrue q env (eval q env); pure (ForInStep.yield b)) else pure (ForInStep.yield r)
/-- the loop c of a clause over it, the rest of a turn being B -/
structure Cl (P : Program) (w : World) (A : Around) (c : Code) (it : Value) (tg : Expr) (env : Env) (ifs : List Expr) (B : (Shared → Prop) → Shared → Prop) : Prop where
  quiet : c.quiet = true
  mono : ∀ (N N' : Shared → Prop) (s : Shared), (∀ s', N s' → N' s') → B N s → B N' s
  den : ∀ (Q : PySem.Fin → Shared → Prop) (E : Value → Shared → Prop) (s : Shared), wpAny (model P w) A (pyNext it) (fun r s1 => match r with
      | none => Q (.done .next) s1
      | some v => wpAny (model P w) A (letOwnedTupleGo tg it v) (fun _ s2 => wpAny (model P w) A (assign tg env v) (fun _ s3 => wpAny (model P w) A (tests ifs env) (fun b s4 =>
          if b = true then B (fun s5 => Q (.again c) s5) s4 else Q (.again c) s4) F0 s3) F0 s2) F0 s1) F0 s → wpAny (model P w) (A.under c) ((model P w).den c) Q E s
/-- what of the slots is known stays known, but for those of vs -/
def Kp (vs : List Nat) (σ σ' : L2.St) : Prop := σ'.length = σ.length ∧ ∀ (j : Nat) (v : V), (wipe σ vs)[j]? = some (some v) → σ'[j]? = some (some v)
theorem Kp.refl (vs : List Nat) (σ : L2.St) : Kp vs σ σ := ⟨rfl, fun _ _ e => (wipe_some e).1⟩
theorem Kp.wipe {vs vs1 : List Nat} (h : ∀ i ∈ vs1, i ∈ vs) (σ : L2.St) : Kp vs σ (wipe σ vs1) := ⟨wipe_length _ _, fun j v e => by
  obtain ⟨e1, e2⟩ := wipe_some e
  rw [wipe_out fun z => e2 (h j z)]
  exact e1⟩
/-- the turns of a clause; tb: the rest of a turn, by what has to hold behind it -/
def tCl (g : TG) (tt : TT) (tb : L2.St → Hp → (Hp → Prop) → Prop) (vs : List Nat) (σ : L2.St) (Z : Hp → Prop) (J : It) (H : Hp) : Prop :=
  ∃ W : Nat → Nat → Hp → Prop, (∃ m, W 0 m H) ∧ ∀ i m G, W i m G → (J.stop i G ∧ Z G) ∨ (J.go i G ∧ ∃ N : Hp → Prop, (∀ G', N G' → ∃ m', m' < m ∧ W (i + 1) m' G') ∧
    ∀ x G', J.yld i G x G' → g x (wipe σ vs) G' fun σ2 H2 => wipe σ2 vs = wipe σ vs ∧ tt σ2 H2 fun b H3 => if b = true then tb σ2 H3 N else N H3)
section
variable {X : Cx} {c : Code} {it : Addr} {tg : Expr} {ifs : List Expr} {B : (Shared → Prop) → Shared → Prop} {J : It} {fp : List Addr} {tn : Nat → Heap → Prop} {g : TG} {tt : TT}
  {tb : L2.St → Hp → (Hp → Prop) → Prop} {vs : List Nat} {pins : List (Addr × Obj)} {σ : L2.St} {H : Hp} {s : Shared} {Z : Hp → Prop} {R : Result → Shared → Prop}
theorem cl_run (hc : X.calm = true) (hx : X.xe = F0) (L : Cl X.prog X.w X.A c (.ref it) tg X.env ifs B) (T : Turn X.prog X.w X.K tg J fp it tn) (pg : PG X tg g) (pt : PTs X ifs tt)
    (pb : ∀ (pl : List (Addr × Obj)) (s1 : Shared) (τ : L2.St) (G : Hp) (N : Hp → Prop), Inv X pl τ G s1 → (∀ b ∈ pl, b ∈ pins ∨ b.1 ∈ fp) → tb τ G N → B (fun s2 => ∃ τ' G', Inv X pl τ' G' s2 ∧ Kp vs τ τ' ∧ N G') s1)
    (I : Inv X pins (wipe σ vs) H s) (fr : ∀ b ∈ fp, FpOk X pins H b) (t0 : tn 0 s.heap) (q : tCl g tt tb vs σ Z J H) (k : ∀ s' G, Inv X pins (wipe σ vs) G s' → (∀ b ∈ fp, G b = none) → Z G → R (.ok .next) s') :
    codeAny (model X.prog X.w) X.A c R s := by
  obtain ⟨W, ⟨m0, w0⟩, turn⟩ := q
  refine codeAny_loop L.quiet (fun n u => ∃ i G, Inv X pins (wipe σ vs) G u ∧ tn i u.heap ∧ (∀ b ∈ fp, G b = none) ∧ W i n G) ?_ m0 ⟨0, H, I, t0, fun b hb => (fr b hb).1, w0⟩
  rintro n s1 ⟨i, G, I1, t1, n1, w1⟩
  refine L.den _ _ _ ?_
  have ok1 : ∀ b ∈ fp, FpOk X pins G b := fun b hb => ⟨n1 b hb, (fr b hb).2⟩
  rcases turn i n G w1 with ⟨stp, z⟩ | ⟨go, N, hN, step⟩
  · refine thnF (T.done X rfl rfl rfl hc i pins s1 _ G F0 I1 ok1 t1 stp) fun r s2 ⟨er, I2⟩ => ?_
    subst er
    exact k _ _ I2 n1 z
  · refine thnF (T.item X rfl rfl rfl hc i pins s1 _ G F0 I1 ok1 t1 go) fun r s2 ⟨u, er, h2⟩ => ?_
    subst er
    refine thnF h2 fun _ s3 ⟨x, G3, I3, r3, y3, t3, n3⟩ => ?_
    have J3 := I3.pinned (fun b hb => ⟨n3 b hb, (fr b hb).2⟩) (T.obj _ _ t3)
    have a1 := pg.run _ s3 _ G3 x u _ J3 r3 (step x G3 y3)
    rw [hx] at a1
    refine thnF a1 fun _ s4 ⟨τ, G4, I4, ew, q4⟩ => ?_
    have a2 := pt.run _ s4 τ G4 _ I4 q4
    rw [hx] at a2
    refine thnF a2 fun ok s5 ⟨G5, I5, q5⟩ => ?_
    have fin : ∀ (τ' : L2.St) (G' : Hp) (s' : Shared), Inv X (pins ++ pinsAt fp s3.heap) τ' G' s' → Kp vs τ τ' → N G' → ∃ m, m < n ∧ ∃ i G, Inv X pins (wipe σ vs) G s' ∧ tn i s'.heap ∧ (∀ b ∈ fp, G b = none) ∧ W i m G := fun τ' G' s' I' kp nx => by
      obtain ⟨m', hm, w'⟩ := hN G' nx
      have at_ : ∀ b ∈ fp, ∀ o, s3.heap.get? b = some o → s'.heap.get? b = some o ∧ G' b = none := fun b hb o e => by
        have z := I'.pin (b, o) (List.mem_append_right _ (List.mem_append_right _ (mem_pinsAt hb e)))
        exact ⟨z.1, z.2.1⟩
      refine ⟨m', hm, i + 1, G', I'.unpinned.weak ?_ (fun j v e => kp.2 j v (by rw [ew]; exact e)), T.keep _ _ _ t3 fun b hb o e => (at_ b hb o e).1, fun b hb => ?_, w'⟩
      · rw [kp.1, ← wipe_length τ vs, ew]
      · obtain ⟨o, e, _⟩ := T.obj _ _ t3 b hb
        exact (at_ b hb o e).2
    cases ok with
    | false => exact ⟨rfl, fin _ _ _ I5 (Kp.refl _ _) q5⟩
    | true =>
      have mem : ∀ b ∈ pins ++ pinsAt fp s3.heap, b ∈ pins ∨ b.1 ∈ fp := fun b hb => by
        rcases List.mem_append.mp hb with z | z
        · exact .inl z
        · refine .inr ?_
          obtain ⟨a, ha, e⟩ := List.mem_filterMap.mp z
          obtain ⟨o, _, rfl⟩ := Option.map_eq_some_iff.mp e
          exact ha
      refine L.mono _ _ _ (fun s6 ⟨τ', G6, I6, kp, nx⟩ => ?_) (pb _ s5 τ G5 N I5 mem q5)
      exact ⟨rfl, fin _ _ _ I6 kp nx⟩
end
end KB
set_option Elab.async false
set_option linter.all false
set_option maxRecDepth 100000
set_option maxHeartbeats 4000000
namespace KB
open PySem PySem.Spec PyProof.Rows L2
abbrev sc1 (elt t0 i0 : Expr) (if0 : List Expr) (scope : Scope) (pos : Pos) : Expr := .SetComp elt [⟨t0, i0, if0, 0⟩] scope pos
abbrev sc2 (elt t0 i0 t1 i1 : Expr) (if0 if1 : List Expr) (scope : Scope) (pos : Pos) : Expr := .SetComp elt [⟨t0, i0, if0, 0⟩, ⟨t1, i1, if1, 0⟩] scope pos
section
variable {P : Program} {w : World} {A : Around} {env : Env} {elt t0 i0 t1 i1 : Expr} {if0 if1 : List Expr} {scope : Scope} {pos : Pos} {it acc : Value}
theorem turn1 : compTurn (sc1 elt t0 i0 if0 scope pos) 0 it acc env = (do
      standAt i0.pos
      match ← pyNext it with
      | none => pure (.done .next)
      | some u =>
        letOwnedTupleGo t0 it u
        assign t0 env u
        let mut b := true
        for q in if0 do
          if b then b ← isTrue q env (eval q env)
        if b then
          (do let y ← eval elt env; standAt elt.pos; let _ ← call (.builtin "set.add") [acc, y])
        again (.compLoop (sc1 elt t0 i0 if0 scope pos) 0 it acc env)) := by rfl
theorem turn2i : compTurn (sc2 elt t0 i0 t1 i1 if0 if1 scope pos) 1 it acc env = (do
      standAt i1.pos
      match ← pyNext it with
      | none => pure (.done .next)
      | some u =>
        letOwnedTupleGo t1 it u
        assign t1 env u
        let mut b := true
        for q in if1 do
          if b then b ← isTrue q env (eval q env)
        if b then
          (do let y ← eval elt env; standAt elt.pos; let _ ← call (.builtin "set.add") [acc, y])
        again (.compLoop (sc2 elt t0 i0 t1 i1 if0 if1 scope pos) 1 it acc env)) := by rfl
theorem turn2o : compTurn (sc2 elt t0 i0 t1 i1 if0 if1 scope pos) 0 it acc env = (do
      standAt i0.pos
      match ← pyNext it with
      | none => pure (.done .next)
      | some u =>
        letOwnedTupleGo t0 it u
        assign t0 env u
        let mut b := true
        for q in if0 do
          if b then b ← isTrue q env (eval q env)
        if b then
          let y ← eval i1 env
          standAt i1.pos
          let y ← foldedSetIterable i1 env y
          let _ ← runOwn (.compStart (sc2 elt t0 i0 t1 i1 if0 if1 scope pos) 1 (← holding [y] (pyIter y)) acc env) env
        again (.compLoop (sc2 elt t0 i0 t1 i1 if0 if1 scope pos) 0 it acc env)) := by rfl
/-- a member is made and put in -/
def bAdd (P : Program) (w : World) (A : Around) (elt : Expr) (env : Env) (acc : Value) : (Shared → Prop) → Shared → Prop := fun N s =>
  wpAny (model P w) A (eval elt env) (fun y s1 => wpAny (model P w) A (call (.builtin "set.add") [acc, y]) (fun _ s2 => N s2) F0 s1) F0 s
theorem noF {α : Type} {t : Sem α} {Q : α → Shared → Prop} {M : Model} {E : Value → Shared → Prop} {s : Shared} (h : wpAny M A t Q F0 s) : wpAny M A t Q E s := wpAny_mono h (fun _ _ x => x) fun _ _ z => z.elim
theorem bAdd_mono (N N' : Shared → Prop) (s : Shared) (h : ∀ s', N s' → N' s') (b : bAdd P w A elt env acc N s) : bAdd P w A elt env acc N' s :=
  wpAny_mono b (fun _ _ x => wpAny_mono x (fun _ s' z => h s' z) fun _ _ z => z) fun _ _ z => z
theorem cl_add1 : Cl P w A (.compLoop (sc1 elt t0 i0 if0 scope pos) 0 it acc env) it t0 env if0 (bAdd P w A elt env acc) := by
  refine ⟨rfl, bAdd_mono, fun Q E s h => ?_⟩
  show wpAny _ A ((compTurn (sc1 elt t0 i0 if0 scope pos) 0 it acc env).onRaise _) _ _ s
  refine wpAny_noted ?_
  rw [turn1]
  refine wpAny_bind (wpAny_standAt (wpAny_bind (noF (wpAny_mono h (fun r s1 h1 => ?_) fun _ _ z => z))))
  cases r with
  | none => exact wpAny_pure h1
  | some u =>
    refine wpAny_bind (noF (wpAny_mono h1 (fun _ s2 h2 => wpAny_bind (noF (wpAny_mono h2 (fun _ s3 h3 => wpAny_bind (noF (wpAny_mono h3 (fun b s4 h4 => ?_) fun _ _ z => z))) fun _ _ z => z))) fun _ _ z => z))
    cases b with
    | false => exact wpAny_pure h4
    | true => exact wpAny_bind (wpAny_bind (noF (wpAny_mono h4 (fun y s5 h5 => wpAny_bind (wpAny_standAt (wpAny_bind (noF (wpAny_mono h5 (fun _ s6 h6 => wpAny_pure (wpAny_pure h6)) fun _ _ z => z))))) fun _ _ z => z)))
theorem cl_add2 : Cl P w A (.compLoop (sc2 elt t0 i0 t1 i1 if0 if1 scope pos) 1 it acc env) it t1 env if1 (bAdd P w A elt env acc) := by
  refine ⟨rfl, bAdd_mono, fun Q E s h => ?_⟩
  show wpAny _ A ((compTurn (sc2 elt t0 i0 t1 i1 if0 if1 scope pos) 1 it acc env).onRaise _) _ _ s
  refine wpAny_noted ?_
  rw [turn2i]
  refine wpAny_bind (wpAny_standAt (wpAny_bind (noF (wpAny_mono h (fun r s1 h1 => ?_) fun _ _ z => z))))
  cases r with
  | none => exact wpAny_pure h1
  | some u =>
    refine wpAny_bind (noF (wpAny_mono h1 (fun _ s2 h2 => wpAny_bind (noF (wpAny_mono h2 (fun _ s3 h3 => wpAny_bind (noF (wpAny_mono h3 (fun b s4 h4 => ?_) fun _ _ z => z))) fun _ _ z => z))) fun _ _ z => z))
    cases b with
    | false => exact wpAny_pure h4
    | true => exact wpAny_bind (wpAny_bind (noF (wpAny_mono h4 (fun y s5 h5 => wpAny_bind (wpAny_standAt (wpAny_bind (noF (wpAny_mono h5 (fun _ s6 h6 => wpAny_pure (wpAny_pure h6)) fun _ _ z => z))))) fun _ _ z => z)))
/-- the second clause is run -/
def bIn (P : Program) (w : World) (A : Around) (e i1 : Expr) (env : Env) (acc : Value) : (Shared → Prop) → Shared → Prop := fun N s =>
  wpAny (model P w) A (eval i1 env) (fun y s1 => wpAny (model P w) A (pyIter y) (fun j s2 => codeAny (model P w) A (.compStart e 1 j acc env) (fun r s' => match r with
    | .ok _ => N s'
    | .error _ => False) s2) F0 s1) F0 s
theorem bIn_mono {e : Expr} (N N' : Shared → Prop) (s : Shared) (h : ∀ s', N s' → N' s') (b : bIn P w A e i1 env acc N s) : bIn P w A e i1 env acc N' s :=
  wpAny_mono b (fun _ _ x => wpAny_mono x (fun _ _ y => codeAny_mono y fun r s' z => match r, z with
    | .ok _, z => h s' z
    | .error _, z => z) fun _ _ z => z) fun _ _ z => z
theorem cl_in (hs : ∀ x, foldedSetIterable i1 env x = pure x) : Cl P w A (.compLoop (sc2 elt t0 i0 t1 i1 if0 if1 scope pos) 0 it acc env) it t0 env if0 (bIn P w A (sc2 elt t0 i0 t1 i1 if0 if1 scope pos) i1 env acc) := by
  refine ⟨rfl, bIn_mono, fun Q E s h => ?_⟩
  show wpAny _ A ((compTurn (sc2 elt t0 i0 t1 i1 if0 if1 scope pos) 0 it acc env).onRaise _) _ _ s
  refine wpAny_noted ?_
  rw [turn2o]
  refine wpAny_bind (wpAny_standAt (wpAny_bind (noF (wpAny_mono h (fun r s1 h1 => ?_) fun _ _ z => z))))
  cases r with
  | none => exact wpAny_pure h1
  | some u =>
    refine wpAny_bind (noF (wpAny_mono h1 (fun _ s2 h2 => wpAny_bind (noF (wpAny_mono h2 (fun _ s3 h3 => wpAny_bind (noF (wpAny_mono h3 (fun b s4 h4 => ?_) fun _ _ z => z))) fun _ _ z => z))) fun _ _ z => z))
    cases b with
    | false => exact wpAny_pure h4
    | true =>
      refine wpAny_bind (noF (wpAny_mono h4 (fun y s5 h5 => ?_) fun _ _ z => z))
      refine wpAny_bind (wpAny_standAt (wpAny_bind (wpAny_of_eq (hs y) (wpAny_bind (wpAny_holding (noF (wpAny_mono h5 (fun j s6 h6 => ?_) fun _ _ z => z)))))))
      refine wpAny_bind (wpAny_runOwn ?_)
      rw [Around.mark_none]
      refine codeAny_mono h6 fun r s7 z => ?_
      cases r with
      | ok f => first
        | exact wpAny_pure z
        | exact wpAny_bind (wpAny_pure (wpAny_pure z))
      | error e => exact z.elim
theorem start2 {R : Result → Shared → Prop} {s : Shared} (h0 : codeAny (model P w) A (.compLoop (sc2 elt t0 i0 t1 i1 if0 if1 scope pos) 1 it acc env) R s)
    (h : wpAny (model P w) A (pyIter it) (fun j s' => codeAny (model P w) A (.compLoop (sc2 elt t0 i0 t1 i1 if0 if1 scope pos) 1 j acc env) R s') F0 s) :
    codeAny (model P w) A (.compStart (sc2 elt t0 i0 t1 i1 if0 if1 scope pos) 1 it acc env) R s := by
  refine codeAny_of_tree ?_
  show wpAny _ _ ((compStart (sc2 elt t0 i0 t1 i1 if0 if1 scope pos) 1 it acc env).onRaise _) _ _ s
  refine wpAny_notedAt ?_
  unfold compStart
  show wpAny _ _ (ask >>= _) _ _ s
  refine wpAny_bind (wpAny_askSetting (wpAny_ite ?_))
  split
  · first
      | exact wpAny_bind (wpAny_pure (wpAny_pure ⟨rfl, h0⟩))
      | exact wpAny_pure ⟨rfl, h0⟩
  · refine wpAny_bind (wpAny_rule ?_)
    show wpAny _ _ (standAt i1.pos >>= _) _ _ s
    exact wpAny_bind (wpAny_standAt (wpAny_bind (noF (wpAny_mono h (fun j s' h' => wpAny_pure ⟨rfl, h'⟩) fun _ _ z => z))))
end
end KB
set_option Elab.async false
set_option linter.all false
set_option maxRecDepth 100000
set_option maxHeartbeats 4000000
namespace KB
open PySem PySem.Spec PyProof.Rows L2
/-- the set's methods: what add asks and does -/
abbrev AddR := V → List V → Hp → VK → Prop
/-- a member is made, and put into the set at D -/
def tAdd (r : AddR) (te : TE) (D : Addr) : L2.St → Hp → (Hp → Prop) → Prop := fun τ G N => te τ G fun y G1 => r (.ref D) [y] G1 fun _ G2 => N G2
/-- the second clause -/
def tInn (r : AddR) (wi1 : TI) (g1 : TG) (tt1 : TT) (te : TE) (vs1 : List Nat) (D : Addr) : L2.St → Hp → (Hp → Prop) → Prop := fun τ G N => wi1 τ G fun J1 G1 => tCl g1 tt1 (tAdd r te D) vs1 τ N J1 G1
/-- {elt for t0 in i0 if ..}, D the new set -/
def tSc1 (O0 : Addr → HO) (r : AddR) (wi : TI) (g : TG) (tt : TT) (te : TE) (vs : List Nat) : TE := fun σ H Q => wi σ H fun J H1 => ∀ D, H1 D = none → tCl g tt (tAdd r te D) vs σ (fun G => Q (.ref D) G) J (upd H1 D (O0 D))
/-- {elt for t0 in i0 if .. for t1 in i1 if ..} -/
def tSc2 (O0 : Addr → HO) (r : AddR) (wi : TI) (g : TG) (tt : TT) (wi1 : TI) (g1 : TG) (tt1 : TT) (te : TE) (vs vs1 : List Nat) : TE := fun σ H Q =>
  wi σ H fun J H1 => ∀ D, H1 D = none → tCl g tt (tInn r wi1 g1 tt1 te vs1 D) vs σ (fun G => Q (.ref D) G) J (upd H1 D (O0 D))
abbrev freshSet (w : World) : Obj := { cls := .type "set", dict := none, data := .set #[] 0 (.fresh 0 0 (!w.params.followText "set-order")) }
theorem ev_sc (elt : Expr) (gs : List Comprehension) (scope : Scope) (pos : Pos) (env : Env) : eval (.SetComp elt gs scope pos) env = comprehension (.SetComp elt gs scope pos) scope env (firstIterPos gs pos) (newSet (.type "set")) (firstAsync gs) (firstIter gs env) := rfl
section
variable {X : Cx} {O0 : Addr → HO} {r : AddR} {elt t0 i0 t1 i1 : Expr} {if0 if1 : List Expr} {scope : Scope} {own : List (Str × Nat)} {vs1 : List Nat} {pos : Pos} {wi wi1 : TI} {g g1 : TG} {tt tt1 : TT} {te : TE}
/-- what stands in the block, in its context -/
abbrev InBlk (X : Cx) (scope : Scope) (p : Cx → Prop) : Prop := ∀ (s : Shared) (H : Hp) (C : Addr) (cl : List (Str × Addr)) (fp : List Addr), p (X.blk s H scope (compEnvC scope cl C X.env) fp)
/-- put in: the rest of a turn -/
theorem add_ok {Y : Cx} {D : Addr} {vs : List Nat} (hx : Y.xe = F0) (he : PE Y elt te) (ha : MtR Y "set.add" r) (pl : List (Addr × Obj)) (s : Shared) (τ : L2.St) (G : Hp) (N : Hp → Prop) (I : Inv Y pl τ G s) (q : tAdd r te D τ G N) :
    bAdd Y.prog Y.w Y.A elt Y.env (.ref D) (fun s2 => ∃ τ' G', Inv Y pl τ' G' s2 ∧ Kp vs τ τ' ∧ N G') s := by
  have a1 := he.run pl s τ G _ I q
  rw [hx] at a1
  refine wpAny_mono a1 (fun u s1 ⟨y, G1, I1, r1, q1⟩ => ?_) fun _ _ z => z
  have a2 := ha pl s1 τ G1 (.ref D) [y] (.ref D) [u] _ I1 rfl (.cons r1 .nil) q1
  rw [hx] at a2
  exact wpAny_mono a2 (fun _ s2 ⟨z, G2, I2, r2, q2⟩ => ⟨τ, G2, I2, Kp.refl _ _, q2⟩) fun _ _ z => z
/-- the second clause: the rest of a turn of the first -/
theorem inn_ok {Y : Cx} {D : Addr} {vs : List Nat} (hc : Y.calm = true) (hx : Y.xe = F0) (hv : ∀ i ∈ vs1, i ∈ vs) (hi1 : PI Y t1 i1 wi1) (hg1 : PG Y t1 g1) (ht1 : PTs Y if1 tt1) (he : PE Y elt te) (ha : MtR Y "set.add" r)
    (pl : List (Addr × Obj)) (s : Shared) (τ : L2.St) (G : Hp) (N : Hp → Prop) (I : Inv Y pl τ G s) (q : tInn r wi1 g1 tt1 te vs1 D τ G N) :
    bIn Y.prog Y.w Y.A (sc2 elt t0 i0 t1 i1 if0 if1 scope pos) i1 Y.env (.ref D) (fun s2 => ∃ τ' G', Inv Y pl τ' G' s2 ∧ Kp vs τ τ' ∧ N G') s := by
  have a1 := hi1.run pl s τ G _ I q
  rw [hx] at a1
  refine wpAny_mono a1 (fun u s1 a2 => wpAny_mono a2 (fun j s2 h2 => ?_) fun _ _ z => z) fun _ _ z => z
  obtain ⟨it, fp, tn, J, G1, e, I1, T, st, fr, q1⟩ := h2
  subst e
  have run := cl_run (R := fun rr s' => match rr with
      | .ok _ => ∃ τ' G', Inv Y pl τ' G' s' ∧ Kp vs τ τ' ∧ N G'
      | .error _ => False) hc hx (cl_add2 (elt := elt) (t0 := t0) (i0 := i0) (i1 := i1) (if0 := if0) (scope := scope) (pos := pos) (acc := .ref D)) T hg1 ht1
    (fun pl' s' τ' G' N' I' _ q' => add_ok (vs := vs1) hx he ha pl' s' τ' G' N' I' q') (I1.weak (wipe_length _ _) fun i v e => (wipe_some e).1) fr st q1
    fun s' G' I' _ z => ⟨_, G', I', Kp.wipe hv τ, z⟩
  exact start2 run (T.self Y.A 0 _ _ _ st run)
/-- from the block's loop to the def's context -/
theorem blk_ok {e : Expr} (hcl : ∃ gs, e = .SetComp elt (⟨t0, i0, if0, 0⟩ :: gs) scope pos) (hN : X.N.Nodup) (hi : PI X t0 i0 wi) (ok : BlkOk X.N X.env.scope scope own)
    (new : ∀ (H : Hp) (h : Heap), ObjOk X.prog X.w H (h.push (freshSet X.w)) h.objs.size (O0 h.objs.size)) {tb : Addr → L2.St → Hp → (Hp → Prop) → Prop}
    (loop : ∀ (s : Shared) (H : Hp) (C : Addr) (cl : List (Str × Addr)) (fp : List Addr) (it : Addr) (tn : Nat → Heap → Prop) (J : It) (D : Addr) (σ : L2.St) (s1 : Shared) (Z : Hp → Prop) (R : Result → Shared → Prop),
      Inv (X.blk s H scope (compEnvC scope cl C X.env) fp) [] (wipe σ (own.map (·.2))) H s1 → Turn X.prog X.w X.K t0 J fp it tn → (∀ b ∈ fp, FpOk (X.blk s H scope (compEnvC scope cl C X.env) fp) [] H b) → tn 0 s1.heap → tCl g tt (tb D) (own.map (·.2)) σ Z J H →
      (∀ s' G, Inv (X.blk s H scope (compEnvC scope cl C X.env) fp) [] (wipe σ (own.map (·.2))) G s' → Z G → R (.ok .next) s') → codeAny (model X.prog X.w) X.A (.compLoop e 0 (.ref it) (.ref D) (compEnvC scope cl C X.env)) R s1)
    (hs : ∀ x, foldedSetIterable i0 X.env x = pure x) : PE X e (fun σ H Q => wi σ H fun J H1 => ∀ D, H1 D = none → tCl g tt (tb D) (own.map (·.2)) σ (fun G => Q (.ref D) G) J (upd H1 D (O0 D))) := by
  obtain ⟨gs, rfl⟩ := hcl
  refine ⟨fun pins s σ H Q I h => ?_⟩
  rw [ev_sc]
  have hfree : ∀ y ∈ scope.names, y.2 = .free → ∃ c, X.env.cells.lookup y.1 = some c := fun y hy e => I.ok.has _ (ok.free y hy e)
  refine wpAny_comprehension_free (use := none) rfl hs (closure_ok hfree) ok.kind (fun y hy e => by rw [ok.uniq y hy, e]) (thn (hi.run pins s σ H _ I h) fun xv s1 hx => thn hx fun itv s2 h2 => ?_)
  obtain ⟨it, fp, tn, J, H2, e, I2, T, st, fr, q⟩ := h2
  subst e
  refine PpSet.newSet_ok (newEnv_comp ?_)
  have hDn : H2 s2.heap.objs.size = none := I2.hok.fresh (Nat.le_refl _)
  have q0 := q _ hDn
  generalize hD : s2.heap.objs.size = D at hDn q0
  have I3 : Inv X pins σ (upd H2 D (O0 D)) { s2 with heap := s2.heap.push (freshSet X.w) } :=
    I2.laid (t' := s2.toks) (fun b o e => Heap.get?_push_of_some _ e) (Nat.le_of_eq hD) (hD ▸ new _ _)
  generalize h3 : ({ s2 with heap := s2.heap.push (freshSet X.w) } : Shared) = s3 at I3
  have e3 : s3.heap = s2.heap.push (freshSet X.w) := by rw [← h3]
  have lt : ∀ b ∈ fp, b < s2.heap.objs.size := fun b hb => by
    obtain ⟨o, e, _⟩ := T.obj _ _ st b hb
    exact Heap.lt_size e
  have fr3 : ∀ b ∈ fp, FpOk X pins (upd H2 D (O0 D)) b ∧ b < s3.heap.objs.size := fun b hb => by
    have l := lt b hb
    refine ⟨⟨?_, (fr b hb).2⟩, by rw [e3, Heap.size_push]; exact Nat.lt_succ_of_lt l⟩
    rw [upd_ne (by rw [← hD]; exact Nat.ne_of_lt l)]
    exact (fr b hb).1
  have st3 : tn 0 s3.heap := T.keep _ _ _ st fun b _ o e => by rw [e3]; exact Heap.get?_push_of_some _ e
  have I4 := block_start I3 ok hN fr3
  have st4 : tn 0 (pushCells (s3.heap.push { cls := .type "dict", data := .dict #[] }) scope.names) := T.keep _ _ _ st3 fun b _ o e => pushCells_keeps _ _ _ _ (Heap.get?_push_of_some _ e)
  have fr4 : ∀ b ∈ fp, FpOk (X.blk s3 (upd H2 D (O0 D)) scope (compEnvC scope (cellsFrom (s3.heap.objs.size + 1) scope.names (cloFrom X.env.cells scope.names [])) s3.heap.objs.size X.env) fp) [] (upd H2 D (O0 D)) b := fun b hb =>
    ⟨(fr3 b hb).1.1, (I4.ok.exf b hb).1, I4.ok.exfs b hb, .inl hb, fun x c e => (I4.ok.exf b hb).2 x c e, fun p hp => absurd (show p ∈ ([] : List (Addr × Obj)) ++ [] from hp) (by simp)⟩
  have run := loop s3 (upd H2 D (O0 D)) _ _ fp it tn J D σ _ _ (compPost (model X.prog X.w) X.A X.xe none (EP X pins σ Q) (.ref D) s3.heap.objs.size) I4 T fr4 st4 q0 fun s' G I' z => by
    have I7 : Inv X pins σ G s' := I3.call' (ch := fp) I'.os I'.base I'.hok I'.bare fun b hb => ⟨(fr3 b hb).1.2.2.2.1, (fr3 b hb).1.2.1, (fr3 b hb).1.2.2.2.2.1, (fr3 b hb).1.2.2.2.2.2⟩
    have nC : G s3.heap.objs.size = none := I'.free
    obtain ⟨m, hm, _⟩ := I'.loc
    obtain ⟨f0, f1, f2, f3, f4, f5⟩ := I3.fpOk (Nat.le_refl _) nC
    exact ⟨m, hm, fun h' sb => ⟨.ref D, G, I7.turned (t' := s'.toks) (fun b o hb e => (sb.2 b hb).trans e) f0 f1 f3 f4 f5, rfl, z⟩⟩
  have fin := PpSet.codeAny_compStart_set run (T.self X.A 0 _ _ _ st4 run)
  subst h3
  subst hD
  exact fin
end
end KB
set_option Elab.async false
set_option linter.all false
set_option maxRecDepth 100000
set_option maxHeartbeats 4000000
namespace KB
open PySem PySem.Spec PyProof.Rows L2
section
variable {X : Cx} {O0 : Addr → HO} {r : AddR} {elt t0 i0 t1 i1 : Expr} {if0 if1 : List Expr} {scope : Scope} {own : List (Str × Nat)} {vs1 : List Nat} {pos : Pos} {wi wi1 : TI} {g g1 : TG} {tt tt1 : TT} {te : TE}
theorem pe_sc1R (hc : X.calm = true) (hN : X.N.Nodup) (hi : PI X t0 i0 wi) (ok : BlkOk X.N X.env.scope scope own) (hg : ∀ (s : Shared) (H : Hp) (C : Addr) (cl : List (Str × Addr)) (fp : List Addr), PG (X.blk s H scope (compEnvC scope cl C X.env) fp) t0 g) (ht : ∀ (s : Shared) (H : Hp) (C : Addr) (cl : List (Str × Addr)) (fp : List Addr), PTs (X.blk s H scope (compEnvC scope cl C X.env) fp) if0 tt) (he : ∀ (s : Shared) (H : Hp) (C : Addr) (cl : List (Str × Addr)) (fp : List Addr), PE (X.blk s H scope (compEnvC scope cl C X.env) fp) elt te)
    (new : ∀ (H : Hp) (h : Heap), ObjOk X.prog X.w H (h.push (freshSet X.w)) h.objs.size (O0 h.objs.size)) (ha : ∀ (s : Shared) (H : Hp) (C : Addr) (cl : List (Str × Addr)) (fp : List Addr), MtR (X.blk s H scope (compEnvC scope cl C X.env) fp) "set.add" r) (hs : ∀ x, foldedSetIterable i0 X.env x = pure x := by intro _; rfl) :
    PE X (sc1 elt t0 i0 if0 scope pos) (tSc1 O0 r wi g tt te (own.map (·.2))) :=
  blk_ok (tb := fun D => tAdd r te D) ⟨_, rfl⟩ hN hi ok new (fun s H C cl fp it tn J D σ s1 Z R I T fr st q k =>
    cl_run (X := X.blk s H scope (compEnvC scope cl C X.env) fp) hc rfl (cl_add1 (elt := elt) (i0 := i0) (scope := scope) (pos := pos) (acc := .ref D)) T (hg s H C cl fp) (ht s H C cl fp)
      (fun pl s' τ G N I' _ q' => add_ok (Y := X.blk s H scope (compEnvC scope cl C X.env) fp) rfl (he s H C cl fp) (ha s H C cl fp) pl s' τ G N I' q') I fr st q fun s' G I' _ z => k s' G I' z) hs
theorem pe_sc2R (hc : X.calm = true) (hN : X.N.Nodup) (hi : PI X t0 i0 wi) (ok : BlkOk X.N X.env.scope scope own) (hv : ∀ i ∈ vs1, i ∈ own.map (·.2)) (hg : ∀ (s : Shared) (H : Hp) (C : Addr) (cl : List (Str × Addr)) (fp : List Addr), PG (X.blk s H scope (compEnvC scope cl C X.env) fp) t0 g) (ht : ∀ (s : Shared) (H : Hp) (C : Addr) (cl : List (Str × Addr)) (fp : List Addr), PTs (X.blk s H scope (compEnvC scope cl C X.env) fp) if0 tt)
    (hi1 : ∀ (s : Shared) (H : Hp) (C : Addr) (cl : List (Str × Addr)) (fp : List Addr), PI (X.blk s H scope (compEnvC scope cl C X.env) fp) t1 i1 wi1) (hg1 : ∀ (s : Shared) (H : Hp) (C : Addr) (cl : List (Str × Addr)) (fp : List Addr), PG (X.blk s H scope (compEnvC scope cl C X.env) fp) t1 g1) (ht1 : ∀ (s : Shared) (H : Hp) (C : Addr) (cl : List (Str × Addr)) (fp : List Addr), PTs (X.blk s H scope (compEnvC scope cl C X.env) fp) if1 tt1) (he : ∀ (s : Shared) (H : Hp) (C : Addr) (cl : List (Str × Addr)) (fp : List Addr), PE (X.blk s H scope (compEnvC scope cl C X.env) fp) elt te)
    (new : ∀ (H : Hp) (h : Heap), ObjOk X.prog X.w H (h.push (freshSet X.w)) h.objs.size (O0 h.objs.size)) (ha : ∀ (s : Shared) (H : Hp) (C : Addr) (cl : List (Str × Addr)) (fp : List Addr), MtR (X.blk s H scope (compEnvC scope cl C X.env) fp) "set.add" r) (hs : ∀ x, foldedSetIterable i0 X.env x = pure x := by intro _; rfl) (hs1 : ∀ env x, foldedSetIterable i1 env x = pure x := by intro _ _; rfl) :
    PE X (sc2 elt t0 i0 t1 i1 if0 if1 scope pos) (tSc2 O0 r wi g tt wi1 g1 tt1 te (own.map (·.2)) vs1) :=
  blk_ok (tb := fun D => tInn r wi1 g1 tt1 te vs1 D) ⟨_, rfl⟩ hN hi ok new (fun s H C cl fp it tn J D σ s1 Z R I T fr st q k =>
    cl_run (X := X.blk s H scope (compEnvC scope cl C X.env) fp) hc rfl (cl_in (elt := elt) (t0 := t0) (i0 := i0) (t1 := t1) (if0 := if0) (if1 := if1) (scope := scope) (pos := pos) (acc := .ref D) (hs1 _)) T (hg s H C cl fp) (ht s H C cl fp)
      (fun pl s' τ G N I' _ q' => inn_ok (Y := X.blk s H scope (compEnvC scope cl C X.env) fp) hc rfl hv (hi1 s H C cl fp) (hg1 s H C cl fp) (ht1 s H C cl fp) (he s H C cl fp) (ha s H C cl fp) pl s' τ G N I' q') I fr st q fun s' G I' _ z => k s' G I' z) hs
/-- of ints -/
theorem pe_sc1I (hc : X.calm = true) (hN : X.N.Nodup) (hi : PI X t0 i0 wi) (ok : BlkOk X.N X.env.scope scope own) (hg : ∀ (s : Shared) (H : Hp) (C : Addr) (cl : List (Str × Addr)) (fp : List Addr), PG (X.blk s H scope (compEnvC scope cl C X.env) fp) t0 g) (ht : ∀ (s : Shared) (H : Hp) (C : Addr) (cl : List (Str × Addr)) (fp : List Addr), PTs (X.blk s H scope (compEnvC scope cl C X.env) fp) if0 tt) (he : ∀ (s : Shared) (H : Hp) (C : Addr) (cl : List (Str × Addr)) (fp : List Addr), PE (X.blk s H scope (compEnvC scope cl C X.env) fp) elt te) (hs : ∀ x, foldedSetIterable i0 X.env x = pure x := by intro _; rfl) :
    PE X (sc1 elt t0 i0 if0 scope pos) (tSc1 (fun D => SetO X.w D (fun _ => false) 0) (rSAdd X.w) wi g tt te (own.map (·.2))) :=
  pe_sc1R hc hN hi ok hg ht he (fun _ _ => setO_new (setR_fresh X.w)) (fun _ _ _ _ _ => mt_sadd) hs
theorem pe_sc2I (hc : X.calm = true) (hN : X.N.Nodup) (hi : PI X t0 i0 wi) (ok : BlkOk X.N X.env.scope scope own) (hv : ∀ i ∈ vs1, i ∈ own.map (·.2)) (hg : ∀ (s : Shared) (H : Hp) (C : Addr) (cl : List (Str × Addr)) (fp : List Addr), PG (X.blk s H scope (compEnvC scope cl C X.env) fp) t0 g) (ht : ∀ (s : Shared) (H : Hp) (C : Addr) (cl : List (Str × Addr)) (fp : List Addr), PTs (X.blk s H scope (compEnvC scope cl C X.env) fp) if0 tt)
    (hi1 : ∀ (s : Shared) (H : Hp) (C : Addr) (cl : List (Str × Addr)) (fp : List Addr), PI (X.blk s H scope (compEnvC scope cl C X.env) fp) t1 i1 wi1) (hg1 : ∀ (s : Shared) (H : Hp) (C : Addr) (cl : List (Str × Addr)) (fp : List Addr), PG (X.blk s H scope (compEnvC scope cl C X.env) fp) t1 g1) (ht1 : ∀ (s : Shared) (H : Hp) (C : Addr) (cl : List (Str × Addr)) (fp : List Addr), PTs (X.blk s H scope (compEnvC scope cl C X.env) fp) if1 tt1) (he : ∀ (s : Shared) (H : Hp) (C : Addr) (cl : List (Str × Addr)) (fp : List Addr), PE (X.blk s H scope (compEnvC scope cl C X.env) fp) elt te)
    (hs : ∀ x, foldedSetIterable i0 X.env x = pure x := by intro _; rfl) (hs1 : ∀ env x, foldedSetIterable i1 env x = pure x := by intro _ _; rfl) :
    PE X (sc2 elt t0 i0 t1 i1 if0 if1 scope pos) (tSc2 (fun D => SetO X.w D (fun _ => false) 0) (rSAdd X.w) wi g tt wi1 g1 tt1 te (own.map (·.2)) vs1) :=
  pe_sc2R hc hN hi ok hv hg ht hi1 hg1 ht1 he (fun _ _ => setO_new (setR_fresh X.w)) (fun _ _ _ _ _ => mt_sadd) hs hs1
end
/-- a clause over what a Walk tells: I holds ahead of each turn -/
theorem cl_walk {J : It} {n : Nat} {G0 : Hp → Prop} {Y : Nat → Hp → V → Hp → Prop} {g : TG} {tt : TT} {tb : L2.St → Hp → (Hp → Prop) → Prop} {vs : List Nat} {σ : L2.St} {Z : Hp → Prop} {H : Hp} (w : Walk J n G0 Y) (I : Nat → Hp → Prop) (h0 : I 0 H) (hp : ∀ i G, i ≤ n → I i G → G0 G)
    (turn : ∀ (i : Nat) (x : V) (G G' : Hp), i < n → I i G → Y i G x G' → g x (wipe σ vs) G' fun σ2 H2 => wipe σ2 vs = wipe σ vs ∧ tt σ2 H2 fun b H3 => if b = true then tb σ2 H3 (I (i + 1)) else I (i + 1) H3) (fin : ∀ G, I n G → Z G) :
    tCl g tt tb vs σ Z J H := by
  refine ⟨fun i m G => m = n - i ∧ i ≤ n ∧ I i G, ⟨n, by simp, Nat.zero_le _, h0⟩, ?_⟩
  rintro i m G ⟨rfl, hi, z⟩
  by_cases lt : i < n
  · exact .inr ⟨w.goes i G lt (hp i G hi z), I (i + 1), fun G' z' => ⟨n - (i + 1), by omega, rfl, lt, z'⟩, fun x G' y => turn i x G G' lt z (w.yields i G x G' lt (hp i G hi z) y)⟩
  · obtain rfl : i = n := by omega
    exact .inl ⟨w.stops G (hp i G hi z), fin G z⟩
end KB
set_option Elab.async false
set_option linter.all false
set_option maxRecDepth 100000
set_option maxHeartbeats 4000000
/-! max(xs, default=d), xs a list of ints. -/
namespace KB
open PySem PySem.Spec PyProof.Rows L2
def kwD (dv : Value) : List (Str × Value) := [(Str.ofString "default", dv)]
abbrev mxC (J S : Addr) (dv : Value) : Code := .builtin "max.loop" ⟨[.ref J, .none, .ref S], kwD dv⟩
section
variable {prog : Program} {w : World} {A : Around} {R : Result → Shared → Prop} {J S : Addr} {fq wq : List Addr} {N : Nat} {Iv : Nat → Value → Prop} {Sv : Nat → Heap → Prop} {dv : Value}
theorem mx_name : (toString "max" ++ toString ".loop" : String) = "max.loop" := by decide
/-- what is promised of the end -/
def MxEnd (R : Result → Shared → Prop) (S : Addr) (wq : List Addr) (G : Value → Prop) (s : Shared) : Prop :=
  ∀ (v : Value) (h' : Heap) (tk : Nat), G v → (∀ (b : Addr) (o : Obj), b ∉ wq → b ≠ S → s.heap.get? b = some o → h'.get? b = some o) → R (.ok (.ret v)) { s with heap := h', toks := tk }
theorem MxEnd.on {G : Value → Prop} {s : Shared} {h1 : Heap} {t1 : Nat} (m : MxEnd R S wq G s) (k : ∀ (b : Addr) (o : Obj), b ∉ wq → b ≠ S → s.heap.get? b = some o → h1.get? b = some o) : MxEnd R S wq G { s with heap := h1, toks := t1 } :=
  fun v h' tk g kk => m v h' tk g fun b o n1 n2 e => kk b o n1 n2 (k b o n1 n2 e)
theorem mx_turns (Wk : Walks prog w A.in1 J fq wq N Iv Sv) (bt : Nat → Nat → Bool) (C : CmpOf prog w A.in1 .Gt Iv bt) (nS : S ∉ fq) (d : Nat) : ∀ (i : Nat) (s : Shared) (u : Value) (cap : Nat), N = (i + 1) + d → Sv (i + 1) s.heap → Iv (argBest bt i) u →
    s.heap.get? S = some { cls := .type "list", dict := none, data := .seq #[u, u] cap, slots := #[] } → MxEnd R S wq (Iv (argBest bt (N - 1))) s → codeAny (model prog w) A (mxC J S dv) R s := by
  have nw : S ∉ wq := fun m => nS (Wk.sub _ m)
  induction d with
  | zero =>
    intro i s u cap hN hSt hI hS hE
    have eN : i + 1 = N := by omega
    refine codeAny_builtin PySem.F.entry_max_loop ?_
    rw [Around.under_plainId PySem.F.plain_max_loop _]
    show wpAny _ A.in1 (seqItems? (.ref S) >>= _) _ _ s
    refine wpAny_bind (wpAny_seqItems hS rfl ?_)
    show wpAny _ A.in1 (tryCatch (pyNext (.ref J)) _ >>= _) _ _ s
    refine wpAny_bind (wpAny_tryCatch (Wk.done s _ _ (by rw [← eN]; exact hSt) fun h1 t1 k1 => ?_))
    have hS1 := k1 S _ nw hS
    show wpAny _ A.in1 (updateSeq S (fun _ => #[]) >>= _) _ _ _
    refine wpAny_bind (wpAny_updateSeq hS1 rfl (wpAny_bind (wpAny_letGo (wpAny_pure ?_))))
    refine hE u _ t1 (by rw [← eN]; exact hI) fun b o n1 n2 e => ?_
    exact (Heap.get?_update_other _ _ (Ne.symm n2)).trans (k1 b o n1 e)
  | succ d ih =>
    intro i s u cap hN hSt hI hS hE
    have hi : i + 1 < N := by omega
    refine codeAny_builtin PySem.F.entry_max_loop ?_
    rw [Around.under_plainId PySem.F.plain_max_loop _]
    show wpAny _ A.in1 (seqItems? (.ref S) >>= _) _ _ s
    refine wpAny_bind (wpAny_seqItems hS rfl ?_)
    show wpAny _ A.in1 (tryCatch (pyNext (.ref J)) _ >>= _) _ _ s
    refine wpAny_bind (wpAny_tryCatch (Wk.item (i + 1) s _ _ hi hSt fun v h1 t1 hv hSt1 k1 => ?_))
    have hS1 := k1 S _ nw hS
    show wpAny _ A.in1 (tryCatch (holding [v, v] (richCompare .Gt v u >>= _)) _ >>= _) _ _ _
    refine wpAny_bind (wpAny_tryCatch (wpAny_holding (wpAny_bind (C (i + 1) (argBest bt i) v u _ _ _ hv hI ?_))))
    refine wpAny_bind (wpAny_holding (wpAny_truthy_bool (wpAny_bind (wpAny_letGo (wpAny_pure ?_)))))
    cases q : bt (i + 1) (argBest bt i) with
    | true =>
      have eB : argBest bt (i + 1) = i + 1 := by simp only [argBest, q, if_true]
      simp only [if_true]
      refine wpAny_bind (wpAny_updateSeq hS1 rfl (wpAny_bind (wpAny_letGo ?_)))
      rw [mx_name]
      refine wpAny_pure ⟨plainId_quiet PySem.F.plain_max_loop _, ih (i + 1) _ v _ (by omega) (Wk.frame _ _ _ hSt1 fun b hb o e => ?_) (by rw [eB]; exact hv) (Heap.get?_update_self _ hS1 rfl) (hE.on fun b o n1 n2 e => ?_)⟩
      · exact (Heap.get?_update_other _ _ (fun z : S = b => nS (z ▸ hb))).trans e
      · exact (Heap.get?_update_other _ _ (Ne.symm n2)).trans (k1 b o n1 e)
    | false =>
      have eB : argBest bt (i + 1) = argBest bt i := by simp only [argBest, q, Bool.false_eq_true, if_false]
      simp only [Bool.false_eq_true, if_false]
      refine wpAny_bind (wpAny_letGo ?_)
      rw [mx_name]
      exact wpAny_pure ⟨plainId_quiet PySem.F.plain_max_loop _, ih (i + 1) _ u cap (by omega) hSt1 (by rw [eB]; exact hI) hS1 (hE.on fun b o n1 n2 e => k1 b o n1 e)⟩
/-- from the first turn on -/
theorem mx_first (Wk : Walks prog w A.in1 J fq wq N Iv Sv) (bt : Nat → Nat → Bool) (C : CmpOf prog w A.in1 .Gt Iv bt) (nS : S ∉ fq) {s : Shared} {cap : Nat} (hSt : Sv 0 s.heap)
    (hS : s.heap.get? S = some { cls := .type "list", dict := none, data := .seq #[] cap, slots := #[] }) (h0 : N = 0 → MxEnd R S wq (fun v => v = dv) s) (h1 : 0 < N → MxEnd R S wq (Iv (argBest bt (N - 1))) s) : codeAny (model prog w) A (mxC J S dv) R s := by
  have nw : S ∉ wq := fun m => nS (Wk.sub _ m)
  refine codeAny_builtin PySem.F.entry_max_loop ?_
  rw [Around.under_plainId PySem.F.plain_max_loop _]
  show wpAny _ A.in1 (seqItems? (.ref S) >>= _) _ _ s
  refine wpAny_bind (wpAny_seqItems hS rfl ?_)
  show wpAny _ A.in1 (tryCatch (pyNext (.ref J)) _ >>= _) _ _ s
  rcases Nat.eq_zero_or_pos N with e | hN
  · refine wpAny_bind (wpAny_tryCatch (Wk.done s _ _ (by rw [e]; exact hSt) fun h' tk k' => ?_))
    show wpAny _ A.in1 (rule (toString "max" ++ toString ".default") >>= fun _ => ret dv) _ _ _
    refine wpAny_bind (wpAny_rule ?_)
    exact wpAny_pure (h0 e dv h' tk rfl fun b o n1 n2 ee => k' b o n1 ee)
  · refine wpAny_bind (wpAny_tryCatch (Wk.item 0 s _ _ hN hSt fun v h' tk hv hSt1 k' => ?_))
    have hS1 := k' S _ nw hS
    show wpAny _ A.in1 (updateSeq S (fun _ => #[v, v]) >>= _) _ _ _
    refine wpAny_bind (wpAny_updateSeq hS1 rfl ?_)
    rw [mx_name]
    refine wpAny_pure ⟨plainId_quiet PySem.F.plain_max_loop _, mx_turns Wk bt C nS (N - 1) 0 _ v _ (by omega) (Wk.frame _ _ _ hSt1 fun b hb o e => ?_) hv (Heap.get?_update_self _ hS1 rfl) ((h1 hN).on fun b o n1 n2 e => ?_)⟩
    · exact (Heap.get?_update_other _ _ (fun z : S = b => nS (z ▸ hb))).trans e
    · exact (Heap.get?_update_other _ _ (Ne.symm n2)).trans (k' b o n1 e)
end
section
variable {prog : Program} {w : World} {A : Around} {E : Value → Shared → Prop} {s : Shared} {l : Addr}
theorem mx_args (a v : Value) : argsOk "max" ⟨[a], kwD v⟩ := by unfold argsOk kwD; kernel_rfl
theorem max_dflt {xs : Array (Int × Tok)} {dv : Value} {Q : Value → Shared → Prop} (hh : A.handled = none) (hl : s.heap.IsList l (intItems xs))
    (k0 : xs.size = 0 → ∀ h' tk, (∀ b o, s.heap.get? b = some o → h'.get? b = some o) → Q dv { s with heap := h', toks := tk })
    (k1 : 0 < xs.size → ∀ v h' tk, (intItems xs)[argBest (fun i j => decide (numAt xs i > numAt xs j)) (xs.size - 1)]? = some v → (∀ b o, s.heap.get? b = some o → h'.get? b = some o) → Q v { s with heap := h', toks := tk }) :
    wpAny (model prog w) A (call (.builtin "max") [.ref l] (kwD dv)) Q E s := by
  have fin : wpAny (model prog w) A.in1 (Builtin.«max» ⟨[.ref l], kwD dv⟩) (fun z s' => match z with
      | .done f => (match (Except.ok f : Result) with | .ok (.ret v) => Q v s' | .ok _ => False | .error e => E e s')
      | .again c' => c'.quiet = true ∧ codeAny (model prog w) A c' (fun r s' => match r with | .ok (.ret v) => Q v s' | .ok _ => False | .error e => E e s') s') E s := by
    show wpAny _ A.in1 (Builtin.Builtins.bindParams "max" ["key", "default"] 0 ⟨[], kwD dv⟩ >>= _) _ _ s
    refine wpAny_bind (wpAny_of_eq (show Builtin.Builtins.bindParams "max" ["key", "default"] 0 ⟨[], kwD dv⟩ = pure [none, some dv] from rfl) ?_)
    refine wpAny_bind (wpAny_pure ?_)
    refine wpAny_bind (iter_intList hl fun s2 e hI hlt ne => ?_)
    subst e
    refine wpAny_bind (wpAny_newObj_type ?_)
    rw [mx_name]
    have nS : s.heap.objs.size + 1 ∉ [s.heap.objs.size, l] := fun m => by
      have hl' : l < s.heap.objs.size := by
        obtain ⟨_, e, _⟩ := hl
        exact Heap.lt_size e
      rcases List.mem_cons.mp m with e | m
      · exact absurd e (Nat.succ_ne_self _)
      · rw [List.mem_singleton] at m
        rw [← m] at hl'
        exact Nat.lt_irrefl _ (Nat.lt_of_succ_lt hl')
    have sz : (s.heap.push { cls := .type "list_iterator", data := .fields #[.ref l, .int 0 0] }).objs.size = s.heap.objs.size + 1 := Heap.size_push ..
    have Wk := Walks.list (prog := prog) (w := w) (A := A.in1) hh s.heap.objs.size l ne (intItems xs)
    have old : ∀ (b : Addr) (o : Obj), s.heap.get? b = some o → b ∉ [s.heap.objs.size] ∧ b ≠ s.heap.objs.size + 1 := fun b o e => by
      have := Heap.lt_size e
      refine ⟨fun m => ?_, Nat.ne_of_lt (Nat.lt_succ_of_lt this)⟩
      rw [List.mem_singleton] at m
      exact Nat.ne_of_lt this m
    refine wpAny_pure ⟨plainId_quiet PySem.F.plain_max_loop _, ?_⟩
    rw [sz]
    refine mx_first (S := s.heap.objs.size + 1) (dv := dv) Wk (fun i j => decide (numAt xs i > numAt xs j)) (CmpOf.ints_gt (numAt xs) fun _ _ => intItems_at) nS (Wk.frame _ _ _ hI fun b _ o e => Heap.get?_push_of_some _ e) (by rw [← sz]; exact Heap.get?_push_size _ rfl) (fun h0 v h' tk g k => ?_) (fun h1 v h' tk g k => ?_)
    · subst g
      exact k0 (by simpa [intItems] using h0) h' tk fun b o e => k b o (old b o e).1 (old b o e).2 (Heap.get?_push_of_some _ (Heap.get?_push_of_some _ e))
    · exact k1 (by simpa [intItems] using h1) v h' tk (by simpa [intItems] using g) fun b o e => k b o (old b o e).1 (old b o e).2 (Heap.get?_push_of_some _ (Heap.get?_push_of_some _ e))
  refine wpAny_call (codeAny_call_builtin PySem.F.plain_max PySem.F.entry_max ?_)
  simp only [checkBuiltinCall, PySem.F.kind_max]
  cases q : Manifest.signature? "max" with
  | none => exact wpAny_pure fin
  | some sig =>
    have ha := mx_args (.ref l) dv
    simp only [argsOk, q] at ha
    show wpAny _ A.in1 (Bind.checkArgs "max" sig ⟨[.ref l], kwD dv⟩) _ _ s
    rw [show Bind.checkArgs "max" sig ⟨[.ref l], kwD dv⟩ = pure () from ha]
    exact wpAny_pure fin
end
section
variable {X : Cx}
/-- max(xs, default=d) -/
def rMaxDf (K : PySem.W.Frag) : List V → List V → Hp → VK → Prop := fun vs zs H Q => ∃ (a : Addr) (ns : List Int) (d : Int), vs = [.ref a] ∧ zs = [.int d] ∧ SqL K H a (ns.map V.int) ∧ ∀ m : Int, (ns = [] → m = d) → (ns ≠ [] → m ∈ ns ∧ ∀ y ∈ ns, y ≤ m) → Q (.int m) H
theorem cr_maxDf (hc : X.calm = true) : CallRK X (.builtin "max") [Str.ofString "default"] (rMaxDf X.K) := by
  intro pins s σ H vs zs us ws Q I r rz h
  obtain ⟨a, ns, d, rfl, rfl, hs, q⟩ := h
  obtain ⟨dv, rfl, rd⟩ := rz.one
  obtain ⟨its, rv, hl, _⟩ := I.list hs
  rw [Vals.ref1 r]
  obtain ⟨xs, e⟩ := rv.ints.allInts.items
  have hn : numsOf (intItems xs).toList = ns := by
    rw [← e]
    exact rv.ints.numsOf
  rw [nums_intItems] at hn
  have hl' := hl.isList
  rw [e] at hl'
  have ln : ns.length = xs.size := by rw [← hn, List.length_map, Array.length_toList]
  refine max_dflt (I.ok.hd hc) hl' (fun h0 h' tk k => ?_) (fun h1 v h' tk hv k => ?_)
  · have e0 : ns = [] := List.eq_nil_of_length_eq_zero (by omega)
    exact ⟨.int d, H, I.kept k, rd, q d (fun _ => rfl) fun z => absurd e0 z⟩
  · obtain ⟨t, rfl⟩ := intItems_at hv
    obtain ⟨b1, b2⟩ := argBest_gt (numAt xs) (xs.size - 1)
    have ne : ns ≠ [] := fun z => by
      rw [z] at ln
      simp at ln
      omega
    refine ⟨.int _, H, I.kept k, ⟨_, rfl⟩, q _ (fun z => absurd z ne) fun _ => ⟨?_, fun y hy => ?_⟩⟩
    · rw [numAt_eq, hn]
      exact PySem.getD_mem (by omega)
    · obtain ⟨j, hj, rfl⟩ := mem_getD hy
      rw [← hn, ← numAt_eq]
      exact b2 j (by omega)
end
end KB
set_option Elab.async false
set_option linter.all false
set_option maxRecDepth 100000
set_option maxHeartbeats 4000000
/-! Lives as data; dictionaries from numbers to things. -/
namespace K36
open PySem PySem.Spec PyProof.Rows L2 KB
structure FreeS (mg : Str → Option Value) : Prop extends Free mg where
  verr : mg "ValueError" = none
  tstr : mg "str" = none
  sorted : mg "sorted" = none
theorem SqT_up {K : PySem.W.Frag} {H H' : Hp} {a : Addr} {xs : List V} (k : Same H H') (h : SqT K H a xs) : SqT K H' a xs := by
  rcases h with (h | ⟨o, h⟩) | h
  · exact .inl (.inl (k _ _ h))
  · exact .inl (.inr ⟨o, k _ _ h⟩)
  · exact .inr h
theorem SqT_but {K : PySem.W.Frag} {H H' : Hp} {a pu : Addr} {xs : List V} (k : But pu H H') (h : SqT K H a xs) (q : ∃ ys, H pu = some (.lst ys)) : SqT K H' a xs := by
  obtain ⟨ys, q⟩ := q
  rcases h with (h | ⟨o, h⟩) | h
  · refine .inl (.inl (k _ _ (fun z => ?_) h))
    rw [z, q] at h
    cases h
  · refine .inl (.inr ⟨o, k _ _ (fun z => ?_) h⟩)
    rw [z, q] at h
    cases h
  · exact .inr h
theorem sqT_ty {K : PySem.W.Frag} {H : Hp} {a : Addr} {xs : List V} (h : SqT K H a xs) : TyX K H (.ref a) (.type "tuple") := by
  rcases h with (h | ⟨o, h⟩) | ⟨o, its, n, e1, e2, _⟩
  · exact .base (.tup h)
  · exact .fTuple h
  · exact .kTuple e1 e2
def Ev.v : Ev → List V
  | .line => [.str "line"]
  | .root => [.str "root"]
  | .stand n => [.str "stand", .int (n : Int)]
def Ev.d : Ev → PyData
  | .line => .tuple [.str "line"]
  | .root => .tuple [.str "root"]
  | .stand n => .tuple [.str "stand", .int (n : Int)]
def numsV (l : List Nat) : List V := l.map fun x : Nat => V.int (x : Int)
/-- a dictionary made over what a Walk tells -/
theorem dc_walk {J : It} {n : Nat} {G0 : Hp → Prop} {Y : Nat → Hp → V → Hp → Prop} {g : TG} {tt : TT} {tk tv : TE} {vs : List Nat} {σ : L2.St} {H1 : Hp} {D : Addr} {Z : Hp → Prop} (w : Walk J n G0 Y) (I : Nat → Hp → Prop) (h0 : I 0 (upd H1 D (.dK []))) (hp : ∀ i G, i ≤ n → I i G → G0 G)
    (turn : ∀ (i : Nat) (x : V) (G G' : Hp), i < n → I i G → Y i G x G' → g x (wipe σ vs) G' fun σ2 H2 => wipe σ2 vs = wipe σ vs ∧ tt σ2 H2 fun b H3 =>
      if b = true then tk σ2 H3 fun y H4 => tv σ2 H4 fun z H5 => ∃ kvs k, y = kV k ∧ H5 D = some (.dK kvs) ∧ kvs.length < sizeLine ∧ I (i + 1) (upd H5 D (.dK (putK kvs k z))) else I (i + 1) H3) (fin : ∀ G, I n G → Z G) :
    ∃ W : Nat → Nat → Hp → Prop, (∃ m, W 0 m (upd H1 D (.dK []))) ∧ ∀ i m H, W i m H → (J.stop i H ∧ Z H) ∨ (J.go i H ∧ ∃ Nx : Hp → Prop, (∀ H', Nx H' → ∃ m', m' < m ∧ W (i + 1) m' H') ∧ ∀ x H', J.yld i H x H' → g x (wipe σ vs) H' fun σ2 H2 => wipe σ2 vs = wipe σ vs ∧ tt σ2 H2 fun b H3 =>
      if b = true then tk σ2 H3 fun y H4 => tv σ2 H4 fun z H5 => ∃ kvs k, y = kV k ∧ H5 D = some (.dK kvs) ∧ kvs.length < sizeLine ∧ Nx (upd H5 D (.dK (putK kvs k z))) else Nx H3) := by
  refine ⟨fun i m G => m = n - i ∧ i ≤ n ∧ I i G, ⟨n, by simp, Nat.zero_le _, h0⟩, ?_⟩
  rintro i m G ⟨rfl, hi, z⟩
  by_cases lt : i < n
  · exact .inr ⟨w.goes i G lt (hp i G hi z), I (i + 1), fun G' z' => ⟨n - (i + 1), by omega, rfl, lt, z'⟩, fun x G' y => turn i x G G' lt z (w.yields i G x G' lt (hp i G hi z) y)⟩
  · obtain rfl : i = n := by omega
    exact .inl ⟨w.stops G (hp i G hi z), fin G z⟩
abbrev ky (p : Nat) : Key := Sum.inl (p : Int)
def dV (ps : List Nat) (f : Nat → V) : List (Key × V) := ps.map fun p => (ky p, f p)
theorem ky_inj {p q : Nat} : ky p = ky q ↔ p = q := by
  constructor
  · intro h
    have := Sum.inl.inj h
    omega
  · exact fun h => h ▸ rfl
theorem dV_len (ps : List Nat) (f : Nat → V) : (dV ps f).length = ps.length := List.length_map _
theorem dV_val {ps : List Nat} {f : Nat → V} {p : Nat} (h : p ∈ ps) : valV (dV ps f) (ky p) = some (f p) := by
  induction ps with
  | nil => cases h
  | cons q ps ih =>
    by_cases e : q = p
    · subst e
      exact valV_pos rfl
    · have h' : p ∈ ps := by
        rcases List.mem_cons.mp h with h | h
        · exact absurd h.symm e
        · exact h
      unfold valV at ih ⊢
      have ne : ¬ (ky q = ky p) := fun z => e (ky_inj.mp z)
      show ((dV (q :: ps) f).find? _).map _ = _
      unfold dV
      rw [List.map_cons, List.find?_cons_of_neg (by simpa using ne)]
      exact ih h'
theorem dV_none {ps : List Nat} {f : Nat → V} {p : Nat} (h : p ∉ ps) : valV (dV ps f) (ky p) = none := by
  unfold valV dV
  rw [Option.map_eq_none_iff, List.find?_eq_none]
  intro kv hkv
  obtain ⟨q, hq, rfl⟩ := List.mem_map.mp hkv
  intro z
  exact h (ky_inj.mp (of_decide_eq_true z) ▸ hq)
def put (f : Nat → V) (p : Nat) (v : V) : Nat → V := fun q => if q = p then v else f q
theorem dV_any {ps : List Nat} {f : Nat → V} {p : Nat} : ((dV ps f).any fun kv => decide (kv.1 = ky p)) = decide (p ∈ ps) := by
  unfold dV
  rw [List.any_map]
  by_cases h : p ∈ ps
  · rw [decide_eq_true h, List.any_eq_true]
    exact ⟨p, h, decide_eq_true rfl⟩
  · rw [decide_eq_false h, List.any_eq_false]
    intro q hq z
    exact h (ky_inj.mp (of_decide_eq_true z) ▸ hq)
theorem dV_put {ps : List Nat} {f : Nat → V} {p : Nat} {v : V} (h : p ∈ ps) : putK (dV ps f) (ky p) v = dV ps (put f p v) := by
  unfold putK
  rw [dV_any, decide_eq_true h, if_pos rfl]
  unfold dV
  rw [List.map_map]
  refine List.map_congr_left fun q hq => ?_
  show (if ky q = ky p then (ky q, v) else (ky q, f q)) = (ky q, put f p v q)
  unfold put
  by_cases e : q = p
  · rw [if_pos e, if_pos (ky_inj.mpr e)]
  · rw [if_neg e, if_neg fun z => e (ky_inj.mp z)]
theorem dV_new {ps : List Nat} {f : Nat → V} {p : Nat} {v : V} (h : p ∉ ps) : putK (dV ps f) (ky p) v = dV (ps ++ [p]) (put f p v) := by
  unfold putK
  rw [dV_any, decide_eq_false h, if_neg Bool.false_ne_true]
  unfold dV
  rw [List.map_append]
  refine congr (congrArg _ (List.map_congr_left fun q hq => ?_)) ?_
  · unfold put
    rw [if_neg (fun e : q = p => h (e ▸ hq))]
  · simp [put]
theorem dV_congr {ps : List Nat} {f g : Nat → V} (h : ∀ p ∈ ps, f p = g p) : dV ps f = dV ps g := List.map_congr_left fun p hp => by rw [h p hp]
/-- marks: a number for each page -/
abbrev mV (ps : List Nat) (m : Nat → Nat) : List (Key × V) := dV ps fun p => .int (m p : Int)
def putN (m : Nat → Nat) (p n : Nat) : Nat → Nat := fun q => if q = p then n else m q
theorem mV_put {ps : List Nat} {m : Nat → Nat} {p n : Nat} (h : p ∈ ps) : putK (mV ps m) (ky p) (.int (n : Int)) = mV ps (putN m p n) := by
  rw [dV_put h]
  refine dV_congr fun q _ => ?_
  unfold put putN
  by_cases e : q = p
  · rw [if_pos e, if_pos e]
  · rw [if_neg e, if_neg e]
theorem merge_dV : ∀ {qs ps : List Nat} {f : Nat → V}, (ps ++ qs).Nodup → mergeK (dV ps f) (dV qs f) = dV (ps ++ qs) f
  | [], ps, f, _ => by
    rw [List.append_nil]
    rfl
  | q :: qs, ps, f, h => by
    have nq : q ∉ ps := fun m => by
      have := List.nodup_append.mp h
      exact this.2.2 q m q List.mem_cons_self rfl
    have e : mergeK (dV ps f) (dV (q :: qs) f) = mergeK (putK (dV ps f) (ky q) (f q)) (dV qs f) := rfl
    have e2 : dV (ps ++ [q]) (put f q (f q)) = dV (ps ++ [q]) f := dV_congr fun p _ => by
      unfold put
      split
      · next z => rw [z]
      · rfl
    rw [e, dV_new nq, e2, merge_dV (by rw [List.append_assoc]; exact h), List.append_assoc]
    rfl
theorem merge_dV0 {qs : List Nat} {f : Nat → V} (h : qs.Nodup) : mergeK [] (dV qs f) = dV qs f := merge_dV (ps := []) h
end K36
set_option Elab.async false
set_option linter.all false
namespace KB
open PySem PySem.Spec PyProof.Rows L2
/-- all but what stands at D -/
def off (H : Hp) (D : Addr) : Hp := fun b => if b = D then none else H b
theorem off_at {H : Hp} {D b : Addr} (n : b ≠ D) : off H D b = H b := if_neg n
theorem off_same {H H' : Hp} (D : Addr) (k : Same H H') : Same (off H D) (off H' D) := fun b o e => by
  by_cases n : b = D
  · unfold off at e
    rw [if_pos n] at e
    cases e
  · rw [off_at n] at e ⊢
    exact k _ _ e
theorem off_le (H : Hp) (D : Addr) : Same (off H D) H := fun b o e => by
  by_cases n : b = D
  · unfold off at e
    rw [if_pos n] at e
    cases e
  · rw [off_at n] at e
    exact e
theorem off_upd (H : Hp) (D : Addr) (o : HO) : off (upd H D o) D = off H D := by
  funext b
  unfold off
  by_cases n : b = D
  · rw [if_pos n, if_pos n]
  · rw [if_neg n, if_neg n, upd_ne n]
theorem off_in {H G : Hp} {D : Addr} (k : Same H G) (n : H D = none) : Same H (off G D) := fun b o e => by
  rw [off_at (ne_of_none e n)]
  exact k b o e
end KB
set_option Elab.async false
set_option linter.all false
set_option maxRecDepth 100000
set_option maxHeartbeats 8000000
namespace K36
open PySem PySem.Spec PyProof.Rows L2 KB RZ
abbrev s_exact : Stmt := top 52
abbrev N_exact : List Str := ["_law_mine", "_law_theirs", "_law_alike", "_law_a", "_law_b", "_law_key"]
theorem sc_exact : FnScope N_exact ["_law_mine", "_law_theirs"] (defScope s_exact) := ⟨rfl, rfl, rfl, by decide +kernel, rfl, by decide +kernel, by decide +kernel⟩
/-- as Tr, with dictionaries of marks -/
def TD (K : PySem.W.Frag) (H : Hp) : Nat → V → PyData → Prop
  | 0, x, d => FlatD x d
  | n + 1, x, d => FlatD x d ∨ (∃ (a : Addr) (xs : List V) (ds : List PyData), x = .ref a ∧ xs.length = ds.length ∧ ds.length ≤ 1000 ∧ ((H a = some (.lst xs) ∧ d = .list ds) ∨ (SqT K H a xs ∧ d = .tuple ds)) ∧
      ∀ (i : Nat) (u : V) (e : PyData), xs[i]? = some u → ds[i]? = some e → TD K H n u e) ∨ ∃ (a : Addr) (ps : List Nat) (m : Nat → Nat), x = .ref a ∧ (1 ≤ n ∧ ps.length ≤ 1000 ∧ ps.Nodup) ∧ H a = some (.dK (mV ps m)) ∧ d = .dict (ps.map fun p : Nat => (.int (p : Int), .int (m p : Int)))
theorem TD.same {K : PySem.W.Frag} {H H' : Hp} (k : Same H H') : ∀ {n : Nat} {x : V} {d : PyData}, TD K H n x d → TD K H' n x d
  | 0, _, _, h => h
  | n + 1, _, _, h => by
    rcases h with h | ⟨a, xs, ds, e, l, l1, t, c⟩ | ⟨a, ps, m, e, n1, ha, ed⟩
    · exact .inl h
    · refine .inr (.inl ⟨a, xs, ds, e, l, l1, ?_, fun i u v e1 e2 => TD.same k (c i u v e1 e2)⟩)
      rcases t with ⟨t1, t2⟩ | ⟨t1, t2⟩
      · exact .inl ⟨k _ _ t1, t2⟩
      · exact .inr ⟨SqT_up k t1, t2⟩
    · exact .inr (.inr ⟨a, ps, m, e, n1, k _ _ ha, ed⟩)
theorem TD.of {K : PySem.W.Frag} {H : Hp} : ∀ {n : Nat} {x : V} {d : PyData}, Tr H n x d → TD K H n x d
  | 0, _, _, h => h
  | n + 1, _, _, h => by
    rcases h with h | ⟨a, xs, ds, e, l, l1, t, c⟩
    · exact .inl h
    · exact .inr (.inl ⟨a, xs, ds, e, l, l1, t.imp id (fun z => ⟨SqT.of z.1, z.2⟩), fun i u v e1 e2 => TD.of (c i u v e1 e2)⟩)
theorem TD.up {K : PySem.W.Frag} {H : Hp} : ∀ {n : Nat} {x : V} {d : PyData}, TD K H n x d → TD K H (n + 1) x d
  | 0, _, _, h => .inl h
  | n + 1, _, _, h => by
    rcases h with h | ⟨a, xs, ds, e, l, l1, t, c⟩ | h
    · exact .inl h
    · exact .inr (.inl ⟨a, xs, ds, e, l, l1, t, fun i u v e1 e2 => TD.up (c i u v e1 e2)⟩)
    · obtain ⟨a, ps, m, e, n1, r⟩ := h
      exact .inr (.inr ⟨a, ps, m, e, ⟨by omega, n1.2⟩, r⟩)
theorem TD.lst {K : PySem.W.Frag} {H : Hp} {n : Nat} {a : Addr} {xs : List V} {ds : List PyData} (h : H a = some (.lst xs)) (l : xs.length = ds.length) (s : ds.length ≤ 1000) (k : ∀ (i : Nat) (u : V) (e : PyData), xs[i]? = some u → ds[i]? = some e → TD K H n u e) : TD K H (n + 1) (.ref a) (.list ds) :=
  .inr (.inl ⟨a, xs, ds, rfl, l, s, .inl ⟨h, rfl⟩, k⟩)
theorem TD.dct {K : PySem.W.Frag} {H : Hp} {n : Nat} {a : Addr} {ps : List Nat} {m : Nat → Nat} (h : H a = some (.dK (mV ps m))) (l : ps.length ≤ 1000) (nd : ps.Nodup) : TD K H (n + 2) (.ref a) (.dict (ps.map fun p : Nat => (.int (p : Int), .int (m p : Int)))) := .inr (.inr ⟨a, ps, m, rfl, ⟨by omega, l, nd⟩, h, rfl⟩)
theorem TD.flat {K : PySem.W.Frag} {H : Hp} {n : Nat} {x : V} {d : PyData} (h : FlatD x d) : TD K H n x d := by
  cases n with
  | zero => exact h
  | succ n => exact .inl h
theorem td_cons {K : PySem.W.Frag} {H : Hp} {n : Nat} {x : V} {xs : List V} {d : PyData} {ds : List PyData} (h : TD K H n x d) (k : ∀ (i : Nat) (u : V) (e : PyData), xs[i]? = some u → ds[i]? = some e → TD K H n u e) : ∀ (i : Nat) (u : V) (e : PyData), (x :: xs)[i]? = some u → (d :: ds)[i]? = some e → TD K H n u e := fun i u e h1 h2 => by
  cases i with
  | zero =>
    cases h1
    cases h2
    exact h
  | succ i => exact k i u e h1 h2
theorem td_nil {K : PySem.W.Frag} {H : Hp} {n : Nat} : ∀ (i : Nat) (u : V) (e : PyData), ([] : List V)[i]? = some u → ([] : List PyData)[i]? = some e → TD K H n u e := fun i u e h1 h2 => by simp at h1
theorem dict_inj : ∀ {ps qs : List Nat} {m m' : Nat → Nat}, (ps.map fun p : Nat => (PyData.int (p : Int), PyData.int (m p : Int))) = (qs.map fun p : Nat => (PyData.int (p : Int), PyData.int (m' p : Int))) → ps = qs ∧ ∀ p ∈ ps, m p = m' p
  | [], [], _, _, _ => ⟨rfl, fun p h => nomatch h⟩
  | [], q :: qs, _, _, e => by cases e
  | p :: ps, [], _, _, e => by cases e
  | p :: ps, q :: qs, m, m', e => by
    rw [List.map_cons, List.map_cons] at e
    obtain ⟨e1, e2⟩ := List.cons.inj e
    have h1 := PyData.int.inj (congrArg Prod.fst e1)
    have h2 := PyData.int.inj (congrArg Prod.snd e1)
    have hp : p = q := by omega
    subst hp
    obtain ⟨h3, h4⟩ := dict_inj e2
    refine ⟨by rw [h3], fun r hr => ?_⟩
    rcases List.mem_cons.mp hr with rfl | hr
    · omega
    · exact h4 r hr
theorem mV_val {ps : List Nat} {m : Nat → Nat} {p : Nat} (h : p ∈ ps) : valV (mV ps m) (ky p) = some (.int (m p : Int)) := dV_val h
def spExactD (K : PySem.W.Frag) (n : Nat) : Sp := fun vs H Q _ => ∃ (x y : V) (d : PyData), vs = [x, y] ∧ TD K H n x d ∧ TD K H n y d ∧ ∀ H', Same H H' → Q (.bl true) H'
section
variable {P : Program} {w : World} {K : PySem.W.Frag} {mg : Str → Option Value} {base : Heap} {f : Addr} {fd : FuncData}
theorem ok_exact (F : FnP K "_law_exact" s_exact f fd) (Z : FreeS mg) (gE : mg "_law_exact" = some (.ref f)) : ∀ n : Nat, FnOk P w K mg base CX0 (n + 1) f fd ["_law_mine", "_law_theirs"] (spExactD K n) := by
  have bE : Binds K fd ["_law_mine", "_law_theirs"] [] := F.bindsN fun _ _ _ _ _ _ us hl => match us, hl with | [_, _], _ => rfl
  have kitF : ∀ {t : String}, kitB t "list" = some false → kitB t "tuple" = some false → PySem.W.kitAny K (.type t) [.type "list", .type "tuple"] = some false := fun h1 h2 =>
    kitAny_cons (kit_ty h1) (fun _ => kitAny_cons (kit_ty h2) (fun _ => kitAny_nil) (fun z => nomatch z)) (fun z => nomatch z)
  have la : kitB "list" "list" = some true := by decide +kernel
  have lt : kitB "list" "tuple" = some false := by decide +kernel
  have ta : kitB "tuple" "tuple" = some true := by decide +kernel
  have tl : kitB "tuple" "list" = some false := by decide +kernel
  intro n
  induction n with
  | zero =>
    refine F.ok sc_exact (fun vs H Q E h => ?_) (fun cdv A outer s H vs Q E hr h => ?_)
    · obtain ⟨x, y, d, rfl, _⟩ := h
      rfl
    · obtain ⟨x, y, d, rfl, hx, hy, k⟩ := h
      have hx : FlatD x d := hx
      obtain rfl : y = x := FlatD.eq hy hx
      have nd := sc_exact.nd
      refine ⟨_, PSs.nox (pss_cons (ps_if (pt_val (pe_callB call_isiT (by rfl) Z.isi (by decide +kernel) (pa_cons (pv 0) (pa_cons (pe_tup (pa_cons (pe_bltn (v := .ty "list") (by rfl) Z.tlist (by decide +kernel) rfl) (pa_cons (pe_bltn (v := .ty "tuple") (by rfl) Z.ttuple (by decide +kernel) rfl) (pa_nil)))) pa_nil)))) (pss_cons ps_dead (pss_one ps_dead)) (pss_nil))
      (pss_cons (ps_if (pt_val (pe_callB call_isi (by rfl) Z.isi (by decide +kernel) (pa_cons (pv 0) (pa_cons (pe_bltn (v := .ty "dict") (by rfl) Z.tdict (by decide +kernel) rfl) pa_nil)))) (pss_cons ps_dead (pss_one ps_dead)) (pss_nil))
      (pss_cons (ps_set (i := 2) nd rfl (Or.inl rfl) (pe_cmpR op_eq (pe_callB call_isi (by rfl) Z.isi (by decide +kernel) (pa_cons (pv 0) (pa_cons (pe_bltn (v := .ty "int") (by rfl) Z.int (by decide +kernel) rfl) pa_nil))) (pe_callB call_isi (by rfl) Z.isi (by decide +kernel) (pa_cons (pv 1) (pa_cons (pe_bltn (v := .ty "int") (by rfl) Z.int (by decide +kernel) rfl) pa_nil))) (nomark _)))
      (pss_one (ps_ret (pe_and (pv 2) (pe_and (pe_cmpR op_eq (pe_callB call_isi (by rfl) Z.isi (by decide +kernel) (pa_cons (pv 0) (pa_cons (pe_bltn (v := .ty "bool") (by rfl) Z.tbool (by decide +kernel) rfl) pa_nil))) (pe_callB call_isi (by rfl) Z.isi (by decide +kernel) (pa_cons (pv 1) (pa_cons (pe_bltn (v := .ty "bool") (by rfl) Z.tbool (by decide +kernel) rfl) pa_nil))) (nomark _)) (pe_one (pe_cmpR op_eq (pv 0) (pv 1) (nomark _)))))))))), ?_⟩
      refine ⟨_, rfl, (by show 2 ≤ sizeLine; decide), fun T hT => ?_⟩
      have s1 : Same H (upd H T (.tup [.ty "list", .ty "tuple"])) := Same.updf hT
      obtain ⟨t', ty', k1', k2', k3', i', b', k4', k5'⟩ := FlatD.ty (K := K) (H := upd H T (.tup [.ty "list", .ty "tuple"])) hx
      refine ⟨y, T, [.ty "list", .ty "tuple"], .type t', [.type "list", .type "tuple"], false, rfl, upd_same, .cons (.ty _) (.cons (.ty _) .nil), ty', kitF k1' k2', false, rfl, iteF ?_⟩
      refine ⟨_, rfl, y, .ty "dict", .type t', .type "dict", false, rfl, .ty _, ty', kit_ty k3', false, rfl, iteF ?_⟩
      refine ⟨_, rfl, y, .ty "int", .type t', .type "int", i', rfl, .ty _, ty', kit_ty k4', _, rfl, y, .ty "int", .type t', .type "int", i', rfl, .ty _, ty', kit_ty k4', rfl, ?_⟩
      rw [decide_eq_true (rfl : V.bl i' = V.bl i')]
      refine ⟨_, rfl, true, rfl, iteT ?_⟩
      refine ⟨_, rfl, y, .ty "bool", .type t', .type "bool", b', rfl, .ty _, ty', kit_ty k5', _, rfl, y, .ty "bool", .type t', .type "bool", b', rfl, .ty _, ty', kit_ty k5', rfl, ?_⟩
      rw [decide_eq_true (rfl : V.bl b' = V.bl b')]
      refine ⟨true, rfl, iteT ?_⟩
      refine ⟨_, rfl, _, rfl, FlatD.scal hx, ?_⟩
      rw [decide_eq_true (rfl : y = y)]
      exact k _ s1
  | succ n ih =>
    refine F.ok sc_exact (fun vs H Q E h => ?_) (fun cdv A outer s H vs Q E hr h => ?_)
    · obtain ⟨x, y, d, rfl, _⟩ := h
      rfl
    · obtain ⟨x, y, d, rfl, hx, hy, k⟩ := h
      have hu : (A.deeper (envOfC "_law_exact" (defScope s_exact) s.heap.objs.size f cdv)).units + 1 < cLine := by
        have := hr.units
        omega
      have nd := sc_exact.nd
      refine ⟨_, PSs.nox (pss_cons (ps_if (pt_val (pe_callB call_isiT (by rfl) Z.isi (by decide +kernel) (pa_cons (pv 0) (pa_cons (pe_tup (pa_cons (pe_bltn (v := .ty "list") (by rfl) Z.tlist (by decide +kernel) rfl) (pa_cons (pe_bltn (v := .ty "tuple") (by rfl) Z.ttuple (by decide +kernel) rfl) (pa_nil)))) pa_nil)))) (pss_cons (ps_set (i := 2) nd rfl (Or.inl rfl) (pe_and (pe_cmpR op_eq (pe_callB call_isi (by rfl) Z.isi (by decide +kernel) (pa_cons (pv 1) (pa_cons (pe_bltn (v := .ty "list") (by rfl) Z.tlist (by decide +kernel) rfl) pa_nil))) (pe_callB call_isi (by rfl) Z.isi (by decide +kernel) (pa_cons (pv 0) (pa_cons (pe_bltn (v := .ty "list") (by rfl) Z.tlist (by decide +kernel) rfl) pa_nil))) (nomark _)) (pe_one (pe_cmpR op_eq (pe_callB call_isi (by rfl) Z.isi (by decide +kernel) (pa_cons (pv 1) (pa_cons (pe_bltn (v := .ty "tuple") (by rfl) Z.ttuple (by decide +kernel) rfl) pa_nil))) (pe_callB call_isi (by rfl) Z.isi (by decide +kernel) (pa_cons (pv 0) (pa_cons (pe_bltn (v := .ty "tuple") (by rfl) Z.ttuple (by decide +kernel) rfl) pa_nil))) (nomark _)))))
      (pss_one (ps_ret (pe_and (pv 2) (pe_and (pe_cmpR op_eq (pe_callB call_len_seq (by rfl) Z.len (by decide +kernel) (pa_cons (pv 0) (pa_nil))) (pe_callB call_len_seq (by rfl) Z.len (by decide +kernel) (pa_cons (pv 1) (pa_nil))) (nomark _)) (pe_one (pe_callB (cr_all rfl) (by rfl) Z.all (by decide +kernel) (pa_cons (pe_lc (own := [("_law_a", 3), ("_law_b", 4)]) (g := gTup K 2 (gCons (gName 3) (gCons (gName 4) (gNil)))) (tt := tYes) (te := tCall (spExactD K n) [] E0 (tCons (tVar 3) (tCons (tVar 4) tNil))) (by rfl) nd (pi_zipA (by rfl) Z.zip (pa_cons (pv 0) (pa_cons (pv 1) pa_nil)))
          (blkOk_by (own := [("_law_a", 3), ("_law_b", 4)]) (N := N_exact) (sc := defScope s_exact) (by decide +kernel)) (fun _ _ _ _ _ => pg_tup rfl (pgs_cons (pg_name (i := 3) nd rfl (Or.inl rfl)) (pgs_cons (pg_name (i := 4) nd rfl (Or.inl rfl)) (pgs_nil)))) (fun _ _ _ _ _ => pts_nil)
          (fun _ _ _ _ _ => pe_call ih hr rfl gE F.kp bE .nil pass0 (pa_cons (pv 3) (pa_cons (pv 4) pa_nil)))) (pa_nil))))))))) (pss_nil))
      (pss_cons (ps_if (pt_val (pe_callB call_isi (by rfl) Z.isi (by decide +kernel) (pa_cons (pv 0) (pa_cons (pe_bltn (v := .ty "dict") (by rfl) Z.tdict (by decide +kernel) rfl) pa_nil)))) (pss_cons (ps_set (i := 2) nd rfl (Or.inl rfl) (pe_and (pe_callB call_isi (by rfl) Z.isi (by decide +kernel) (pa_cons (pv 1) (pa_cons (pe_bltn (v := .ty "dict") (by rfl) Z.tdict (by decide +kernel) rfl) pa_nil))) (pe_one (pe_call ih hr rfl gE F.kp bE .nil pass0 (pa_cons (pe_callTy (call_list_dK rfl) (by rfl) Z.tlist (by decide +kernel) (pa_cons (pv 0) pa_nil)) (pa_cons (pe_callTy (call_list_dK rfl) (by rfl) Z.tlist (by decide +kernel) (pa_cons (pv 1) pa_nil)) pa_nil))))))
      (pss_one (ps_ret (pe_and (pv 2) (pe_one (pe_callB (cr_all rfl) (by rfl) Z.all (by decide +kernel) (pa_cons (pe_lock (pe_lc (own := [("_law_key", 5)]) (g := gName 5) (tt := tYes) (te := tCall (spExactD K n) [] E0 (tCons (tDGet (tVar 0) (tVar 5)) (tCons (tDGet (tVar 1) (tVar 5)) tNil))) (by rfl) nd (pi_keys (pv 0))
          (blkOk_by (own := [("_law_key", 5)]) (N := N_exact) (sc := defScope s_exact) (by decide +kernel)) (fun _ _ _ _ _ => pg_name (i := 5) nd rfl (Or.inl rfl)) (fun _ _ _ _ _ => pts_nil)
          (fun _ _ _ _ _ => pe_call ih hr rfl gE F.kp bE .nil pass0 (pa_cons (pe_dget hu (pv 0) (pv 5) (fun _ _ => rfl)) (pa_cons (pe_dget hu (pv 1) (pv 5) (fun _ _ => rfl)) pa_nil))))) (pa_nil)))))))) (pss_nil))
      (pss_cons (ps_set (i := 2) nd rfl (Or.inl rfl) (pe_cmpR op_eq (pe_callB call_isi (by rfl) Z.isi (by decide +kernel) (pa_cons (pv 0) (pa_cons (pe_bltn (v := .ty "int") (by rfl) Z.int (by decide +kernel) rfl) pa_nil))) (pe_callB call_isi (by rfl) Z.isi (by decide +kernel) (pa_cons (pv 1) (pa_cons (pe_bltn (v := .ty "int") (by rfl) Z.int (by decide +kernel) rfl) pa_nil))) (nomark _)))
      (pss_one (ps_ret (pe_and (pv 2) (pe_and (pe_cmpR op_eq (pe_callB call_isi (by rfl) Z.isi (by decide +kernel) (pa_cons (pv 0) (pa_cons (pe_bltn (v := .ty "bool") (by rfl) Z.tbool (by decide +kernel) rfl) pa_nil))) (pe_callB call_isi (by rfl) Z.isi (by decide +kernel) (pa_cons (pv 1) (pa_cons (pe_bltn (v := .ty "bool") (by rfl) Z.tbool (by decide +kernel) rfl) pa_nil))) (nomark _)) (pe_one (pe_cmpR op_eq (pv 0) (pv 1) (nomark _)))))))))), ?_⟩
      rcases hx with hx | ⟨a, xs, ds, rfl, lx, l1, tx, kx⟩ | ⟨a, ps, m, rfl, n1, ha, rfl⟩
      · have hy : FlatD y d := by
          rcases hy with hy | ⟨b, ys, es, rfl, ly, l2, ty, ky⟩ | ⟨b, qs, m', rfl, _, hb, rfl⟩
          · exact hy
          · rcases ty with ⟨_, rfl⟩ | ⟨_, rfl⟩
            · exact (FlatD.noL hx).elim
            · exact (FlatD.noT hx).elim
          · cases hx
        obtain rfl : y = x := FlatD.eq hy hx
        refine ⟨_, rfl, (by show 2 ≤ sizeLine; decide), fun T hT => ?_⟩
        have s1 : Same H (upd H T (.tup [.ty "list", .ty "tuple"])) := Same.updf hT
        obtain ⟨t', ty', k1', k2', k3', i', b', k4', k5'⟩ := FlatD.ty (K := K) (H := upd H T (.tup [.ty "list", .ty "tuple"])) hx
        refine ⟨y, T, [.ty "list", .ty "tuple"], .type t', [.type "list", .type "tuple"], false, rfl, upd_same, .cons (.ty _) (.cons (.ty _) .nil), ty', kitF k1' k2', false, rfl, iteF ?_⟩
        refine ⟨_, rfl, y, .ty "dict", .type t', .type "dict", false, rfl, .ty _, ty', kit_ty k3', false, rfl, iteF ?_⟩
        refine ⟨_, rfl, y, .ty "int", .type t', .type "int", i', rfl, .ty _, ty', kit_ty k4', _, rfl, y, .ty "int", .type t', .type "int", i', rfl, .ty _, ty', kit_ty k4', rfl, ?_⟩
        rw [decide_eq_true (rfl : V.bl i' = V.bl i')]
        refine ⟨_, rfl, true, rfl, iteT ?_⟩
        refine ⟨_, rfl, y, .ty "bool", .type t', .type "bool", b', rfl, .ty _, ty', kit_ty k5', _, rfl, y, .ty "bool", .type t', .type "bool", b', rfl, .ty _, ty', kit_ty k5', rfl, ?_⟩
        rw [decide_eq_true (rfl : V.bl b' = V.bl b')]
        refine ⟨true, rfl, iteT ?_⟩
        refine ⟨_, rfl, _, rfl, FlatD.scal hx, ?_⟩
        rw [decide_eq_true (rfl : y = y)]
        exact k _ s1
      · rcases hy with hy | ⟨b, ys, es, rfl, ly, l2, ty, ky⟩ | ⟨b, qs, m', rfl, _, hb, e⟩
        · rcases tx with ⟨_, rfl⟩ | ⟨_, rfl⟩
          · exact (FlatD.noL hy).elim
          · exact (FlatD.noT hy).elim
        rotate_left
        · rcases tx with ⟨_, rfl⟩ | ⟨_, rfl⟩ <;> cases e
        refine ⟨_, rfl, (by show 2 ≤ sizeLine; decide), fun T hT => ?_⟩
        have s1 : Same H (upd H T (.tup [.ty "list", .ty "tuple"])) := Same.updf hT
        have ll : (1000 : Nat) ≤ 100000 := by decide
        have fin : ∀ (H2 : Hp), Same H H2 → ∀ (D : Addr), H2 D = some (.lst ((List.range xs.length).filterMap fun _ => some (V.bl true))) → ∃ (a : Addr) (bs : List Bool), [V.ref D] = [V.ref a] ∧ SqL K H2 a (bs.map V.bl) ∧ Q (.bl (bs.all id)) H2 := fun H2 s2 D hR => by
          obtain ⟨bs, hB, hb'⟩ := all_bits (K := K) hR
          refine ⟨D, bs, rfl, hB, ?_⟩
          rw [hb']
          exact k H2 s2
        rcases tx with ⟨ha, rfl⟩ | ⟨ha, rfl⟩
        · rcases ty with ⟨hb, e⟩ | ⟨hb, e⟩
          · cases e
            have ha1 := s1 _ _ ha
            have hb1 := s1 _ _ hb
            refine ⟨.ref a, T, [.ty "list", .ty "tuple"], .type "list", [.type "list", .type "tuple"], true, rfl, upd_same, .cons (.ty _) (.cons (.ty _) .nil), .base (.lst ha1), kitAny_cons (kit_ty la) (fun z => nomatch z) (fun _ => rfl), true, rfl, iteT ?_⟩
            refine ⟨_, rfl, .ref b, .ty "list", .type "list", .type "list", true, rfl, .ty _, .base (.lst hb1), kit_ty la, _, rfl, .ref a, .ty "list", .type "list", .type "list", true, rfl, .ty _, .base (.lst ha1), kit_ty la, rfl, true, rfl, iteT ?_⟩
            refine ⟨_, rfl, .ref b, .ty "tuple", .type "list", .type "tuple", false, rfl, .ty _, .base (.lst hb1), kit_ty lt, _, rfl, .ref a, .ty "tuple", .type "list", .type "tuple", false, rfl, .ty _, .base (.lst ha1), kit_ty lt, rfl, ?_⟩
            refine ⟨_, rfl, true, rfl, iteT ?_⟩
            refine ⟨_, rfl, a, xs, rfl, Or.inl (SqL.of ha1), _, rfl, b, ys, rfl, Or.inl (SqL.of hb1), rfl, ?_⟩
            rw [decide_eq_true (show V.int (xs.length : Int) = V.int (ys.length : Int) by rw [lx, ly])]
            refine ⟨true, rfl, iteT ?_⟩
            refine ⟨_, rfl, _, rfl, a, b, xs, ys, rfl, Or.inl ⟨SqL.of ha1, SqL.of hb1, fun D hD => ?_⟩⟩
            refine lc_sel (n := xs.length) (walk_zip (K := K) (a := a) (b := b) (xs := xs) (ys := ys) (by omega)) (fun _ => some (.bl true)) (by omega) hD (fun H2 s2 => ⟨SqL.of (s2 _ _ ha1), SqL.of (s2 _ _ hb1)⟩) ?_ ?_
            · rintro i v H2 H3 Qy Qn hi sH ⟨T2, x1, x2, rfl, nT, rfl, g1, g2⟩ ky' kn
              dsimp only at g1 g2
              refine ⟨T2, [_, _], rfl, .inl (.inl upd_same), rfl, _, [_], rfl, _, [], rfl, rfl, ?_⟩
              have sT : Same H2 (upd H2 T2 (.tup [x1, x2])) := Same.updf nT
              have gd : ds[i]? = some (ds[i]'(by omega)) := List.getElem?_eq_getElem _
              exact ⟨rfl, _, rfl, _, rfl, x1, x2, _, rfl, (kx i x1 _ g1 gd).same (s1.trans (sH.trans sT)), (ky i x2 _ g2 gd).same (s1.trans (sH.trans sT)), fun H5 s5 => ky' _ _ (sT.trans s5) rfl⟩
            · intro H2 s2 hR
              exact fin H2 (s1.trans s2) D hR
          · cases e
        · rcases ty with ⟨hb, e⟩ | ⟨hb, e⟩
          · cases e
          · cases e
            have ha1 := SqT_up s1 ha
            have hb1 := SqT_up s1 hb
            refine ⟨.ref a, T, [.ty "list", .ty "tuple"], .type "tuple", [.type "list", .type "tuple"], true, rfl, upd_same, .cons (.ty _) (.cons (.ty _) .nil), sqT_ty ha1, kitAny_cons (kit_ty tl) (fun _ => kitAny_cons (kit_ty ta) (fun z => nomatch z) (fun _ => rfl)) (fun z => nomatch z), true, rfl, iteT ?_⟩
            refine ⟨_, rfl, .ref b, .ty "list", .type "tuple", .type "list", false, rfl, .ty _, sqT_ty hb1, kit_ty tl, _, rfl, .ref a, .ty "list", .type "tuple", .type "list", false, rfl, .ty _, sqT_ty ha1, kit_ty tl, rfl, true, rfl, iteT ?_⟩
            refine ⟨_, rfl, .ref b, .ty "tuple", .type "tuple", .type "tuple", true, rfl, .ty _, sqT_ty hb1, kit_ty ta, _, rfl, .ref a, .ty "tuple", .type "tuple", .type "tuple", true, rfl, .ty _, sqT_ty ha1, kit_ty ta, rfl, ?_⟩
            refine ⟨_, rfl, true, rfl, iteT ?_⟩
            refine ⟨_, rfl, a, xs, rfl, Or.inr ha1, _, rfl, b, ys, rfl, Or.inr hb1, rfl, ?_⟩
            rw [decide_eq_true (show V.int (xs.length : Int) = V.int (ys.length : Int) by rw [lx, ly])]
            refine ⟨true, rfl, iteT ?_⟩
            refine ⟨_, rfl, _, rfl, a, b, xs, ys, rfl, Or.inr ⟨ha1, hb1, fun D hD => ?_⟩⟩
            refine lc_sel (n := xs.length) (walk_zipT (K := K) (a := a) (b := b) (xs := xs) (ys := ys) (by omega)) (fun _ => some (.bl true)) (by omega) hD (fun H2 s2 => ⟨SqT_up s2 ha1, SqT_up s2 hb1⟩) ?_ ?_
            · rintro i v H2 H3 Qy Qn hi sH ⟨T2, x1, x2, rfl, nT, rfl, g1, g2⟩ ky' kn
              dsimp only at g1 g2
              refine ⟨T2, [_, _], rfl, .inl (.inl upd_same), rfl, _, [_], rfl, _, [], rfl, rfl, ?_⟩
              have sT : Same H2 (upd H2 T2 (.tup [x1, x2])) := Same.updf nT
              have gd : ds[i]? = some (ds[i]'(by omega)) := List.getElem?_eq_getElem _
              exact ⟨rfl, _, rfl, _, rfl, x1, x2, _, rfl, (kx i x1 _ g1 gd).same (s1.trans (sH.trans sT)), (ky i x2 _ g2 gd).same (s1.trans (sH.trans sT)), fun H5 s5 => ky' _ _ (sT.trans s5) rfl⟩
            · intro H2 s2 hR
              exact fin H2 (s1.trans s2) D hR
      · rcases hy with hy | ⟨b, ys, es, rfl, ly, l2, ty, ky⟩ | ⟨b, qs, m', rfl, _, hb, e⟩
        · cases hy
        · rcases ty with ⟨_, e⟩ | ⟨_, e⟩ <;> cases e
        obtain ⟨rfl, em⟩ := dict_inj (PyData.dict.inj e)
        refine ⟨_, rfl, (by show 2 ≤ sizeLine; decide), fun T hT => ?_⟩
        have s1 : Same H (upd H T (.tup [.ty "list", .ty "tuple"])) := Same.updf hT
        have ha1 := s1 _ _ ha
        have hb1 := s1 _ _ hb
        have dl : kitB "dict" "list" = some false := by decide +kernel
        have dt : kitB "dict" "tuple" = some false := by decide +kernel
        refine ⟨.ref a, T, [.ty "list", .ty "tuple"], .type "dict", [.type "list", .type "tuple"], false, rfl, upd_same, .cons (.ty _) (.cons (.ty _) .nil), .base (.dK ha1), kitF dl dt, false, rfl, iteF ?_⟩
        refine ⟨_, rfl, .ref a, .ty "dict", .type "dict", .type "dict", true, rfl, .ty _, .base (.dK ha1), kit_ty (by decide +kernel), true, rfl, iteT ?_⟩
        refine ⟨_, rfl, .ref b, .ty "dict", .type "dict", .type "dict", true, rfl, .ty _, .base (.dK hb1), kit_ty (by decide +kernel), true, rfl, iteT ?_⟩
        have kl : ∀ f : Nat → Nat, ((mV ps f).map fun kv => kV kv.1) = numsV ps := fun f => by
          unfold mV dV numsV
          rw [List.map_map]
          rfl
        refine ⟨_, rfl, a, _, rfl, ha1, fun l1 hl1 => ?_⟩
        rw [kl]
        have s2 := Same.updf (o := .lst (numsV ps)) hl1
        refine ⟨_, rfl, b, _, rfl, s2 _ _ hb1, fun l2 hl2 => ?_⟩
        rw [kl]
        have s3 := Same.updf (o := .lst (numsV ps)) hl2
        have tdl : ∀ (G : Hp) (l : Addr), G l = some (.lst (numsV ps)) → TD K G n (.ref l) (.list (ps.map fun p : Nat => .int (p : Int))) := fun G l e => by
          obtain ⟨n', rfl⟩ : ∃ n', n = n' + 1 := ⟨n - 1, by omega⟩
          refine TD.lst e (by unfold numsV; rw [List.length_map, List.length_map]) (by rw [List.length_map]; exact n1.2.1) fun i u v e1 e2 => ?_
          unfold numsV at e1
          rw [List.getElem?_map] at e1 e2
          obtain ⟨p, q1, rfl⟩ := Option.map_eq_some_iff.mp e1
          rw [q1] at e2
          cases e2
          exact TD.flat (.int _)
        refine ⟨.ref l1, .ref l2, _, rfl, tdl _ _ (s3 _ _ upd_same), tdl _ _ upd_same, fun G s4 => ?_⟩
        have s14 := s1.trans ((s2.trans s3).trans s4)
        have haG := s14 _ _ ha
        have hbG := s14 _ _ hb
        refine ⟨_, rfl, true, rfl, iteT ?_⟩
        refine ⟨a, _, haG, trivial, fun od => ?_⟩
        refine ⟨_, rfl, a, od, rfl, .inl ⟨_, upd_same, fun D hD => ?_⟩⟩
        have nDa : D ≠ a := fun z => by
          rw [z, upd_same] at hD
          cases hD
        have hDG : G D = none := by
          rw [upd_ne nDa] at hD
          exact hD
        refine lc_sel (n := ps.length) (by have := walk_keys (d := a) (o := od) (kvs := mV ps m); rw [dV_len] at this; exact this) (fun _ => some (.bl true)) (by have := n1.2.1; omega) hD (fun H2 q2 => q2 _ _ upd_same) ?_ ?_
        · rintro i v H2 H3 Qy Qn hi sH ⟨rfl, k', v', ek, rfl⟩ ky' kn
          have ei : (mV ps m)[i]? = some (ky ps[i], .int (m ps[i] : Int)) := by
            unfold mV dV
            rw [List.getElem?_map, List.getElem?_eq_getElem hi]
            rfl
          rw [ei] at ek
          cases ek
          have mp := List.getElem_mem hi
          have fa := sH _ _ upd_same
          have da : DGet H3 a (.int (ps[i] : Int)) (some (.int (m ps[i] : Int))) := .inl ⟨_, ky ps[i], .inr ⟨od, fa⟩, rfl, (mV_val mp).symm⟩
          have db : DGet H3 b (.int (ps[i] : Int)) (some (.int (m' ps[i] : Int))) := by
            by_cases z : b = a
            · have e1 : mV ps m = mV ps m' := dV_congr fun p hp => by rw [em p hp]
              rw [z]
              exact .inl ⟨_, ky ps[i], .inr ⟨od, by rw [← e1]; exact fa⟩, rfl, (mV_val mp).symm⟩
            · exact .inl ⟨_, ky ps[i], .inl (sH _ _ (by rw [upd_ne z]; exact hbG)), rfl, (mV_val mp).symm⟩
          refine ⟨rfl, _, rfl, _, rfl, a, _, rfl, da, _, rfl, _, rfl, b, _, rfl, db, ?_⟩
          rw [← em _ mp]
          exact ⟨_, _, _, rfl, TD.flat (.int _), TD.flat (.int _), fun H5 s5 => ky' _ _ s5 rfl⟩
        · intro H2 q2 hR
          refine ⟨q2 _ _ upd_same, ?_⟩
          obtain ⟨bs, hB, hb'⟩ := all_bits (K := K) hR
          have hR2 : (upd H2 a (.dK (mV ps m))) D = some (.lst ((List.range ps.length).filterMap fun _ => some (V.bl true))) := by
            rw [upd_ne nDa]
            exact hR
          obtain ⟨bs, hB, hb'⟩ := all_bits (K := K) hR2
          refine ⟨D, bs, rfl, hB, ?_⟩
          rw [hb']
          refine k _ fun c o e => ?_
          by_cases z : c = a
          · rw [z, ha] at e
            cases e
            rw [z, upd_same]
          · rw [upd_ne z]
            exact q2 _ _ (by rw [upd_ne z]; exact s14 _ _ e)
end
end K36
set_option Elab.async false
set_option linter.all false
set_option maxRecDepth 100000
set_option maxHeartbeats 4000000
/-! An own exception class over ValueError called with keywords: the same object comes as without. -/
namespace PySem
namespace KwX
open PySem.W PySem.Calls PyProof.Rows PySem.HandSPX
section
variable {M : Model} {A : Around} {E : Value → Shared → Prop} {h : Heap} {g : Array GenState} {d : Drawn} {t : Nat} {os : OsState}
variable {nm q : Str} {C N : Addr} {bs bm bmB : List Value} {hdct : Bool} {sn : List Str} {sub : List Value} {ab : Bool} {col : Option Bool} {dd : Option Addr}
variable {k0 k1 k2 k3 k5 : Option Value} {B newId initId : String} {kw : List (Str × Value)}

theorem chk (F : ExcBaseFacts B newId initId bmB) (hT : ∀ X : String, bm.contains (.type X) = bmB.contains (.type X))
    {rest : List Value} {Q : Unit → Shared → Prop}
    (hC : h.get? C = some (excClassObj nm q C N bs bm hdct sn sub ab col dd k0 k1 k2 k3 k5 newId))
    (hq : Q () ⟨h, g, d, t, os⟩) :
    wpAny M A (checkBuiltinCall newId ⟨.ref C :: rest, kw⟩) Q E ⟨h, g, d, t, os⟩ := by
  have hB : (Value.ref C :: bm).contains (.type B) = true := by
    rw [List.contains_cons, hT, F.hasB, Bool.or_true]
  have hs := F.noStar
  simp only [checkBuiltinCall, F.newKind, F.newSplit, F.newRow]
  repeat (first
    | refine wpAny_loadPart_at hC ?_
    | (refine wpAny_isSubtype_exc hC ?_; rw [hB])
    | refine wpAny_staticBase_exc hC ?_
    | refine wpAny_madeBy_exc hC ?_
    | simp only [bne_self_eq_false, Bool.false_eq_true, if_false]
    | wp_step)
  exact hq
end

section
variable {prog : Program} {w : World} {A : Around} {E : Value → Shared → Prop} {R : Result → Shared → Prop} {h : Heap} {g : Array GenState} {d : Drawn} {t : Nat} {os : OsState}
variable {nm q : Str} {C N : Addr} {bs bm bmB : List Value} {hdct : Bool} {sn : List Str} {sub : List Value} {ab : Bool} {col : Option Bool} {dd : Option Addr}
variable {k0 k1 k2 k3 k5 : Option Value} {B newId initId : String} {kw : List (Str × Value)}

theorem made (F : ExcBaseFacts B newId initId bmB) (hT : ∀ X : String, bm.contains (.type X) = bmB.contains (.type X)) {rest : List Value}
    (hC : h.get? C = some (excClassObj nm q C N bs bm hdct sn sub ab col dd k0 k1 k2 k3 k5 newId))
    (hq : R (.ok (.ret (.ref (h.objs.size + 1)))) ⟨(h.push (W.kdv_tup rest)).push (excO C h.objs.size), g, d, t, os⟩)
    (hrest : rest.length ≤ sizeLine) : codeAny (model prog w) A (.builtin newId ⟨.ref C :: rest, kw⟩) R ⟨h, g, d, t, os⟩ := by
  have he := F.ends
  have hB : (Value.ref C :: bm).contains (.type B) = true := by
    rw [List.contains_cons, hT, F.hasB, Bool.or_true]
  have hA : (Value.ref C :: bm).contains (.type "AttributeError") = false := by
    rw [List.contains_cons, hT, F.noAttr]
    rfl
  have hN : (Value.ref C :: bm).contains (.type "NameError") = false := by
    rw [List.contains_cons, hT, F.noName]
    rfl
  refine codeAny_builtinAt F.entry ?_
  unfold Builtin.«BaseException.__new__»
  refine wpAt_bind ?_
  show wpAt _ _ _ (stack >>= _) _ _ _
  refine wpAt_bind (wpAt_stack fun p below => wpAt_of_wpAny ?_)
  wp_walk
  refine wpAt_of_wpAny ?_
  rw [F.owner]
  repeat (first
    | with_reducible refine wpAny_madeHere_exc F.canon hC ?_
    | with_reducible refine wpAny_loadPart_at hC ?_
    | (with_reducible refine wpAny_isSubtype_exc hC ?_; first | rw [hB] | rw [hA] | rw [hN])
    | wp_step)
  show R _ _
  rw [Heap.size_push]
  exact hq

theorem tcall (F : ExcBaseFacts B newId initId bmB) (hT : ∀ X : String, bm.contains (.type X) = bmB.contains (.type X)) {rest : List Value} {fI : Addr} {Q : Fin → Shared → Prop}
    (hC : h.get? C = some (excClassObj nm q C N bs bm hdct sn sub ab col dd k0 k1 k2 k3 k5 newId))
    (hi : W.Looks (model prog w) h (typeLookup (.ref C) "__init__") (some (.ref fI)))
    (hb : ∀ self, W.Looks (model prog w) h (bindSpecial (.ref fI) self) (.ref fI, [self])) (hrest : rest.length ≤ sizeLine)
    (hq : codeAny (model prog w) A (.call (.ref fI) ⟨.ref (h.objs.size + 1) :: rest, kw⟩)
      (fun r s' => match r with
        | .ok (.ret v) => v = .none ∧ Q (.done (.ret (.ref (h.objs.size + 1)))) s'
        | .ok _ => False
        | .error e => E e s') ⟨(h.push (W.kdv_tup rest)).push (excO C h.objs.size), g, d, t, os⟩) :
    wpAny (model prog w) A (Builtin.«type.__call__» ⟨.ref C :: rest, kw⟩) Q E ⟨h, g, d, t, os⟩ := by
  repeat (first
    | with_reducible refine wpAny_loadPart_at hC ?_
    | with_reducible refine wpAny_madeBy_exc hC ?_
    | wp_step)
  refine codeAny_call_builtin_code (Code.quiet_builtin _ F.quiet) (chk F hT hC ?_)
  refine made F hT hC ?_ hrest
  show wpAny _ _ _ _ _ _
  have k : ∀ b o, h.get? b = some o → ((h.push (W.kdv_tup rest)).push (excO C h.objs.size)).get? b = some o :=
    fun b o e => Heap.get?_push_of_some _ (Heap.get?_push_of_some _ e)
  have c1 := k _ _ hC
  have hg : ((h.push (W.kdv_tup rest)).push (excO C h.objs.size)).get? (h.objs.size + 1) = some (excO C h.objs.size) := by heap_get
  have cc : (Value.ref C :: bm).contains (.ref C) = true := by simp
  have i1 := hi.keeps k
  have b1 := (hb (.ref (h.objs.size + 1))).keeps k
  unfold isInstance
  repeat (first
    | with_reducible refine wpAny_loadPart_at hg ?_
    | (with_reducible refine wpAny_isSubtype_exc c1 ?_; rw [cc])
    | wp_step)
  show wpAny _ _ (typeLookup (.ref C) _) _ _ _
  refine i1.at (wpAny_holding (wpAny_bind (b1.at ?_)))
  refine wpAny_bind (wpAny_call (codeAny_mono hq fun r s' z => ?_))
  rcases r with e | (v | _ | _ | _) <;> first | exact z | exact z.elim | skip
  obtain ⟨rfl, z⟩ := z
  first
    | exact wpAny_pure (wpAny_pure z)
    | (wp_walk; exact z)

/-- C(.., k = v): the object, then __init__ with the same arguments -/
theorem callk (F : ExcBaseFacts B newId initId bmB) (hT : ∀ X : String, bm.contains (.type X) = bmB.contains (.type X)) {rest : List Value} {fI : Addr}
    (hC : h.get? C = some (excClassObj nm q C N bs bm hdct sn sub ab col dd k0 k1 k2 k3 k5 newId))
    (hi : W.Looks (model prog w) h (typeLookup (.ref C) "__init__") (some (.ref fI)))
    (hb : ∀ self, W.Looks (model prog w) h (bindSpecial (.ref fI) self) (.ref fI, [self])) (hrest : rest.length ≤ sizeLine)
    (hq : codeAny (model prog w) (A.under (.builtin "type.__call__" ⟨.ref C :: rest, kw⟩)) (.call (.ref fI) ⟨.ref (h.objs.size + 1) :: rest, kw⟩)
      (W.InitBack (h.objs.size + 1) R) ⟨(h.push (W.kdv_tup rest)).push (excO C h.objs.size), g, d, t, os⟩) :
    codeAny (model prog w) A (.call (.ref C) ⟨rest, kw⟩) R ⟨h, g, d, t, os⟩ := by
  have f1 := tc_lookup
  have f2 := tc_bind (.ref C)
  have hTy : (⟨h, g, d, t, os⟩ : Shared).TypeIs (.ref C) "type" := ⟨_, hC, rfl⟩
  refine codeAny_of_tree ?_
  show wpAny _ _ (callAny (.ref C) _) _ _ _
  repeat (any_goals (first
    | assumption
    | with_reducible refine wpAny_loadPart_at hC ?_
    | wp_step))
  refine ⟨rfl, ?_⟩
  refine codeAny_call_builtin_at (Code.quiet_builtin _ (by decide +kernel)) entry_typeCall (wpAny_check_type_call_sub hC (tcall F hT hC hi hb hrest ?_))
  refine codeAny_mono hq fun r s' z => ?_
  rcases r with e | (v | _ | _ | _) <;> exact z
end
end KwX
end PySem
set_option Elab.async false
set_option linter.all false
set_option maxRecDepth 100000
set_option maxHeartbeats 4000000
/-! Errors of the program's own as values: made, asked for their class, read. -/
namespace PySem.W
open PySem PySem.Spec PySem.Calls PyProof.Rows
section
variable {prog : Program} {w : World} {A : Around} {E : Value → Shared → Prop} {s : Shared} {K : Frag} {x D : Addr} {ox : Obj} {od : Option Obj}
theorem err_find (hc : (clsIn K D).isSome = true) (ha : findIn K (.ref D) "__class__" = some (some (.builtin "object.__class__")))
    (hg : specialIn K (.builtin "object.__class__") "__get__" = some (some (.builtin "getset_descriptor.__get__"))) (ht : takesIn K (.builtin "object.__class__") = some true) :
    findObj K D od "__class__" = some (.bind (.builtin "getset_descriptor.__get__") (.builtin "object.__class__")) := by
  cases od with
  | none => exact findObj_dataN hc ha hg ht
  | some o => exact findObj_data hc ha hg ht
/-- x.__class__ of an error, with a dict of its own or without one -/
theorem err_class {Q : Option Value → Shared → Prop} (T : L2.ExcC K D) (X : K.In s.heap) (I : InstAt s.heap x ox D od)
    (h : Q (some (.ref D)) { s with toks := s.toks + 1 }) : wpAny (model prog w) A (getAttr? (.ref x) "__class__") Q E s := by
  have hf := err_find (od := od) (K := K) (D := D) (by obtain ⟨cd, hc, _⟩ := any_some T.hd; rw [hc]; rfl) T.ha T.hn T.ht
  obtain ⟨hp, g, d, t, os⟩ := s
  have A0 := I.type (M := model prog w)
  have A1 := looks_findIn (M := model prog w) X T.hg
  have A2 := looks_findIn (M := model prog w) X T.hk
  have A3 := looks_find (M := model prog w) X I hf
  have A4 : Looks (model prog w) hp (isInstance (.ref x) (.type "BaseException")) true := A0.andThen (looks_subIn X T.hs)
  have n0 : (false && onTheHeap (Value.builtin "BaseException.__getattribute__")) = false := rfl
  have n2 : (Value.builtin "BaseException.__getattribute__" == Value.builtin "object.__getattribute__") = false := by decide +kernel
  have n1 : (onTheHeap (Value.ref D) && Value.builtin "BaseException.__getattribute__" == Value.builtin "object.__getattribute__") = false := by
    rw [n2]
    rfl
  unfold getAttr? getAttrBy? getAttrBy
  refine wpAny_bind (wpAny_mkText (wpAny_bind (wpAny_attempt (wpAny_holding (wpAny_bind (A0.at (wpAny_bind (A1.at ?_))))))))
  show wpAny _ _ (if (onTheHeap (Value.ref D) && Value.builtin "BaseException.__getattribute__" == Value.builtin "object.__getattribute__") = true then _ else _) _ _ _
  rw [n1, if_neg Bool.false_ne_true]
  unfold getAttrByItsOwn hookBefore
  refine wpAny_bind ?_
  rw [if_pos (show onTheHeap (Value.ref D) = true from rfl)]
  refine A2.at (wpAny_bind (wpAny_attempt (wpAny_holding ?_)))
  unfold callGetattribute
  rw [n0, if_neg Bool.false_ne_true]
  unfold boundAndCalled
  rw [PySem.F.excAttr_ValueError.ga.bind (.ref x)]
  refine wpAny_bind (wpAny_pure ?_)
  show wpAny _ _ (call (.builtin "BaseException.__getattribute__") [.ref x, .str "__class__" t]) _ _ _
  refine wpAny_call (codeAny_call_builtin PySem.F.excAttr_ValueError.ga.plain PySem.F.entry_bexc_ga ?_)
  refine @check_slot (model prog w) _ _ ⟨hp, g, d, t + 1, os⟩ "BaseException.__getattribute__" "BaseException" "__getattribute__" (.ref x) [.str "__class__" t] [] _
    (by decide +kernel) (by decide +kernel) A4 (PySem.F.args_bexc_ga (.ref x) (.str "__class__" t)) ?_
  unfold Builtin.«object.__getattribute__»
  refine wpAny_bind (wpAny_of_eq (a := ((Value.ref x : Value), [Value.str "__class__" t])) (by first | rfl | (simp only [slotArgs]; rfl)) ?_)
  refine wpAny_bind (wpAny_pure (wpAny_bind (A0.at (wpAny_bind (A3.at ?_)))))
  show wpAny _ _ (holding [Value.builtin "object.__class__"] (call (.builtin "getset_descriptor.__get__") [.builtin "object.__class__", .ref x, .ref D]) >>= ret) _ _ _
  refine wpAny_bind (wpAny_holding (wpAny_call (class_get (s := ⟨hp, g, d, t + 1, os⟩) (ox := ox) (od := od) X I T.hm ?_)))
  refine wpAny_pure ?_
  show wpAny _ _ (handedOut (.ref D)) _ _ _
  rw [handedOut_of (v := .ref D) rfl]
  first
    | exact wpAny_pure (wpAny_pure h)
    | exact wpAny_pure h
    | exact wpAny_pure (wpAny_bind (wpAny_pure (wpAny_pure h)))
theorem err_kit (T : L2.ExcC K D) : KitX K (.ref x) (.ref D) (fun h => ∃ ox od, InstAt h x ox D od) where
  ty := fun _ _ _ ⟨_, _, I⟩ => I.type
  it := fun _ _ X _ => by
    obtain ⟨cd, hc, _⟩ := any_some T.hd
    unfold clsIn at hc
    split at hc
    · rename_i c1 d1 cd1 sl1 ho
      intro A' Q' E' s' k q
      unfold isType loadHead
      exact wpAny_bind (wpAny_loadPart (k _ _ (X _ _ ho)) (wpAny_pure q))
    · cases hc
  ne := fun h tp dd its n sl X htp => by
    obtain ⟨cd, hc, _⟩ := any_some T.hd
    refine Bool.eq_false_iff.mpr fun q => ?_
    have e : D = tp := Value.ref.inj (beq_iff_eq.mp q)
    subst e
    unfold clsIn at hc
    split at hc
    · rename_i c1 d1 cd1 sl1 ho
      have z := (X _ _ ho).symm.trans htp
      cases z
    · cases hc
  ca := fun X ⟨_, _, I⟩ k => err_class T X I k
end
end PySem.W
set_option Elab.async false
set_option linter.all false
set_option maxRecDepth 100000
set_option maxHeartbeats 4000000
namespace L2
open PySem PySem.Spec PyProof.Rows
/-- what the written part says of a class of errors at C whose __init__ stands at fI -/
structure ErrC (K : PySem.W.Frag) (C fI : Addr) : Prop where
  ox : OexC K C
  xf : XfC K C
  xc : ExcC K C
  iC : PySem.W.findIn K (.ref C) "__init__" = some (some (.ref fI))
  tI : PySem.W.typeIn K (.ref fI) = some (.type "function")
  nv : PySem.W.findIn K (.ref C) "value" = some none
/-- x is an error of the class at C whose field holds v -/
def ErrAt (H : Hp) (C : Addr) (v x : V) : Prop := ∃ e d, x = .ref e ∧ H e = some (exo e C (some d)) ∧ H d = some (exd d [("value", v)])
theorem ErrAt.same {H H' : Hp} {C : Addr} {v x : V} (k : Same H H') (h : ErrAt H C v x) : ErrAt H' C v x := by
  obtain ⟨e, d, e1, e2, e3⟩ := h
  exact ⟨e, d, e1, k _ _ e2, k _ _ e3⟩
/-- its __init__ -/
def spErr (C : Addr) : Sp := fun vs H Q _ => ∃ (e : Addr) (v : V), vs = [.ref e, v] ∧ H e = some (exo e C none) ∧
  ∀ d, H d = none → d ≠ e → Q .non (upd (upd H d (exd d [("value", v)])) e (exo e C (some d)))
def errScope : Scope := { kind := .function, names := [("self", .local), ("value", .local)], isGenerator := false, isCoroutine := false, more := [] }
def errBody (p1 p2 p3 p4 : Pos) : List Stmt := [.Assign [.Attribute (.Name "self" p1) "value" p2] (.Name "value" p3) p4]
theorem errSc : FnScope ["self", "value"] ["self", "value"] errScope := ⟨rfl, rfl, rfl, by decide +kernel, rfl, by decide +kernel, by decide +kernel⟩
section
variable {P : Program} {w : World} {K : PySem.W.Frag} {mg : Str → Option Value} {base : Heap}
theorem ok_err {qual : Str} {params : Arguments} {C fI : Addr} {fd : FuncData} {p1 p2 p3 p4 : Pos} (F : FunD K "__init__" qual params (errBody p1 p2 p3 p4) errScope [.non] [] fI fd) (T : ErrC K C fI) :
    FnOk P w K mg base CX0 1 fI fd ["self", "value"] (spErr C) := by
  refine F.ok errSc (fun vs H Q E h => ?_) (fun cdv A outer s H vs Q E hr h => ?_)
  · obtain ⟨e, v, rfl, _⟩ := h
    rfl
  · obtain ⟨e, v, rfl, he, k⟩ := h
    refine ⟨_, PSs.nox (pss_one (ps_ost (pv 0) (pv 1))), ?_⟩
    exact ⟨_, rfl, _, rfl, e, C, rfl, T.ox, T.nv, Or.inl ⟨he, fun d h1 h2 => k d h1 h2⟩⟩
end
section
variable {X : Cx} {pins : List (Addr × Obj)} {σ : St} {H : Hp} {s : Shared} {C fI : Addr} {fd : FuncData} {k : Nat}
/-- C(..), however the value comes to its parameter -/
theorem run_err {Q : VK} {us : List Value} {kw : List (Str × Value)} {u : Value} {v : V} (T : ErrC X.K C fI) (F1 : FnOk X.prog X.w X.K X.mg X.base CX0 k fI fd ["self", "value"] (spErr C)) (hr : Room (k + 1) X.A)
    (hus : us.length ≤ sizeLine) (hb : ∀ (s' : Shared) (e : Addr), X.K.In s'.heap → BindsTo s' fd ⟨.ref e :: us, kw⟩ ((["self", "value"] : List Str).zip [.ref e, u])) (rv : RelV v u)
    (I : Inv X pins σ H s) (h : ∀ e H', Same H H' → ErrAt H' C v (.ref e) → Q (.ref e) H') :
    wpAny (model X.prog X.w) X.A (call (.ref C) us kw) (EP X pins σ Q) X.xe s := by
  obtain ⟨nm, q, N, bs, bm, sn, sub, ab, col, dd, k0, k1, k2, k3, k5, hC, hbm⟩ := T.ox.cls
  obtain ⟨hp, g, dr, tk, os⟩ := s
  have hsz : hp.objs.size ≤ hp.objs.size + 1 := Nat.le_succ _
  have hn : H (hp.objs.size + 1) = none := I.hok.fresh hsz
  have kk : ∀ b o, hp.get? b = some o → ((hp.push (PySem.W.kdv_tup us)).push (PySem.HandSPX.excO C hp.objs.size)).get? b = some o :=
    fun b o e => Heap.get?_push_of_some _ (Heap.get?_push_of_some _ e)
  have hget : ((hp.push (PySem.W.kdv_tup us)).push (PySem.HandSPX.excO C hp.objs.size)).get? (hp.objs.size + 1) = some (PySem.HandSPX.excO C hp.objs.size) := by heap_get
  have I2 : Inv X pins σ (upd H (hp.objs.size + 1) (exo (hp.objs.size + 1) C none)) ⟨(hp.push (PySem.W.kdv_tup us)).push (PySem.HandSPX.excO C hp.objs.size), g, dr, tk, os⟩ :=
    I.laid (t' := tk) (a := hp.objs.size + 1) (o := exo (hp.objs.size + 1) C none) (h' := (hp.push (PySem.W.kdv_tup us)).push (PySem.HandSPX.excO C hp.objs.size)) kk hsz (exo_ok hget)
  have hq : spErr C [.ref (hp.objs.size + 1), v] (upd H (hp.objs.size + 1) (exo (hp.objs.size + 1) C none))
      (fun v' H3 => v' = .non ∧ Q (.ref (hp.objs.size + 1)) H3) (fun _ _ _ => False) := by
    refine ⟨_, v, rfl, upd_same, fun d hd hne => ⟨rfl, ?_⟩⟩
    rw [upd_ne hne] at hd
    refine h _ _ (fun b o e => ?_) ⟨_, d, rfl, upd_same, ?_⟩
    · rw [upd_ne (ne_of_none e hn), upd_ne (ne_of_none e hd), upd_ne (ne_of_none e hn)]
      exact e
    · rw [upd_ne hne, upd_same]
  refine wpAny_call (PySem.KwX.callk F.excBase_ValueError (fun Y => PySem.HandSPX.refsVE_contains Y bm hbm) (I.kIn _ _ hC) (PySem.W.looks_findIn I.kIn T.iC) (fun self => PySem.W.bind_fn I.kIn self T.tI) hus
    (codeAny_mono (F1.run _ X.stack _ _ ⟨Value.ref (hp.objs.size + 1) :: us, kw⟩ [Value.ref (hp.objs.size + 1), u] [V.ref (hp.objs.size + 1), v] _ (fun _ _ _ => False) (hr.make C us kw) (I2.env0.make C us kw) (hb _ _ I2.kIn)
      (.cons rfl (.cons rv .nil)) hq) fun r s' hq' => ?_))
  cases r with
  | error er => exact absurd hq' id
  | ok fl =>
    cases fl with
    | ret u' =>
      obtain ⟨v', H', I3, rv', ev, q3⟩ := I2.after hq'
      subst ev
      have e1 : ∀ b o, hp.get? b = some o → H b = none → upd H (hp.objs.size + 1) (exo (hp.objs.size + 1) C none) b = none := fun b o e n => by
        rw [upd_ne (Nat.ne_of_lt (Nat.lt_of_lt_of_le (Heap.lt_size e) hsz))]
        exact n
      exact ⟨rv', V.ref (hp.objs.size + 1), H', I3, rfl, q3⟩
    | next => exact False.elim hq'
    | brk => exact False.elim hq'
    | cont => exact False.elim hq'
end
/-! ### the rules: C(), C(e), C(value=e) -/
section
variable {X : Cx} {C fI : Addr} {fd : FuncData} {k : Nat} {x : Str} {p pos : Pos} {e : Expr} {te : TE}
/-- how an argument comes to the parameter: none, by place, by name -/
structure ErrB (K : PySem.W.Frag) (fd : FuncData) : Prop where
  b0 : ∀ (s : Shared) (a : Value), K.In s.heap → BindsTo s fd ⟨[a], []⟩ ((["self", "value"] : List Str).zip [a, .none])
  b1 : ∀ (s : Shared) (a u : Value), K.In s.heap → BindsTo s fd ⟨[a, u], []⟩ ((["self", "value"] : List Str).zip [a, u])
  bk : ∀ (s : Shared) (a u : Value), K.In s.heap → BindsTo s fd ⟨[a], [("value", u)]⟩ ((["self", "value"] : List Str).zip [a, u])
/-- what a call of the class leaves -/
def newErr (C : Addr) (v : V) (H : Hp) (Q : VK) : Prop := ∀ e H', Same H H' → ErrAt H' C v (.ref e) → Q (.ref e) H'
def tErr (C : Addr) (te : TE) : TE := fun σ H Q => te σ H fun v H1 => newErr C v H1 Q
theorem pe_err0 (T : ErrC X.K C fI) (F1 : FnOk X.prog X.w X.K X.mg X.base CX0 k fI fd ["self", "value"] (spErr C)) (B : ErrB X.K fd) (hr : Room (k + 1) X.A) (hm : X.mg x = some (.ref C)) (hg : Gl X x := by rfl)
    (hdb : (x == ("__debug__" : Str)) = false := by decide) : PE X (.Call (.Name x p) [] [] pos) (fun _ H Q => newErr C .non H Q) := by
  refine ⟨fun pins s σ H Q I h => ?_⟩
  refine wpAny_Call_Name_kw (ld_glob I hg hm ?_ hdb)
  refine PySem.W.callWith_K0 I.kIn T.ox.kC ?_
  exact run_err (us := []) (kw := []) T F1 hr (Nat.zero_le _) (fun s' a X' => B.b0 s' _ X') (v := .non) rfl I h
theorem pe_err1 (T : ErrC X.K C fI) (F1 : FnOk X.prog X.w X.K X.mg X.base CX0 k fI fd ["self", "value"] (spErr C)) (B : ErrB X.K fd) (hr : Room (k + 1) X.A) (hm : X.mg x = some (.ref C)) (he : PE X e te) (hg : Gl X x := by rfl)
    (hdb : (x == ("__debug__" : Str)) = false := by decide) (hs : starEach [e] X.env = (false, eval e X.env) :: starEach [] X.env := by rfl) (hpl : (backTo pos (starEach [] X.env)).any (·.1) = false := by rfl) :
    PE X (.Call (.Name x p) [e] [] pos) (tErr C te) := by
  refine ⟨fun pins s σ H Q I h => ?_⟩
  refine wpAny_Call_Name_kw (ld_glob I hg hm ?_ hdb)
  refine PySem.W.callWith_K (h₀ := X.base) I.ok.mod.kin T.ox.kC ?_ hs hpl
  rw [hs]
  show wpAny _ _ (spliced ((false, eval e X.env) :: backTo pos (starEach [] X.env))) _ _ s
  refine Calls.spliced_cons (thn (he.run pins s σ H _ I h) fun u s1 ⟨v, H1, I1, r1, q1⟩ => ?_)
  refine Calls.spliced_nil ⟨I1.kIn, ?_⟩
  exact run_err (us := [u]) (kw := []) T F1 hr (by show 1 ≤ sizeLine; decide) (fun s' a X' => B.b1 s' _ u X') r1 I1 q1
theorem pe_errk {pk : Pos} (T : ErrC X.K C fI) (F1 : FnOk X.prog X.w X.K X.mg X.base CX0 k fI fd ["self", "value"] (spErr C)) (B : ErrB X.K fd) (hr : Room (k + 1) X.A) (hm : X.mg x = some (.ref C))
    {ta : TA} (hkw : PK X [⟨some "value", e, pk⟩] ta) (hg : Gl X x := by rfl) (hdb : (x == ("__debug__" : Str)) = false := by decide)
    (hall : (backToKw pos (keywordEach [⟨some "value", e, pk⟩] X.env)).all (·.1.isSome) = true := by rfl) (hks : (backToKw pos (keywordEach [⟨some "value", e, pk⟩] X.env)).filterMap (·.1) = (["value"] : List Str) := by rfl)
    (hpl : ((backTo pos (starEach [] X.env)).any (·.1) || (backToKw pos (keywordEach [⟨some "value", e, pk⟩] X.env)).any (·.1.isNone)) = false := by rfl) :
    PE X (.Call (.Name x p) [] [⟨some "value", e, pk⟩] pos) (fun σ H Q => ta σ H fun vs H1 => ∃ v, vs = [v] ∧ newErr C v H1 Q) := by
  refine ⟨fun pins s σ H Q I h => ?_⟩
  refine wpAny_Call_Name_kw (ld_glob I hg hm ?_ hdb)
  refine PySem.W.callWith_KW0 (h₀ := X.base) I.ok.mod.kin T.ox.kC hall ?_ hpl
  refine thn (hkw.run pos pins s σ H _ I h) fun us s1 ⟨vs, H1, I1, r1, v, ev, q1⟩ => ?_
  subst ev
  rw [hks]
  cases r1 with
  | @cons _ u _ _ ru rn =>
    cases rn
    exact ⟨I1.kIn, run_err (us := []) (kw := [("value", u)]) T F1 hr (Nat.zero_le _) (fun s' a X' => B.bk s' _ u X') ru I1 q1⟩
end
/-! ### isinstance, the field -/
/-- an error, with or without a field -/
def AnErr (H : Hp) (C : Addr) (x : V) : Prop := ∃ e, x = .ref e ∧ (H e = some (exo e C none) ∨ ∃ d fs, H e = some (exo e C (some d)) ∧ H d = some (exd d fs))
theorem ErrAt.an {H : Hp} {C : Addr} {v x : V} (h : ErrAt H C v x) : AnErr H C x := by
  obtain ⟨e, d, e1, e2, e3⟩ := h
  exact ⟨e, e1, .inr ⟨d, _, e2, e3⟩⟩
theorem AnErr.same {H H' : Hp} {C : Addr} {x : V} (k : Same H H') (h : AnErr H C x) : AnErr H' C x := by
  obtain ⟨e, e1, e2 | ⟨d, fs, e2, e3⟩⟩ := h
  · exact ⟨e, e1, .inl (k _ _ e2)⟩
  · exact ⟨e, e1, .inr ⟨d, fs, k _ _ e2, k _ _ e3⟩⟩
section
variable {X : Cx} {pins : List (Addr × Obj)} {σ : St} {H : Hp} {s : Shared} {C : Addr}
theorem AnErr.inst {e : Addr} (I : Inv X pins σ H s) (h : AnErr H C (.ref e)) : ∃ ox od, PySem.W.InstAt s.heap e ox C od := by
  obtain ⟨e', e1, h⟩ := h
  cases e1
  rcases h with h | ⟨d, fs, h, hd⟩
  · obtain ⟨t1, ho⟩ := exo_at I.hok h
    exact ⟨_, none, ho, rfl, rfl, trivial⟩
  · obtain ⟨t1, ho⟩ := exo_at I.hok h
    obtain ⟨mA, hn, _⟩ := exd_at I.hok hd
    obtain ⟨o, es, ep, hod, _⟩ := hn
    exact ⟨_, some o, ho, rfl, rfl, hod⟩
def rIsX (K : PySem.W.Frag) : List V → Hp → VK → Prop := fun xs H Q => ∃ (x : V) (C : Addr) (c : V) (cv : Value) (b : Bool), xs = [x, c] ∧ AnErr H C x ∧ ExcC K C ∧ ClsV c cv ∧ PySem.W.kitOne K (.ref C) cv = some b ∧ Q (.bl b) H
theorem call_isX : CallR X (.builtin "isinstance") (rIsX X.K) := by
  intro pins s σ H xs us Q I r h
  obtain ⟨x, C, c, cv, b, rfl, hx, T, kc, e, q⟩ := h
  obtain ⟨u1, u2, rfl, r1, r2⟩ := vals2 r
  have e2 := kc.eq r2
  subst e2
  obtain ⟨a, rfl, hh⟩ := id hx
  obtain rfl : u1 = Value.ref a := r1
  exact PySem.W.kia_one (PySem.W.err_kit T) I.kIn (hx.inst I) e (fun z => nomatch z) fun tk => ⟨.bl b, H, I.tok tk, rfl, q⟩
/-- e.value -/
def tErrVal (K : PySem.W.Frag) (te : TE) : TE := fun σ H Q => te σ H fun x H1 => ∃ C fI v, ErrAt H1 C v x ∧ ErrC K C fI ∧ Q v H1
theorem pe_errVal {e : Expr} {te : TE} {pos : Pos} (he : PE X e te) (hb : attributeBase e "value" X.env (eval e X.env) = eval e X.env := by rfl) : PE X (.Attribute e "value" pos) (tErrVal X.K te) := by
  refine ⟨fun pins s σ H Q I h => ?_⟩
  refine attr_of hb (thn (he.run pins s σ H _ I h) fun u s1 hh => ?_)
  obtain ⟨x, H1, I1, rx, C, fI, v, ⟨a, d, rfl, ha, hd⟩, T, q⟩ := hh
  obtain rfl : u = Value.ref a := rx
  obtain ⟨t1, ho⟩ := exo_at I1.hok ha
  obtain ⟨mA, hns, hr⟩ := exd_at I1.hok hd
  obtain ⟨od, hod, hl⟩ := lookIn_ns hns
  obtain ⟨w, hw, rw'⟩ := RelO.some_of (v := v) (o := mA "value") (hr "value")
  have J : PySem.W.InstAt s1.heap a _ C (some od) := ⟨ho, rfl, rfl, hod⟩
  exact HandSPX.exc_get I1.kIn J T.xf.ga T.xf.gg T.xf.exC (PySem.W.findObj_own T.xf.hdC T.nv rfl (by rw [hl, hw])) (handed_of rw') ⟨v, H1, I1.tok _, rw', q⟩
end
end L2
set_option Elab.async false
set_option linter.all false
set_option maxRecDepth 100000
set_option maxHeartbeats 4000000
/-! try: .. except C as e: suite, the error kept behind the suite (note = e). -/
namespace KB
open PySem PySem.Spec PyProof.Rows L2
/-- an error that was raised and caught, at a: of the class cls, its dict d -/
def ExK (cls : Value) (d : Option Addr) (a : Addr) : HO := .ext fun h => ∃ (oe : Obj) (fs : Array Value), h.get? a = some oe ∧ Zc cls d oe ∧ oe.data = .fields fs
theorem exk_ok {P : Program} {w : World} {H : Hp} {h : Heap} {a : Addr} {cls : Value} {d : Option Addr} {oe : Obj} {fs : Array Value} (e : h.get? a = some oe) (z : Zc cls d oe) (f : oe.data = .fields fs) : ObjOk P w H h a (ExK cls d a) :=
  ⟨⟨oe, fs, e, z, f⟩, ⟨oe, e⟩, fun h1 h2 p k => by
    obtain ⟨o1, f1, e1, r1⟩ := p
    exact ⟨o1, f1, k _ e1, r1⟩⟩
/-- an object that nobody tracks, new since the def was entered, is tracked from here on -/
theorem note {X : Cx} {pins : List (Addr × Obj)} {σ : L2.St} {H : Hp} {s : Shared} {a : Addr} {cls : Value} {d : Option Addr} {oe : Obj} {fs : Array Value} (J : Inv X pins σ H s) (e : s.heap.get? a = some oe) (z : Zc cls d oe) (f : oe.data = .fields fs) (na : H a = none)
    (nL : a ≠ X.env.locals) (nC : ∀ x c, X.env.cells.lookup x = some c → c ≠ a) (nP : ∀ p ∈ X.pn ++ pins, p.1 ≠ a) (n0 : X.s_0.heap.get? a = none) : Inv X pins σ (upd H a (ExK cls d a)) s where
  ok := J.ok
  os := J.os
  bare := J.bare
  base := {
    keep := J.base.keep
    slot := J.base.slot
    free := fun b o q n hx => by
      rw [upd_ne (fun y => by rw [y, n0] at q; cases q)]
      exact J.base.free b o q n hx
    there := J.base.there
    tups := fun b xs q => by
      have y := J.base.tups b xs q
      rw [upd_ne (ne_of_none y na)]
      exact y
    frzs := fun b o u q => by
      have y := J.base.frzs b o u q
      rw [upd_ne (ne_of_none y na)]
      exact y
    tbls := fun b ps q => by
      obtain ⟨more, y⟩ := J.base.tbls b ps q
      exact ⟨more, by rw [upd_ne (ne_of_none y na)]; exact y⟩ }
  loc := J.loc
  cell := J.cell
  free := by
    rw [upd_ne nL.symm]
    exact J.free
  freeC := fun x c y => by
    rw [upd_ne (nC x c y)]
    exact J.freeC x c y
  pin := fun p hp => ⟨(J.pin p hp).1, by rw [upd_ne (nP p hp)]; exact (J.pin p hp).2.1, (J.pin p hp).2.2⟩
  hok := J.hok.laidN (fun _ _ y => y) na (exk_ok e z f)
  len := J.len
/-- what the handler makes of an error: kept at a behind the suite -/
def wKeep (K : PySem.W.Frag) (c : Value) (i : Nat) (ts : Addr → Value → Option Addr → TS) (Wout : WX) (D : Ends) : WX := fun cls d σ H =>
  ∃ b, PySem.W.exmOne K cls c = some b ∧ (b = false → Wout cls d σ H) ∧
    (b = true → ∀ a, H a = none → ts a cls d ⟨fun τ G => D.nx (τ.set i none) (upd G a (ExK cls d a)), fun _ _ => False, fun _ _ => False, fun _ _ => False⟩ (σ.set i (some (.ref a))) H)
section
variable {X : Cx} {x n : Str} {c : Value} {i : Nat} {body suite : List Stmt} {b₀ : Stmt} {np pos pos' : Pos} {tb : WX → TS} {ts : Addr → Value → Option Addr → TS} {Wout : WX}
theorem ps_try_keep (hs : X.stack = X.env :: X.outer) (hf : X.env.frame = some X.env.locals) (hex : X.ex = []) (hN : X.N.Nodup) (hi : X.N[i]? = some n) (hln : X.env.kindOf n = some .local) (hc : Names X x c) (tk : Takes X Wout)
    (hb : ∀ (W : WX) (pn : List (Addr × Obj)) (xe : Value → Shared → Prop), Takes (X.tr pn xe) W → PassesOwn (model X.prog X.w) X.A X.env xe → PSs (X.tr pn xe) body (tb W))
    (hsu : ∀ (a : Addr) (oe : Obj) (cls : Value) (d : Option Addr) (pn : List (Addr × Obj)), Zc cls d oe → (∃ fs, oe.data = .fields fs) → PSs (X.suite a ((a, oe) :: pn)) (b₀ :: suite) (ts a cls d)) :
    PS X (.Try body [.ExceptHandler (some (.Name x np)) (some n) (b₀ :: suite) pos'] [] [] pos) (fun D σ H => tb (wKeep X.K c i ts Wout D) D σ H) := by
  refine ⟨fun pins s σ H D I h => wpAny_Try_except ?_⟩
  have ok := I.ok
  have fr : X.A.frames = some (X.env :: X.outer) := by rw [ok.frames, hs]
  have run := (hb (wKeep X.K c i ts Wout D) (X.pn ++ pins) (fun u s1 => wpAny (model X.prog X.w) X.A (noteFrame u X.env) (fun _ s2 => wpAny (model X.prog X.w) X.A (setFlight u none) (fun _ s3 =>
    wpAny (model X.prog X.w) X.A (handleBy u X.env [.ExceptHandler (some (.Name x np)) (some n) (b₀ :: suite) pos']) (SP X pins D) X.xe s3) X.xe s2) X.xe s1) (fun u s1 hx => ?_) PassesOwn.looking).run [] s σ H D (I.toTry _) h
  · refine wpAny_mono run (fun f s1 q => ?_) fun _ _ y => y
    match f, q with
    | .next, ⟨τ, G, J, q⟩ => exact wpAny_execs_nil ⟨τ, G, J.ofTry ok, q⟩
    | .brk, ⟨τ, G, J, q⟩ => exact ⟨τ, G, J.ofTry ok, q⟩
    | .cont, ⟨τ, G, J, q⟩ => exact ⟨τ, G, J.ofTry ok, q⟩
    | .ret _, ⟨v, τ, G, J, r, q⟩ => exact ⟨v, τ, G, J.ofTry ok, r, q⟩
  · obtain ⟨a, B, sI, pl, τ, G, cls, d, rfl, J0, nb, up, sky, na, os, ag, b, hb1, hno, hyes⟩ := hx
    have J : Inv X pins τ G sI := J0.ofTry ok
    rw [hs] at sky
    show wpAny (model X.prog X.w) X.A (noteFrame (.ref a) X.env) _ _ _
    refine Sky.land Zc.steady fr hf sky fun h3 fl3 up3 => ?_
    -- the error's object is none of the frames'
    have off : ∀ {h : Heap}, HandSPX.FlyingZ B (X.env :: X.outer) a (Zc cls d) h → a ∉ frs (X.env :: X.outer) := fun {h} fl hm => by
      obtain ⟨o, fs, e, _, ef⟩ := fl.there
      obtain ⟨_, o', e', no⟩ := fl.2.2.1.mem hm
      rw [e] at e'
      cases e'
      exact no _ ef
    have nF := off fl3
    have nL : a ≠ X.env.locals := fun y => nF (List.mem_filterMap.mpr ⟨X.env, List.mem_cons_self, by rw [hf, y]⟩)
    have nX : a ∉ X.fs := fun hm => by
      obtain ⟨e, he, q⟩ := List.mem_filterMap.mp hm
      exact nF (List.mem_filterMap.mpr ⟨e, List.mem_cons_of_mem _ he, q⟩)
    have nI : sI.heap.get? a = none := by
      cases e : sI.heap.get? a with
      | none => rfl
      | some o =>
        have y := nb a o e (by rw [hs]; exact nF)
        rw [fl3.2.1] at y
        cases y
    have J3 : Inv X pins τ G { s1 with heap := h3 } := J.landed nb fl3.1 (up.trans up3) os ag
    obtain ⟨o3, f3, e3, z3, d3⟩ := fl3.there
    have S3 := J3.suite e3 d3 na nL nX
    refine wpAny_handleBy_cons (codeAny_handlers_test ?_) (by intro q; cases q)
    have LM := PySem.W.exm_one (M := model X.prog X.w) J3.kIn (show PySem.W.Looks (model X.prog X.w) h3 (typeOf (.ref a)) cls from fun A Q E s k q => wpAny_typeOf_ref (k _ _ e3) (by rw [z3.1]; exact q)) hb1
    have named : ∀ {Q : Value → Shared → Prop} {E : Value → Shared → Prop}, Q c { s1 with heap := h3 } → wpAny (model X.prog X.w) (X.A.mark (some (.ref a))) (eval (.Name x np) X.env) Q E { s1 with heap := h3 } := fun {Q E} q => by
      obtain ⟨hg, hd, hm | ⟨hm, hv, hn⟩⟩ := hc
      · exact ld_glob (X := X.suite a ((a, o3) :: (X.pn ++ pins))) S3 hg hm q hd
      · exact ld_blt (X := X.suite a ((a, o3) :: (X.pn ++ pins))) S3 hg hm hv q hn hd
    refine named (LM.here ?_)
    cases b with
    | false =>
      show wpAny _ X.A (handleBy (.ref a) X.env []) _ _ _
      refine wpAny_handleBy_nil ?_
      obtain ⟨_, _, _, oe, fs, T, _, _, e5, _, d5, h1, _⟩ := id fl3
      unfold PySem.passOn
      refine wpAny_bind (wpAny_field e5 d5 h1 ?_)
      rw [if_neg (show ¬ ((Value.ref T == Value.none) = true) from by simp)]
      have out : wpAny (model X.prog X.w) X.A (setFlight (.ref a) X.env.frame) (fun _ s4 => wpAny (model X.prog X.w) X.A (throw (.ref a) : Sem Flow) (SP X pins D) X.xe s4) X.xe { s1 with heap := h3 } := by
        rw [hf]
        refine HandSPX.setFlight_upZ fl3 fun h4 l4 up4 => wpAny_throw (tk _ _ ⟨a, B, sI, pins, τ, G, cls, d, rfl, J, nb, (up.trans up3).trans up4, .inr (.inr (by rw [hs]; exact l4)), na, os, ag, hno rfl⟩)
      first
        | exact wpAny_bind (wpAny_pure (wpAny_bind out))
        | exact wpAny_bind out
    | true =>
      refine codeAny_handlers_suite_as ?_
      refine HandSPX.lands_againZ fl3 fun h4 fl4 up4 => ?_
      have J4 : Inv X pins τ G { s1 with heap := h4 } := J.landed nb fl4.1 ((up.trans up3).trans up4) os ag
      obtain ⟨o4, f4, e4, z4, d4⟩ := fl4.there
      have S4 := J4.suite e4 d4 na nL nX
      refine store_ok (X := X.suite a ((a, o4) :: (X.pn ++ pins))) (v := .ref a) S4 hN hi (.inl hln) rfl (fun s5 S5 => ?_) (.inr hln)
      refine wpAny_mono ((hsu a o4 cls d (X.pn ++ pins) z4 ⟨_, d4⟩).run [] s5 _ G _ S5 (hyes rfl a na)) (fun f s6 q => ?_) fun _ _ y => False.elim y
      match f, q with
      | .next, ⟨τ6, G6, S6, q6⟩ =>
        have p6 := S6.pin (a, o4) (List.mem_append_left _ List.mem_cons_self)
        have J6 := S6.unsuite ok
        have K6 : Inv X pins τ6 (upd G6 a (ExK cls d a)) s6 := note J6 p6.1 z4 d4 p6.2.1 p6.2.2.1 (fun y l hl e => ?_) (fun p hp e => ?_) ?_
        · exact gone_ok K6 hN hi hln fun s7 J7 => ⟨_, _, J7, q6⟩
        · obtain ⟨v, hv⟩ := J6.cell y l hl
          obtain ⟨ov, e1, e2⟩ := hv
          rw [e, p6.1] at e1
          cases e1
          exact p6.2.2.2.2 _ e2
        · have e1 := (J.pin p hp).1
          rw [e, nI] at e1
          cases e1
        · cases e : X.s_0.heap.get? a with
          | none => rfl
          | some o =>
            obtain ⟨o', e'⟩ := J.base.there a o e (by rw [hex]; exact List.not_mem_nil)
            rw [nI] at e'
            cases e'
      | .brk, ⟨_, _, _, q6⟩ => exact False.elim q6
      | .cont, ⟨_, _, _, q6⟩ => exact False.elim q6
      | .ret _, ⟨_, _, _, _, _, q6⟩ => exact False.elim q6
end
end KB
set_option Elab.async false
set_option linter.all false
set_option maxRecDepth 100000
set_option maxHeartbeats 4000000
/-! Errors with a field: raised, kept, asked what they are, their field read. -/
namespace KB
open PySem PySem.Spec PyProof.Rows L2
theorem errBinds {K : PySem.W.Frag} {fd : FuncData} (B : ErrB K fd) : Binds K fd ["self", "value"] [] := fun s us X hl => by
  rw [List.append_nil] at hl ⊢
  match us, hl with
  | [a, u], _ => exact B.b1 s a u X
/-- raise C(e), as a wish -/
def tRaise (C : Addr) (te : TE) : L2.St → Hp → XK → Prop := tMkO C (spErr C) [] (tCons te tNil)
/-- what is left to be shown of it, behind e -/
theorem raise_in {C : Addr} {v : V} {H : Hp} {Q : XK} {E : XK} (q : ∀ d, H d = none → Q (.ref C) (some d) (upd H d (.xd [("value", v)]))) : ([v] : List V).length ≤ 1000 ∧ ∀ a, H a = none → spErr C (.ref a :: ([v] ++ [])) (upd H a (exo a C none))
    (fun u H2 => u = .non ∧ ∃ (d : Addr) (fs : List (Str × V)), H2 a = some (exo a C (some d)) ∧ H2 d = some (exd d fs) ∧ H d = none ∧ Q (.ref C) (some d) (upd (del H2 a) d (.xd fs))) E := by
  refine ⟨Nat.le_of_ble_eq_true rfl, fun a na => ⟨a, v, rfl, upd_same, fun d hd ne => ⟨rfl, d, [("value", v)], upd_same, by rw [upd_ne ne, upd_same], ?_, ?_⟩⟩⟩
  · rw [upd_ne ne] at hd
    exact hd
  · rw [upd_ne ne] at hd
    have e : upd (del (upd (upd (upd H a (exo a C none)) d (exd d [("value", v)])) a (exo a C (some d))) a) d (.xd [("value", v)]) = upd H d (.xd [("value", v)]) := by
      funext b
      by_cases h1 : b = d
      · rw [h1, upd_same, upd_same]
      · rw [upd_ne h1, upd_ne h1]
        by_cases h2 : b = a
        · rw [h2, na]
          exact del_same
        · rw [del_ne h2, upd_ne h2, upd_ne h1, upd_ne h2]
    rw [e]
    exact q d hd
section
variable {X : Cx} {C fI : Addr} {fd : FuncData} {k : Nat} {x : Str} {p pos : Pos} {e : Expr} {te : TE}
theorem pmk_err (T : ErrC X.K C fI) (F1 : FnOk X.prog X.w X.K X.mg X.base CX0 k fI fd ["self", "value"] (spErr C)) (B : ErrB X.K fd) (hr : Room (k + 1) X.A) (hm : X.mg x = some (.ref C)) (he : PE X e te) (hg : Gl X x := by rfl)
    (hdb : (x == ("__debug__" : Str)) = false := by decide) (hs : starEach [e] X.env = (false, eval e X.env) :: starEach [] X.env := by rfl) (hpl : (backTo pos (starEach [] X.env)).any (·.1) = false := by rfl) :
    PMk X (.Call (.Name x p) [e] [] pos) (tRaise C te) :=
  pmk_oex T.ox T.iC T.tI F1 hr (errBinds B) .nil pass0 hg hm (pa_cons he pa_nil hs) hdb hs hpl
end
/-- x is a caught error of the class at C whose field holds v -/
def Kept (H : Hp) (C : Addr) (v x : V) : Prop := ∃ a d, x = .ref a ∧ H a = some (ExK (.ref C) (some d) a) ∧ H d = some (.xd [("value", v)])
theorem Kept.same {H H' : Hp} {C : Addr} {v x : V} (k : Same H H') (h : Kept H C v x) : Kept H' C v x := by
  obtain ⟨a, d, e1, e2, e3⟩ := h
  exact ⟨a, d, e1, k _ _ e2, k _ _ e3⟩
section
variable {X : Cx} {pins : List (Addr × Obj)} {σ : L2.St} {H : Hp} {s : Shared} {C : Addr} {v : V}
theorem kept_inst {a : Addr} (I : Inv X pins σ H s) (h : Kept H C v (.ref a)) : ∃ ox od, PySem.W.InstAt s.heap a ox C (some od) ∧ ∃ dd mA, ox.dict = some dd ∧ s.heap.Ns1 dd mA ∧ RelO (some v) (mA "value") ∧ s.heap.get? dd = some od := by
  obtain ⟨a', d, e1, ha, hd⟩ := h
  cases e1
  obtain ⟨⟨oe, fs, he, hz, hf⟩, _⟩ := I.hok a _ ha
  have hx : ObjOk X.prog X.w H s.heap d (.xd [("value", v)]) := I.hok d _ hd
  obtain ⟨mA, hns, hr⟩ := hx
  obtain ⟨od, ho, _⟩ := lookIn_ns hns
  exact ⟨oe, od, ⟨he, hz.1, by unfold PySem.W.notCls; rw [hf] <;> rfl, by rw [hz.2]; exact ho⟩, d, mA, hz.2, hns, hr "value", ho⟩
/-- isinstance(x, c) of a kept error -/
def rIsK (K : PySem.W.Frag) : List V → Hp → VK → Prop := fun xs H Q => ∃ (x : V) (C : Addr) (v c : V) (cv : Value) (b : Bool), xs = [x, c] ∧ Kept H C v x ∧ ExcC K C ∧ ClsV c cv ∧ PySem.W.kitOne K (.ref C) cv = some b ∧ Q (.bl b) H
theorem call_isK : CallR X (.builtin "isinstance") (rIsK X.K) := by
  intro pins s σ H xs us Q I r h
  obtain ⟨x, C, v, c, cv, b, rfl, hx, T, kc, e, q⟩ := h
  obtain ⟨u1, u2, rfl, r1, r2⟩ := vals2 r
  obtain rfl := kc.eq r2
  obtain ⟨a, d, rfl, _⟩ := id hx
  obtain rfl : u1 = Value.ref a := r1
  obtain ⟨ox, od, J, _⟩ := kept_inst I hx
  exact PySem.W.kia_one (PySem.W.err_kit T) I.kIn ⟨ox, some od, J⟩ e (fun z => nomatch z) fun tk => ⟨.bl b, H, I.tok tk, rfl, q⟩
/-- x.value of a kept error -/
def tKeptVal (K : PySem.W.Frag) (te : TE) : TE := fun σ H Q => te σ H fun x H1 => ∃ C fI v, Kept H1 C v x ∧ ErrC K C fI ∧ Q v H1
theorem pe_keptVal {e : Expr} {te : TE} {pos : Pos} (he : PE X e te) (hb : attributeBase e "value" X.env (eval e X.env) = eval e X.env := by rfl) : PE X (.Attribute e "value" pos) (tKeptVal X.K te) := by
  refine ⟨fun pins s σ H Q I h => ?_⟩
  refine attr_of hb (thn (he.run pins s σ H _ I h) fun u s1 hh => ?_)
  obtain ⟨x, H1, I1, rx, C, fI, v, hk, T, q⟩ := hh
  obtain ⟨a, d, rfl, _⟩ := id hk
  obtain rfl : u = Value.ref a := rx
  obtain ⟨ox, od, J, dd, mA, ed, hns, hr, ho⟩ := kept_inst I1 hk
  obtain ⟨w, hw, rw'⟩ := RelO.some_of (v := v) (o := mA "value") hr
  obtain ⟨od', ho', hl⟩ := lookIn_ns hns
  rw [ho] at ho'
  cases ho'
  exact HandSPX.exc_get I1.kIn J T.xf.ga T.xf.gg T.xf.exC (PySem.W.findObj_own T.xf.hdC T.nv rfl (by rw [hl, hw])) (handed_of rw') ⟨v, H1, I1.tok _, rw', q⟩
end
end KB
set_option Elab.async false
set_option linter.all false
set_option maxRecDepth 100000
set_option maxHeartbeats 8000000
/-! Room's defs, first part: judges of any object, needs. -/
namespace K36
open PySem PySem.Spec PyProof.Rows L2 KB
theorem TD.tup {K : PySem.W.Frag} {H : Hp} {n : Nat} {a : Addr} {xs : List V} {ds : List PyData} (h : SqT K H a xs) (l : xs.length = ds.length) (s : ds.length ≤ 1000) (k : ∀ (i : Nat) (u : V) (e : PyData), xs[i]? = some u → ds[i]? = some e → TD K H n u e) : TD K H (n + 1) (.ref a) (.tuple ds) :=
  .inr (.inl ⟨a, xs, ds, rfl, l, s, .inr ⟨h, rfl⟩, k⟩)
structure LifeAt (K : PySem.W.Frag) (H : Hp) (a : Addr) (es : List Ev) : Prop where
  ex : ∃ ts : List Addr, H a = some (.lst (ts.map V.ref)) ∧ ts.length = es.length ∧ ∀ (i : Nat) (t : Addr) (e : Ev), ts[i]? = some t → es[i]? = some e → SqT K H t e.v
theorem LifeAt.same {K : PySem.W.Frag} {H H' : Hp} {a : Addr} {es : List Ev} (k : Same H H') (h : LifeAt K H a es) : LifeAt K H' a es := by
  obtain ⟨ts, h1, h2, h3⟩ := h
  exact ⟨ts, k _ _ h1, h2, fun i t e e1 e2 => SqT_up k (h3 i t e e1 e2)⟩
theorem Ev.td {K : PySem.W.Frag} {H : Hp} {t : Addr} {e : Ev} (n : Nat) (h : SqT K H t e.v) : TD K H (n + 1) (.ref t) e.d := by
  cases e with
  | line => exact TD.tup h rfl (by decide) (td_cons (TD.flat (.str _)) td_nil)
  | root => exact TD.tup h rfl (by decide) (td_cons (TD.flat (.str _)) td_nil)
  | stand m => exact TD.tup h rfl (Nat.le_of_ble_eq_true rfl) (td_cons (TD.flat (.str _)) (td_cons (TD.flat (.int _)) td_nil))
theorem LifeAt.td {K : PySem.W.Frag} {H : Hp} {a : Addr} {es : List Ev} (n : Nat) (h : LifeAt K H a es) (l : es.length ≤ 1000) : TD K H (n + 2) (.ref a) (.list (es.map Ev.d)) := by
  obtain ⟨ts, h1, h2, h3⟩ := h
  refine TD.lst h1 (by rw [List.length_map, List.length_map, h2]) (by rw [List.length_map]; exact l) fun i u e e1 e2 => ?_
  rw [List.getElem?_map] at e1 e2
  obtain ⟨t, q1, rfl⟩ := Option.map_eq_some_iff.mp e1
  obtain ⟨v, q2, rfl⟩ := Option.map_eq_some_iff.mp e2
  exact Ev.td n (h3 i t v q1 q2)
theorem dpAll_evs {K : PySem.W.Frag} {H : Hp} : ∀ {ts : List Addr} {es : List Ev}, ts.length = es.length → (∀ (i : Nat) (t : Addr) (e : Ev), ts[i]? = some t → es[i]? = some e → SqT K H t e.v) → DpAll K H (ts.map V.ref) (es.map Ev.d)
  | [], [], _, _ => .nil
  | [], _ :: _, l, _ => by cases l
  | _ :: _, [], l, _ => by cases l
  | t :: ts, e :: es, l, k => by
    refine .cons ?_ (dpAll_evs (Nat.succ.inj l) fun i u f h1 h2 => k (i + 1) u f h1 h2)
    have h := k 0 t e rfl rfl
    cases e with
    | line => exact .tup h (.cons (.str _) .nil)
    | root => exact .tup h (.cons (.str _) .nil)
    | stand m => exact .tup h (.cons (.str _) (.cons (.int _) .nil))
theorem shaped_ev (e : Ev) : SeqAt.shaped e.d = true := by
  cases e <;> simp [Ev.d, SeqAt.shaped, PyData.depth, PyData.depthAll, PyData.canLay0, PyData.canLayAll0] <;> decide +kernel
theorem eqv_line (e : Ev) : PyData.eqv e.d Ev.line.d = decide (e = .line) := by
  cases e <;> rfl
theorem eqv_root (e : Ev) : PyData.eqv e.d Ev.root.d = decide (e = .root) := by
  cases e <;> rfl
abbrev aL (K : PySem.W.Frag) : Addr := He.ga K "LINE"
abbrev aR (K : PySem.W.Frag) : Addr := He.ga K "ROOT"
structure Cn (K : PySem.W.Frag) (mg : Str → Option Value) : Prop where
  gL : mg "LINE" = some (.ref (aL K))
  gR : mg "ROOT" = some (.ref (aR K))
  tL : ∀ H, SqT K H (aL K) [.str "line"]
  tR : ∀ H, SqT K H (aR K) [.str "root"]
theorem Ev.dp {K : PySem.W.Frag} {H : Hp} {t : Addr} {e : Ev} (h : SqT K H t e.v) : Dp K H (.ref t) e.d := by
  cases e with
  | line => exact .tup h (.cons (.str _) .nil)
  | root => exact .tup h (.cons (.str _) .nil)
  | stand m => exact .tup h (.cons (.str _) (.cons (.int _) .nil))
theorem LifeAt.dp {K : PySem.W.Frag} {H : Hp} {a : Addr} {es : List Ev} (h : LifeAt K H a es) : Dp K H (.ref a) (.list (es.map Ev.d)) := by
  obtain ⟨ts, h1, h2, h3⟩ := h
  exact .lst (SqL.of h1) (dpAll_evs h2 h3)
theorem Cn.dL {K : PySem.W.Frag} {mg : Str → Option Value} (C : Cn K mg) (H : Hp) : Dp K H (.ref (aL K)) Ev.line.d := .tup (C.tL H) (.cons (.str _) .nil)
theorem Cn.dR {K : PySem.W.Frag} {mg : Str → Option Value} (C : Cn K mg) (H : Hp) : Dp K H (.ref (aR K)) Ev.root.d := .tup (C.tR H) (.cons (.str _) .nil)
/-- told a count or not -/
def CntV (K : PySem.W.Frag) (H : Hp) (x : V) (c : Bool) : Prop := ∃ t i b, TyX K H x (.type t) ∧ kitB t "int" = some i ∧ kitB t "bool" = some b ∧ ((i && !b) = true → ∃ j : Int, x = .int j ∧ c = decide (j ≥ 0)) ∧ ((i && !b) = false → c = false)
theorem CntV.int {K : PySem.W.Frag} {H : Hp} (j : Int) : CntV K H (.int j) (decide (j ≥ 0)) := ⟨"int", true, false, .base (.int j), by decide +kernel, by decide +kernel, fun _ => ⟨j, rfl, rfl⟩, fun z => (by cases z)⟩
theorem CntV.nat {K : PySem.W.Frag} {H : Hp} (j : Nat) : CntV K H (.int (j : Int)) true := by
  have := CntV.int (K := K) (H := H) (j : Int)
  rwa [decide_eq_true (by omega)] at this
theorem CntV.bl {K : PySem.W.Frag} {H : Hp} (b : Bool) : CntV K H (.bl b) false := ⟨"bool", true, true, .base (.bl b), by decide +kernel, by decide +kernel, fun z => (by cases z), fun _ => rfl⟩
theorem CntV.str {K : PySem.W.Frag} {H : Hp} (z : Str) : CntV K H (.str z) false := ⟨"str", false, false, .base (.str z), by decide +kernel, by decide +kernel, fun z => (by cases z), fun _ => rfl⟩
theorem CntV.lst {K : PySem.W.Frag} {H : Hp} {a : Addr} {xs : List V} (h : H a = some (.lst xs)) : CntV K H (.ref a) false := ⟨"list", false, false, .base (.lst h), by decide +kernel, by decide +kernel, fun z => (by cases z), fun _ => rfl⟩
theorem TyX_up {K : PySem.W.Frag} {H H' : Hp} (k : Same H H') {x : V} {t : Value} (h : TyX K H x t) : TyX K H' x t := by
  cases h with
  | base b =>
    refine .base ?_
    cases b <;> first
      | (constructor; done)
      | exact .lst (k _ _ (by assumption))
      | exact .tup (k _ _ (by assumption))
      | exact .dK (k _ _ (by assumption))
      | exact .dT (k _ _ (by assumption))
      | exact .frz (k _ _ (by assumption))
      | exact .ins (k _ _ (by assumption)) (by assumption) (by assumption) (by assumption) (by assumption) (by assumption)
  | byt b => exact .byt b
  | set h => exact .set (k _ _ h)
  | kList a b => exact .kList a b
  | kTuple a b => exact .kTuple a b
  | kDict a b => exact .kDict a b
  | fTuple h => exact .fTuple (k _ _ h)
  | fDict h => exact .fDict (k _ _ h)
theorem CntV.up {K : PySem.W.Frag} {H H' : Hp} (k : Same H H') {x : V} {c : Bool} : CntV K H x c → CntV K H' x c := fun ⟨t, i, b, h, r⟩ => ⟨t, i, b, TyX_up k h, r⟩
theorem CntV.int_of {K : PySem.W.Frag} {H : Hp} {x : V} {c : Bool} (h : CntV K H x c) (e : c = true) : ∃ j : Int, x = .int j ∧ 0 ≤ j := by
  obtain ⟨t, i, b, ty, k1, k2, k3, k4⟩ := h
  cases q : (i && !b) with
  | false => rw [k4 q] at e; cases e
  | true =>
    obtain ⟨j, rfl, rfl⟩ := k3 q
    exact ⟨j, rfl, of_decide_eq_true e⟩
theorem CntV.non {K : PySem.W.Frag} {H : Hp} : CntV K H .non false := ⟨"NoneType", false, false, .base .non, by decide +kernel, by decide +kernel, fun z => (by cases z), fun _ => rfl⟩
theorem CntV.tup {K : PySem.W.Frag} {H : Hp} {a : Addr} {xs : List V} (h : SqT K H a xs) : CntV K H (.ref a) false := ⟨"tuple", false, false, sqT_ty h, by decide +kernel, by decide +kernel, fun z => (by cases z), fun _ => rfl⟩
theorem CntV.dct {K : PySem.W.Frag} {H : Hp} {a : Addr} {kvs : List (Key × V)} (h : H a = some (.dK kvs)) : CntV K H (.ref a) false := ⟨"dict", false, false, .base (.dK h), by decide +kernel, by decide +kernel, fun z => (by cases z), fun _ => rfl⟩
def cntB : PyData → Bool
  | .int i => decide (i ≥ 0)
  | _ => false
theorem CntV.flat {K : PySem.W.Frag} {H : Hp} {x : V} {d : PyData} (h : FlatD x d) : CntV K H x (cntB d) := by
  cases h with
  | non => exact CntV.non
  | bl b => exact CntV.bl b
  | int i => exact CntV.int i
  | str z => exact CntV.str z
theorem CntV.td {K : PySem.W.Frag} {H : Hp} {x : V} {d : PyData} : ∀ {n : Nat}, TD K H n x d → CntV K H x (cntB d)
  | 0, h => CntV.flat h
  | n + 1, h => by
    rcases h with h | ⟨a, xs, ds, rfl, l, l1, t, c⟩ | ⟨a, ps, m, rfl, _, ha, rfl⟩
    · exact CntV.flat h
    · rcases t with ⟨ha, rfl⟩ | ⟨ha, rfl⟩
      · exact CntV.lst ha
      · exact CntV.tup ha
    · exact CntV.dct ha
theorem layAll_mem : ∀ {ds : List PyData} {d : PyData}, d ∈ ds → PyData.canLayAll0 ds = true → d.canLay0 = true ∧ d.depth ≤ PyData.depthAll ds
  | d0 :: ds, d, m, h => by
    simp only [PyData.canLayAll0, Bool.and_eq_true] at h
    simp only [PyData.depthAll]
    rcases List.mem_cons.mp m with rfl | m
    · exact ⟨h.1, Nat.le_max_left _ _⟩
    · obtain ⟨a, b⟩ := layAll_mem m h.2
      exact ⟨a, Nat.le_trans b (Nat.le_max_right _ _)⟩
theorem shaped_tup {ds : List PyData} (h : SeqAt.shaped (.tuple ds) = true) : ∀ d ∈ ds, SeqAt.shaped d = true := fun d m => by
  have h1 := SeqAt.canLay_of_shaped h
  have h2 := SeqAt.depth_of_shaped h
  simp only [PyData.canLay0] at h1
  simp only [PyData.depth] at h2
  obtain ⟨a, b⟩ := layAll_mem m h1
  exact Bool.and_eq_true_iff.mpr ⟨a, decide_eq_true (by omega)⟩
theorem shaped_lst {ds : List PyData} (h : SeqAt.shaped (.list ds) = true) : ∀ d ∈ ds, SeqAt.shaped d = true := fun d m => by
  have h1 := SeqAt.canLay_of_shaped h
  have h2 := SeqAt.depth_of_shaped h
  simp only [PyData.canLay0] at h1
  simp only [PyData.depth] at h2
  obtain ⟨a, b⟩ := layAll_mem m h1
  exact Bool.and_eq_true_iff.mpr ⟨a, decide_eq_true (by omega)⟩
theorem FlatD.dpX {K : PySem.W.Frag} {H : Hp} {x : V} {d : PyData} (h : FlatD x d) : Dp K H x d := by
  cases h with
  | non => exact .non
  | bl b => exact .bl b
  | int i => exact .int i
  | str z => exact .str z
theorem TD.dp {K : PySem.W.Frag} {H : Hp} : ∀ {n : Nat} {x : V} {d : PyData}, TD K H n x d → SeqAt.shaped d = true → Dp K H x d
  | 0, _, _, h, _ => FlatD.dpX h
  | n + 1, _, _, h, sh => by
    rcases h with h | ⟨a, xs, ds, rfl, l, l1, t, c⟩ | ⟨a, ps, m, rfl, _, ha, rfl⟩
    · exact FlatD.dpX h
    · rcases t with ⟨ha, rfl⟩ | ⟨ha, rfl⟩
      · exact .lst (SqL.of ha) (dpAll_of l fun i u e h1 h2 => TD.dp (c i u e h1 h2) (shaped_lst sh _ (List.mem_of_getElem? h2)))
      · exact .tup ha (dpAll_of l fun i u e h1 h2 => TD.dp (c i u e h1 h2) (shaped_tup sh _ (List.mem_of_getElem? h2)))
    · have := SeqAt.canLay_of_shaped sh
      simp only [PyData.canLay0] at this
      cases this
def tL : PyData := Ev.d .line
def tR : PyData := Ev.d .root
def standB : PyData → Bool
  | .tuple [a, b] => PyData.eqv a (.str "stand") && cntB b
  | _ => false
def evB (d : PyData) : Bool := PyData.eqv d Ev.line.d || (PyData.eqv d Ev.root.d || standB d)
/-- an error of the class C with v within may be raised -/
def Rs (C : Addr) (v : V) (H : Hp) (E : XK) : Prop := ∀ d H', Same H H' → H d = none → H' d = some (.xd [("value", v)]) → E (.ref C) (some d) H'
theorem Rs.next {C : Addr} {v : V} {H H' : Hp} {E : XK} (h : Rs C v H E) (k : Same H H') : Rs C v H' E := fun d H2 s n e => h d H2 (k.trans s) (none_back k n) e
structure ErrOk (P : Program) (w : World) (K : PySem.W.Frag) (mg : Str → Option Value) (base : Heap) (x : Str) (C : Addr) : Prop where
  ex : ∃ fI fdI, ErrC K C fI ∧ FnOk P w K mg base CX0 1 fI fdI ["self", "value"] (spErr C) ∧ ErrB K fdI
  g : mg x = some (.ref C)
def spWhole (K : PySem.W.Frag) : Sp := fun vs H Q _ => ∃ (x : V) (t : String) (i b : Bool), vs = [x] ∧ TyX K H x (.type t) ∧ kitB t "int" = some i ∧ kitB t "bool" = some b ∧ Q (.bl (i && !b)) H
def spCount (K : PySem.W.Frag) : Sp := fun vs H Q _ => ∃ (x : V) (c : Bool), vs = [x] ∧ CntV K H x c ∧ Q (.bl c) H
def spBelow (K : PySem.W.Frag) : Sp := fun vs H Q _ => (∃ j b : Int, vs = [.int j, .int b] ∧ Q (.bl (decide (0 ≤ j) && decide (j < b))) H) ∨ ∃ (x : V) (b : Int), vs = [x, .int b] ∧ CntV K H x false ∧ Q (.bl false) H
def spFrom1 (K : PySem.W.Frag) : Sp := fun vs H Q _ => (∃ j : Int, vs = [.int j] ∧ Q (.bl (decide (1 ≤ j))) H) ∨ ∃ x : V, vs = [x] ∧ CntV K H x false ∧ Q (.bl false) H
def spTupOf (K : PySem.W.Frag) : Sp := fun vs H Q _ => (∃ (x : V) (t : String) (n : Int), vs = [x, .int n] ∧ TyX K H x (.type t) ∧ kitB t "tuple" = some false ∧ Q (.bl false) H) ∨ ∃ (t : Addr) (xs : List V) (n : Int), vs = [.ref t, .int n] ∧ SqT K H t xs ∧ Q (.bl (decide ((xs.length : Int) = n))) H
def ascB (ns : List Nat) : Bool := (List.range (ns.length - 1)).all fun i => decide (ns.getD i 0 < ns.getD (1 + i) 0)
def spAsc : Sp := fun vs H Q _ => ∃ (a : Addr) (ns : List Nat), vs = [.ref a] ∧ H a = some (.lst (numsV ns)) ∧ ns.length ≤ 1000 ∧ ∀ H', Same H H' → Q (.bl (ascB ns)) H'
/-- not a list of counts -/
def NoCnts (K : PySem.W.Frag) (H : Hp) (x : V) : Prop := (∃ t, TyX K H x (.type t) ∧ kitB t "list" = some false) ∨ ∃ (a : Addr) (xs : List V) (bs : List Bool), x = .ref a ∧ H a = some (.lst xs) ∧ xs.length ≤ 1000 ∧ bs.length = xs.length ∧ false ∈ bs ∧ ∀ (i : Nat) (y : V) (b : Bool), xs[i]? = some y → bs[i]? = some b → CntV K H y b
def spAscC (K : PySem.W.Frag) : Sp := fun vs H Q _ => (∃ x, vs = [x] ∧ NoCnts K H x ∧ ∀ H', Same H H' → Q (.bl false) H') ∨ ∃ (a : Addr) (ns : List Nat), vs = [.ref a] ∧ H a = some (.lst (numsV ns)) ∧ ns.length ≤ 1000 ∧ ∀ H', Same H H' → Q (.bl (ascB ns)) H'
def spAscB (K : PySem.W.Frag) : Sp := fun vs H Q _ => (∃ (x : V) (n : Int), vs = [x, .int n] ∧ NoCnts K H x ∧ ∀ H', Same H H' → Q (.bl false) H') ∨ ∃ (a : Addr) (ns : List Nat) (n : Nat), vs = [.ref a, .int (n : Int)] ∧ H a = some (.lst (numsV ns)) ∧ ns.length ≤ 1000 ∧ ∀ H', Same H H' → Q (.bl (ascB ns && ns.all fun x => decide (x < n))) H'
def spNeedC (K : PySem.W.Frag) : Sp := fun vs H Q E => (∃ i : Int, vs = [.int i] ∧ 0 ≤ i ∧ Q .non H) ∨ ∃ x, vs = [x] ∧ CntV K H x false ∧ Rs (cCnt K) x H E
/-- not a count from 1 on -/
def No1 (K : PySem.W.Frag) (H : Hp) (x : V) : Prop := CntV K H x false ∨ ∃ j : Int, x = .int j ∧ j < 1
def spNeed1 (K : PySem.W.Frag) : Sp := fun vs H Q E => (∃ i : Int, vs = [.int i] ∧ 1 ≤ i ∧ Q .non H) ∨ ∃ x, vs = [x] ∧ No1 K H x ∧ Rs (cCnt K) x H E
def spIsStand (K : PySem.W.Frag) : Sp := fun vs H Q _ => ∃ (x : V) (d : PyData) (n : Nat), vs = [x] ∧ TD K H n x d ∧ SeqAt.shaped d = true ∧ Q (.bl (standB d)) H
def spIsEvent (K : PySem.W.Frag) : Sp := fun vs H Q _ => ∃ (x : V) (d : PyData) (n : Nat), vs = [x] ∧ TD K H n x d ∧ SeqAt.shaped d = true ∧ Q (.bl (evB d)) H
theorem cut_tail (ns : List Nat) : cutV (numsV ns) (some 1) none = (numsV ns).drop 1 := by
  unfold cutV
  by_cases h : 1 ≤ (numsV ns).length
  · have e1 : HT.sIx (numsV ns).length 0 (some 1) = 1 := by
      unfold HT.sIx
      simp
      omega
    have e2 : HT.sIx (numsV ns).length (numsV ns).length none = (numsV ns).length := rfl
    rw [e1, e2, List.take_of_length_le (by rw [List.length_drop]; exact Nat.le_refl _)]
  · have e0 : numsV ns = [] := List.length_eq_zero_iff.mp (by omega)
    rw [e0]
    rfl
section
variable {P : Program} {w : World} {K : PySem.W.Frag} {mg : Str → Option Value} {base : Heap}
abbrev s_is_whole_number : Stmt := top 7
abbrev N_is_whole_number : List Str := ["value"]
theorem sc_is_whole_number : FnScope N_is_whole_number ["value"] (defScope s_is_whole_number) := ⟨rfl, rfl, rfl, by decide +kernel, rfl, by decide +kernel, by decide +kernel⟩
theorem ok_is_whole_number {f : Addr} {fd : FuncData} (F : FnP K "is_whole_number" s_is_whole_number f fd) (Z : FreeS mg) :
    FnOk P w K mg base CX0 1 f fd ["value"] (spWhole K) := by
  refine F.ok sc_is_whole_number (fun vs H Q E h => ?_) (fun cdv A outer s H vs Q E hr h => ?_)
  · obtain ⟨x, t, i, b, rfl, _⟩ := h
    rfl
  · obtain ⟨x, t, i, b, rfl, ty, k1, k2, k⟩ := h
    have nd := sc_is_whole_number.nd
    refine ⟨_, PSs.nox (pss_one (ps_ret (pe_and (pe_callB call_isi (by rfl) Z.isi (by decide +kernel) (pa_cons (pv 0) (pa_cons (pe_bltn (v := .ty "int") (by rfl) Z.int (by decide +kernel) rfl) pa_nil))) (pe_one (pe_not (pe_callB call_isi (by rfl) Z.isi (by decide +kernel) (pa_cons (pv 0) (pa_cons (pe_bltn (v := .ty "bool") (by rfl) Z.tbool (by decide +kernel) rfl) pa_nil)))))))), ?_⟩
    cases i with
    | false => exact ⟨_, rfl, x, .ty "int", .type t, .type "int", false, rfl, .ty _, ty, kit_ty k1, false, rfl, iteF k⟩
    | true =>
      refine ⟨_, rfl, x, .ty "int", .type t, .type "int", true, rfl, .ty _, ty, kit_ty k1, true, rfl, iteT ?_⟩
      exact ⟨_, rfl, x, .ty "bool", .type t, .type "bool", b, rfl, .ty _, ty, kit_ty k2, b, rfl, k⟩
abbrev s_is_count : Stmt := top 8
abbrev N_is_count : List Str := ["value"]
theorem sc_is_count : FnScope N_is_count ["value"] (defScope s_is_count) := ⟨rfl, rfl, rfl, by decide +kernel, rfl, by decide +kernel, by decide +kernel⟩
theorem ok_is_count {f : Addr} {fd : FuncData} (F : FnP K "is_count" s_is_count f fd) (Z : FreeS mg)
    {f_is_whole_number : Addr} {d_is_whole_number : FuncData} (g_is_whole_number : mg "is_whole_number" = some (.ref f_is_whole_number)) (F_is_whole_number : FnP K "is_whole_number" s_is_whole_number f_is_whole_number d_is_whole_number) (G_is_whole_number : FnOk P w K mg base CX0 1 f_is_whole_number d_is_whole_number ["value"] (spWhole K)) :
    FnOk P w K mg base CX0 2 f fd ["value"] (spCount K) := by
  have b_is_whole_number : Binds K d_is_whole_number ["value"] [] := F_is_whole_number.bindsN fun _ _ _ _ _ _ us hl => match us, hl with | [_], _ => rfl
  refine F.ok sc_is_count (fun vs H Q E h => ?_) (fun cdv A outer s H vs Q E hr h => ?_)
  · obtain ⟨x, c, rfl, _⟩ := h
    rfl
  · obtain ⟨x, c, rfl, ⟨t, i, b, ty, k1, k2, k3, k4⟩, k⟩ := h
    have nd := sc_is_count.nd
    refine ⟨_, PSs.nox (pss_one (ps_ret (pe_and (pe_call G_is_whole_number (hr.mono (by decide)) rfl g_is_whole_number F_is_whole_number.kp b_is_whole_number .nil pass0 (pa_cons (pv 0) (pa_nil))) (pe_one (pe_cmpR op_ge (pv 0) (pe_int) (nomark _)))))), ?_⟩
    refine ⟨_, rfl, x, t, i, b, rfl, ty, k1, k2, _, rfl, ?_⟩
    cases e : (i && !b) with
    | false =>
      rw [k4 e] at k
      exact iteF k
    | true =>
      obtain ⟨j, rfl, rfl⟩ := k3 e
      exact iteT ⟨_, rfl, _, _, rfl, rfl, k⟩
abbrev s_is_count_below : Stmt := top 9
abbrev N_is_count_below : List Str := ["value", "bound"]
theorem sc_is_count_below : FnScope N_is_count_below ["value", "bound"] (defScope s_is_count_below) := ⟨rfl, rfl, rfl, by decide +kernel, rfl, by decide +kernel, by decide +kernel⟩
theorem ok_is_count_below {f : Addr} {fd : FuncData} (F : FnP K "is_count_below" s_is_count_below f fd) (Z : FreeS mg)
    {f_is_count : Addr} {d_is_count : FuncData} (g_is_count : mg "is_count" = some (.ref f_is_count)) (F_is_count : FnP K "is_count" s_is_count f_is_count d_is_count) (G_is_count : FnOk P w K mg base CX0 2 f_is_count d_is_count ["value"] (spCount K)) :
    FnOk P w K mg base CX0 3 f fd ["value", "bound"] (spBelow K) := by
  have b_is_count : Binds K d_is_count ["value"] [] := F_is_count.bindsN fun _ _ _ _ _ _ us hl => match us, hl with | [_], _ => rfl
  refine F.ok sc_is_count_below (fun vs H Q E h => ?_) (fun cdv A outer s H vs Q E hr h => ?_)
  · rcases h with ⟨j, b, rfl, _⟩ | ⟨x, b, rfl, _⟩ <;> rfl
  · have hh := h
    clear h
    have nd := sc_is_count_below.nd
    refine ⟨_, PSs.nox (pss_one (ps_ret (pe_and (pe_call G_is_count (hr.mono (by decide)) rfl g_is_count F_is_count.kp b_is_count .nil pass0 (pa_cons (pv 0) (pa_nil))) (pe_one (pe_cmpR op_lt (pv 0) (pv 1) (nomark _)))))), ?_⟩
    rcases hh with ⟨j, b, rfl, k⟩ | ⟨x, b, rfl, hc, k⟩
    · refine ⟨_, rfl, _, _, rfl, CntV.int j, _, rfl, ?_⟩
      by_cases h : 0 ≤ j
      · rw [decide_eq_true h, Bool.true_and] at k
        rw [decide_eq_true (show j ≥ 0 from h)]
        exact iteT ⟨_, rfl, _, rfl, _, _, rfl, rfl, k⟩
      · rw [decide_eq_false h, Bool.false_and] at k
        rw [decide_eq_false (show ¬ j ≥ 0 from h)]
        exact iteF k
    · exact ⟨_, rfl, _, false, rfl, hc, false, rfl, iteF k⟩
abbrev s_is_count_from_one : Stmt := top 10
abbrev N_is_count_from_one : List Str := ["value"]
theorem sc_is_count_from_one : FnScope N_is_count_from_one ["value"] (defScope s_is_count_from_one) := ⟨rfl, rfl, rfl, by decide +kernel, rfl, by decide +kernel, by decide +kernel⟩
theorem ok_is_count_from_one {f : Addr} {fd : FuncData} (F : FnP K "is_count_from_one" s_is_count_from_one f fd) (Z : FreeS mg)
    {f_is_count : Addr} {d_is_count : FuncData} (g_is_count : mg "is_count" = some (.ref f_is_count)) (F_is_count : FnP K "is_count" s_is_count f_is_count d_is_count) (G_is_count : FnOk P w K mg base CX0 2 f_is_count d_is_count ["value"] (spCount K)) :
    FnOk P w K mg base CX0 3 f fd ["value"] (spFrom1 K) := by
  have b_is_count : Binds K d_is_count ["value"] [] := F_is_count.bindsN fun _ _ _ _ _ _ us hl => match us, hl with | [_], _ => rfl
  refine F.ok sc_is_count_from_one (fun vs H Q E h => ?_) (fun cdv A outer s H vs Q E hr h => ?_)
  · rcases h with ⟨j, rfl, _⟩ | ⟨x, rfl, _⟩ <;> rfl
  · have hh := h
    clear h
    have nd := sc_is_count_from_one.nd
    refine ⟨_, PSs.nox (pss_one (ps_ret (pe_and (pe_call G_is_count (hr.mono (by decide)) rfl g_is_count F_is_count.kp b_is_count .nil pass0 (pa_cons (pv 0) (pa_nil))) (pe_one (pe_cmpR op_ge (pv 0) (pe_int) (nomark _)))))), ?_⟩
    rcases hh with ⟨j, rfl, k⟩ | ⟨x, rfl, hc, k⟩
    · refine ⟨_, rfl, _, _, rfl, CntV.int j, _, rfl, ?_⟩
      by_cases h : 0 ≤ j
      · rw [decide_eq_true (show j ≥ 0 from h)]
        exact iteT ⟨_, rfl, _, _, rfl, rfl, k⟩
      · rw [decide_eq_false (show ¬ 1 ≤ j by omega)] at k
        rw [decide_eq_false (show ¬ j ≥ 0 from h)]
        exact iteF k
    · exact ⟨_, rfl, _, false, rfl, hc, false, rfl, iteF k⟩
abbrev s_is_tuple_of : Stmt := top 11
abbrev N_is_tuple_of : List Str := ["value", "length"]
theorem sc_is_tuple_of : FnScope N_is_tuple_of ["value", "length"] (defScope s_is_tuple_of) := ⟨rfl, rfl, rfl, by decide +kernel, rfl, by decide +kernel, by decide +kernel⟩
theorem ok_is_tuple_of {f : Addr} {fd : FuncData} (F : FnP K "is_tuple_of" s_is_tuple_of f fd) (Z : FreeS mg) :
    FnOk P w K mg base CX0 1 f fd ["value", "length"] (spTupOf K) := by
  refine F.ok sc_is_tuple_of (fun vs H Q E h => ?_) (fun cdv A outer s H vs Q E hr h => ?_)
  · rcases h with ⟨x, t, n, rfl, _⟩ | ⟨t, xs, n, rfl, _⟩ <;> rfl
  · have hh := h
    clear h
    have nd := sc_is_tuple_of.nd
    refine ⟨_, PSs.nox (pss_one (ps_ret (pe_and (pe_callB call_isi (by rfl) Z.isi (by decide +kernel) (pa_cons (pv 0) (pa_cons (pe_bltn (v := .ty "tuple") (by rfl) Z.ttuple (by decide +kernel) rfl) pa_nil))) (pe_one (pe_cmpR op_eq (pe_callB call_len_seq (by rfl) Z.len (by decide +kernel) (pa_cons (pv 0) (pa_nil))) (pv 1) (nomark _)))))), ?_⟩
    rcases hh with ⟨x, t, n, rfl, ty, k1, k⟩ | ⟨t, xs, n, rfl, ht, k⟩
    · exact ⟨_, rfl, x, .ty "tuple", .type t, .type "tuple", false, rfl, .ty _, ty, kit_ty k1, false, rfl, iteF k⟩
    refine ⟨_, rfl, .ref t, .ty "tuple", .type "tuple", .type "tuple", true, rfl, .ty _, sqT_ty ht, kit_ty (by decide +kernel), true, rfl, iteT ?_⟩
    refine ⟨_, rfl, t, xs, rfl, Or.inr ht, _, rfl, rfl, ?_⟩
    have e : decide (V.int (xs.length : Int) = V.int n) = decide ((xs.length : Int) = n) := by
      by_cases h : (xs.length : Int) = n
      · rw [decide_eq_true h, decide_eq_true (congrArg V.int h)]
      · rw [decide_eq_false h, decide_eq_false fun z => h (V.int.inj z)]
    rw [e]
    exact k
end
end K36
set_option Elab.async false
set_option linter.all false
set_option maxRecDepth 100000
set_option maxHeartbeats 8000000
/-! Ascending lists, needs of counts, events. -/
namespace K36
open PySem PySem.Spec PyProof.Rows L2 KB
theorem map_bits {n : Nat} {f : Nat → Bool} {H : Hp} {D : Addr} (h : H D = some (.lst ((List.range n).filterMap fun i => some (V.bl (f i))))) : H D = some (.lst (((List.range n).map f).map V.bl)) := by
  rw [List.filterMap_eq_map'] at h
  rw [List.map_map]
  exact h
theorem all_map_id {n : Nat} {f : Nat → Bool} : ((List.range n).map f).all id = (List.range n).all f := by
  rw [List.all_map]
  rfl
theorem all_false {n : Nat} {f : Nat → Bool} {i : Nat} (hi : i < n) (h : f i = false) : (List.range n).all f = false := by
  cases e : (List.range n).all f with
  | false => rfl
  | true =>
    have := List.all_eq_true.mp e i (List.mem_range.mpr hi)
    rw [h] at this
    cases this
theorem td_tup {K : PySem.W.Frag} {H : Hp} {x : V} {d : PyData} : ∀ {n : Nat}, TD K H n x d → (∃ t, TyX K H x (.type t) ∧ kitB t "tuple" = some false ∧ ∀ ds, d ≠ .tuple ds) ∨
    ∃ a xs ds n', x = .ref a ∧ SqT K H a xs ∧ d = .tuple ds ∧ xs.length = ds.length ∧ ∀ (i : Nat) (u : V) (e : PyData), xs[i]? = some u → ds[i]? = some e → TD K H n' u e := by
  have fl : ∀ {x : V} {d : PyData}, FlatD x d → ∃ t, TyX K H x (.type t) ∧ kitB t "tuple" = some false ∧ ∀ ds, d ≠ .tuple ds := fun h => by
    cases h with
    | non => exact ⟨_, .base .non, by decide +kernel, fun ds z => by cases z⟩
    | bl b => exact ⟨_, .base (.bl b), by decide +kernel, fun ds z => by cases z⟩
    | int i => exact ⟨_, .base (.int i), by decide +kernel, fun ds z => by cases z⟩
    | str z => exact ⟨_, .base (.str z), by decide +kernel, fun ds z => by cases z⟩
  intro n h
  cases n with
  | zero => exact .inl (fl h)
  | succ n =>
    rcases h with h | ⟨a, xs, ds, rfl, l, l1, t, c⟩ | ⟨a, ps, m, rfl, _, ha, rfl⟩
    · exact .inl (fl h)
    · rcases t with ⟨ha, rfl⟩ | ⟨ha, rfl⟩
      · exact .inl ⟨_, .base (.lst ha), by decide +kernel, fun ds z => by cases z⟩
      · exact .inr ⟨a, xs, ds, n, rfl, ha, rfl, l, c⟩
    · exact .inl ⟨_, .base (.dK ha), by decide +kernel, fun ds z => by cases z⟩
theorem standB_no {d : PyData} (h : ∀ ds, d ≠ .tuple ds) : standB d = false := by
  cases d with
  | tuple ds => exact absurd rfl (h ds)
  | _ => rfl
theorem standB_len {ds : List PyData} (h : ds.length ≠ 2) : standB (.tuple ds) = false := by
  match ds, h with
  | [], _ => rfl
  | [_], _ => rfl
  | [_, _], h => exact absurd rfl h
  | _ :: _ :: _ :: _, _ => rfl
section
variable {P : Program} {w : World} {K : PySem.W.Frag} {mg : Str → Option Value} {base : Heap}
abbrev s_ascends : Stmt := top 12
abbrev N_ascends : List Str := ["values", "one", "other"]
theorem sc_ascends : FnScope N_ascends ["values"] (defScope s_ascends) := ⟨rfl, rfl, rfl, by decide +kernel, rfl, by decide +kernel, by decide +kernel⟩
theorem ok_ascends {f : Addr} {fd : FuncData} (F : FnP K "ascends" s_ascends f fd) (Z : FreeS mg) :
    FnOk P w K mg base CX0 1 f fd ["values"] spAsc := by
  refine F.ok sc_ascends (fun vs H Q E h => ?_) (fun cdv A outer s H vs Q E hr h => ?_)
  · obtain ⟨a, ns, rfl, _⟩ := h
    rfl
  · obtain ⟨a, ns, rfl, ha, hl, k⟩ := h
    have nd := sc_ascends.nd
    refine ⟨_, PSs.nox (pss_one (ps_ret (pe_callB (cr_all rfl) (by rfl) Z.all (by decide +kernel) (pa_cons (pe_lc (own := [("one", 1), ("other", 2)]) (g := gTup K 2 (gCons (gName 1) (gCons (gName 2) (gNil)))) (tt := tYes) (te := tOp (rI0 fun i j => .bl (decide (i < j))) (tVar 1) (tVar 2)) (by rfl) nd (pi_zip (by rfl) Z.zip (pa_cons (pv 0) (pa_cons (pe_slice sl_list (pv 0) (po_some (pe_int)) (po_none)) (pa_nil))))
          (blkOk_by (own := [("one", 1), ("other", 2)]) (N := N_ascends) (sc := defScope s_ascends) (by decide +kernel)) (fun _ _ _ _ _ => pg_tup rfl (pgs_cons (pg_name (i := 1) nd rfl (Or.inl rfl)) (pgs_cons (pg_name (i := 2) nd rfl (Or.inl rfl)) (pgs_nil)))) (fun _ _ _ _ _ => pts_nil)
          (fun _ _ _ _ _ => pe_cmpR op_lt (pv 1) (pv 2) (nomark _))) (pa_nil))))), ?_⟩
    obtain ⟨cq, hq⟩ : ∃ c : List V, c = cutV (numsV ns) (some 1) none := ⟨_, rfl⟩
    have ec : cq = (numsV ns).drop 1 := by
      rw [hq, cut_tail]
    have ln : (numsV ns).length = ns.length := List.length_map _
    refine ⟨_, rfl, _, rfl, _, rfl, a, _, rfl, SqL.of ha, fun q hqn => ?_⟩
    rw [← hq]
    have s1 : Same H (upd H q (.lst cq)) := Same.updf hqn
    refine ⟨a, q, _, _, rfl, SqL.of (s1 _ _ ha), SqL.of upd_same, fun D hD => ?_⟩
    refine lc_sel (n := ns.length - 1) (walk_zip (K := K) (a := a) (b := q) (xs := numsV ns) (ys := cq) (by rw [ec, List.length_drop, ln]; omega)) (fun i => some (.bl (decide (ns.getD i 0 < ns.getD (1 + i) 0)))) (by omega) hD (fun H2 s2 => ⟨SqL.of (s2 _ _ (s1 _ _ ha)), SqL.of (s2 _ _ upd_same)⟩) ?_ ?_
    · rintro t v H5 H6 Qy Qn ht s6 ⟨T, x1, x2, rfl, nT, rfl, g1, g2⟩ ky kn
      dsimp only at g1 g2
      rw [ec, List.getElem?_drop] at g2
      unfold numsV at g1 g2
      rw [List.getElem?_map, List.getElem?_eq_getElem (by omega)] at g1 g2
      obtain rfl := Option.some.inj g1
      obtain rfl := Option.some.inj g2
      refine ⟨T, [_, _], rfl, .inl (.inl upd_same), rfl, _, [_], rfl, _, [], rfl, rfl, ?_⟩
      refine ⟨rfl, _, rfl, _, rfl, _, _, rfl, rfl, ky _ _ (Same.updf nT) ?_⟩
      refine congrArg (fun c => some (V.bl c)) ?_
      rw [List.getD_eq_getElem?_getD, List.getD_eq_getElem?_getD, List.getElem?_eq_getElem (show t < ns.length by omega), List.getElem?_eq_getElem (show 1 + t < ns.length by omega)]
      show decide (ns[t] < ns[1 + t]) = decide ((ns[t] : Int) < (ns[1 + t] : Int))
      by_cases h : ns[t] < ns[1 + t]
      · rw [decide_eq_true h, decide_eq_true (by omega)]
      · rw [decide_eq_false h, decide_eq_false (by omega)]
    · intro H2 s2 hR
      refine ⟨D, (List.range (ns.length - 1)).map fun i => decide (ns.getD i 0 < ns.getD (1 + i) 0), rfl, SqL.of (map_bits hR), ?_⟩
      rw [all_map_id]
      exact k _ (s1.trans s2)
abbrev s_are_ascending_counts : Stmt := top 13
abbrev N_are_ascending_counts : List Str := ["value", "part"]
theorem sc_are_ascending_counts : FnScope N_are_ascending_counts ["value"] (defScope s_are_ascending_counts) := ⟨rfl, rfl, rfl, by decide +kernel, rfl, by decide +kernel, by decide +kernel⟩
theorem ok_are_ascending_counts {f : Addr} {fd : FuncData} (F : FnP K "are_ascending_counts" s_are_ascending_counts f fd) (Z : FreeS mg)
    {f_ascends : Addr} {d_ascends : FuncData} (g_ascends : mg "ascends" = some (.ref f_ascends)) (F_ascends : FnP K "ascends" s_ascends f_ascends d_ascends) (G_ascends : FnOk P w K mg base CX0 1 f_ascends d_ascends ["values"] spAsc)
    {f_is_count : Addr} {d_is_count : FuncData} (g_is_count : mg "is_count" = some (.ref f_is_count)) (F_is_count : FnP K "is_count" s_is_count f_is_count d_is_count) (G_is_count : FnOk P w K mg base CX0 2 f_is_count d_is_count ["value"] (spCount K)) :
    FnOk P w K mg base CX0 3 f fd ["value"] (spAscC K) := by
  have b_ascends : Binds K d_ascends ["values"] [] := F_ascends.bindsN fun _ _ _ _ _ _ us hl => match us, hl with | [_], _ => rfl
  have b_is_count : Binds K d_is_count ["value"] [] := F_is_count.bindsN fun _ _ _ _ _ _ us hl => match us, hl with | [_], _ => rfl
  refine F.ok sc_are_ascending_counts (fun vs H Q E h => ?_) (fun cdv A outer s H vs Q E hr h => ?_)
  · rcases h with ⟨x, rfl, _⟩ | ⟨a, ns, rfl, _⟩ <;> rfl
  · have hh := h
    clear h
    have nd := sc_are_ascending_counts.nd
    refine ⟨_, PSs.nox (pss_one (ps_ret (pe_and (pe_callB call_isi (by rfl) Z.isi (by decide +kernel) (pa_cons (pv 0) (pa_cons (pe_bltn (v := .ty "list") (by rfl) Z.tlist (by decide +kernel) rfl) pa_nil))) (pe_and (pe_callB (cr_all rfl) (by rfl) Z.all (by decide +kernel) (pa_cons (pe_lc (own := [("part", 1)]) (g := gName 1) (tt := tYes) (te := tCall (spCount K) [] E0 (tCons (tVar 1) (tNil))) (by rfl) nd (pi_list (pv 0))
          (blkOk_by (own := [("part", 1)]) (N := N_are_ascending_counts) (sc := defScope s_are_ascending_counts) (by decide +kernel)) (fun _ _ _ _ _ => pg_name (i := 1) nd rfl (Or.inl rfl)) (fun _ _ _ _ _ => pts_nil)
          (fun _ _ _ _ _ => pe_call G_is_count (hr.mono (by decide)) rfl g_is_count F_is_count.kp b_is_count .nil pass0 (pa_cons (pv 1) (pa_nil)))) (pa_nil))) (pe_one (pe_call G_ascends (hr.mono (by decide)) rfl g_ascends F_ascends.kp b_ascends .nil pass0 (pa_cons (pv 0) (pa_nil)))))))), ?_⟩
    rcases hh with ⟨x, rfl, hx, k⟩ | ⟨a, ns, rfl, ha, hl, k⟩
    · rcases hx with ⟨t, ty, k1⟩ | ⟨a, xs, bs, rfl, ha, hl, lb, fb, hb⟩
      · exact ⟨_, rfl, x, .ty "list", .type t, .type "list", false, rfl, .ty _, ty, kit_ty k1, false, rfl, iteF (k _ (Same.refl _))⟩
      · refine ⟨_, rfl, .ref a, .ty "list", .type "list", .type "list", true, rfl, .ty _, .base (.lst ha), kit_ty (by decide +kernel), true, rfl, iteT ?_⟩
        refine ⟨_, rfl, a, rfl, ⟨_, SqL.of ha⟩, fun D hD => ?_⟩
        refine lc_sel (walk_list (K := K) (a := a) (xs := xs)) (fun i => some (.bl (bs.getD i true))) (by omega) hD (fun H2 s2 => SqL.of (s2 _ _ ha)) ?_ ?_
        · rintro i v H2 H3 Qy Qn hi sH ⟨rfl, hv⟩ ky kn
          have e : bs[i]? = some (bs[i]'(by omega)) := List.getElem?_eq_getElem (by omega)
          refine ⟨rfl, _, rfl, v, bs[i]'(by omega), rfl, (hb i v _ hv e).up sH, ky _ _ (Same.refl _) ?_⟩
          rw [List.getD_eq_getElem?_getD, e]
          rfl
        · intro H2 s2 hR
          refine ⟨D, (List.range xs.length).map fun i => bs.getD i true, rfl, SqL.of (map_bits hR), ?_⟩
          rw [all_map_id]
          obtain ⟨i, hi, e⟩ := List.mem_iff_getElem.mp fb
          rw [all_false (show i < xs.length by omega) (by rw [List.getD_eq_getElem?_getD, List.getElem?_eq_getElem hi, e]; rfl)]
          exact ⟨false, rfl, iteF (k _ s2)⟩
    have ln : (numsV ns).length = ns.length := List.length_map _
    refine ⟨_, rfl, .ref a, .ty "list", .type "list", .type "list", true, rfl, .ty _, .base (.lst ha), kit_ty (by decide +kernel), true, rfl, iteT ?_⟩
    refine ⟨_, rfl, a, rfl, ⟨_, SqL.of ha⟩, fun D hD => ?_⟩
    refine lc_sel (walk_list (K := K) (a := a) (xs := numsV ns)) (fun _ => some (.bl true)) (by omega) hD (fun H2 s2 => SqL.of (s2 _ _ ha)) ?_ ?_
    · rintro i v H2 H3 Qy Qn hi sH ⟨rfl, hv⟩ ky kn
      have hi2 : i < ns.length := by omega
      unfold numsV at hv
      rw [List.getElem?_map, List.getElem?_eq_getElem hi2] at hv
      obtain rfl := Option.some.inj hv
      exact ⟨rfl, _, rfl, _, true, rfl, CntV.nat _, ky _ _ (Same.refl _) rfl⟩
    · intro H2 s2 hR
      obtain ⟨bs, hB, hb⟩ := all_bits (K := K) hR
      refine ⟨D, bs, rfl, hB, ?_⟩
      rw [hb]
      exact ⟨true, rfl, iteT ⟨_, rfl, a, ns, rfl, s2 _ _ ha, hl, fun H3 s3 => k H3 (s2.trans s3)⟩⟩
abbrev s_are_ascending_below : Stmt := top 14
abbrev N_are_ascending_below : List Str := ["value", "bound", "part"]
theorem sc_are_ascending_below : FnScope N_are_ascending_below ["value", "bound"] (defScope s_are_ascending_below) := ⟨rfl, rfl, rfl, by decide +kernel, rfl, by decide +kernel, by decide +kernel⟩
theorem ok_are_ascending_below {f : Addr} {fd : FuncData} (F : FnP K "are_ascending_below" s_are_ascending_below f fd) (Z : FreeS mg)
    {f_are_ascending_counts : Addr} {d_are_ascending_counts : FuncData} (g_are_ascending_counts : mg "are_ascending_counts" = some (.ref f_are_ascending_counts)) (F_are_ascending_counts : FnP K "are_ascending_counts" s_are_ascending_counts f_are_ascending_counts d_are_ascending_counts) (G_are_ascending_counts : FnOk P w K mg base CX0 3 f_are_ascending_counts d_are_ascending_counts ["value"] (spAscC K)) :
    FnOk P w K mg base CX0 4 f fd ["value", "bound"] (spAscB K) := by
  have b_are_ascending_counts : Binds K d_are_ascending_counts ["value"] [] := F_are_ascending_counts.bindsN fun _ _ _ _ _ _ us hl => match us, hl with | [_], _ => rfl
  refine F.ok sc_are_ascending_below (fun vs H Q E h => ?_) (fun cdv A outer s H vs Q E hr h => ?_)
  · rcases h with ⟨x, n, rfl, _⟩ | ⟨a, ns, n, rfl, _⟩ <;> rfl
  · have hh := h
    clear h
    have nd := sc_are_ascending_below.nd
    refine ⟨_, PSs.nox (pss_one (ps_ret (pe_and (pe_call G_are_ascending_counts (hr.mono (by decide)) rfl g_are_ascending_counts F_are_ascending_counts.kp b_are_ascending_counts .nil pass0 (pa_cons (pv 0) (pa_nil))) (pe_one (pe_callB (cr_all rfl) (by rfl) Z.all (by decide +kernel) (pa_cons (pe_lc (own := [("part", 2)]) (g := gName 2) (tt := tYes) (te := tOp (rI0 fun i j => .bl (decide (i < j))) (tVar 2) (tVar 1)) (by rfl) nd (pi_list (pv 0))
          (blkOk_by (own := [("part", 2)]) (N := N_are_ascending_below) (sc := defScope s_are_ascending_below) (by decide +kernel)) (fun _ _ _ _ _ => pg_name (i := 2) nd rfl (Or.inl rfl)) (fun _ _ _ _ _ => pts_nil)
          (fun _ _ _ _ _ => pe_cmpR op_lt (pv 2) (pv 1) (nomark _))) (pa_nil))))))), ?_⟩
    rcases hh with ⟨x, n, rfl, hx, k⟩ | ⟨a, l, n, rfl, ha, hl, k⟩
    · exact ⟨_, rfl, .inl ⟨x, rfl, hx, fun H1 s1 => ⟨false, rfl, iteF (k _ s1)⟩⟩⟩
    have ln : (numsV l).length = l.length := List.length_map _
    refine ⟨_, rfl, .inr ⟨a, l, rfl, ha, hl, fun H1 s1 => ⟨_, rfl, ?_⟩⟩⟩
    cases ea : ascB l with
    | false =>
      rw [ea] at k
      exact iteF (k _ s1)
    | true =>
    rw [ea] at k
    refine iteT ?_
    refine ⟨_, rfl, a, rfl, ⟨_, SqL.of (s1 _ _ ha)⟩, fun D hD => ?_⟩
    refine lc_sel (n := l.length) (by have := walk_list (K := K) (a := a) (xs := numsV l); rw [ln] at this; exact this) (fun i => some (.bl (decide (l.getD i 0 < n)))) (by omega) hD (fun H2 s2 => SqL.of (s2 _ _ (s1 _ _ ha))) ?_ ?_
    · rintro i v H2 H3 Qy Qn hi sH ⟨rfl, hv⟩ ky kn
      unfold numsV at hv
      rw [List.getElem?_map, List.getElem?_eq_getElem hi] at hv
      obtain rfl := Option.some.inj hv
      refine ⟨rfl, _, rfl, _, rfl, _, _, rfl, rfl, ky _ _ (Same.refl _) ?_⟩
      refine congrArg (fun c => some (V.bl c)) ?_
      rw [List.getD_eq_getElem?_getD, List.getElem?_eq_getElem hi]
      show decide (l[i] < n) = decide ((l[i] : Int) < (n : Int))
      by_cases h : l[i] < n
      · rw [decide_eq_true h, decide_eq_true (by omega)]
      · rw [decide_eq_false h, decide_eq_false (by omega)]
    · intro H2 s2 hR
      refine ⟨D, (List.range l.length).map fun i => decide (l.getD i 0 < n), rfl, SqL.of (map_bits hR), ?_⟩
      have e : (List.range l.length).all (fun i => decide (l.getD i 0 < n)) = l.all fun x => decide (x < n) := by
        rw [Bool.eq_iff_iff, List.all_eq_true, List.all_eq_true]
        constructor
        · intro h x hx
          obtain ⟨i, hi, rfl⟩ := List.mem_iff_getElem.mp hx
          have := h i (List.mem_range.mpr hi)
          rw [List.getD_eq_getElem?_getD, List.getElem?_eq_getElem hi] at this
          exact this
        · intro h i hi
          rw [List.mem_range] at hi
          rw [List.getD_eq_getElem?_getD, List.getElem?_eq_getElem hi]
          exact h _ (List.getElem_mem hi)
      rw [all_map_id, e]
      exact k _ (s1.trans s2)
abbrev s_need_count : Stmt := top 16
abbrev N_need_count : List Str := ["number"]
theorem sc_need_count : FnScope N_need_count ["number"] (defScope s_need_count) := ⟨rfl, rfl, rfl, by decide +kernel, rfl, by decide +kernel, by decide +kernel⟩
theorem ok_need_count {f : Addr} {fd : FuncData} (F : FnP K "need_count" s_need_count f fd) (Z : FreeS mg)
    {f_is_count : Addr} {d_is_count : FuncData} (g_is_count : mg "is_count" = some (.ref f_is_count)) (F_is_count : FnP K "is_count" s_is_count f_is_count d_is_count) (G_is_count : FnOk P w K mg base CX0 2 f_is_count d_is_count ["value"] (spCount K)) (ER : ErrOk P w K mg base "InvalidCount" (cCnt K)) :
    FnOk P w K mg base (L2.CX P w) 3 f fd ["number"] (spNeedC K) := by
  have b_is_count : Binds K d_is_count ["value"] [] := F_is_count.bindsN fun _ _ _ _ _ _ us hl => match us, hl with | [_], _ => rfl
  refine F.ok sc_need_count (fun vs H Q E h => ?_) (fun cdv A outer s H vs Q E hr h => ?_)
  · rcases h with ⟨i, rfl, _⟩ | ⟨x, rfl, _⟩ <;> rfl
  · have hh := h
    clear h
    obtain ⟨⟨fI, fdI, T, F1, EB⟩, gC⟩ := ER
    have nd := sc_need_count.nd
    refine ⟨_, id (pss_one (ps_if (pt_not (pt_val (pe_call G_is_count (hr.mono (by decide)) rfl g_is_count F_is_count.kp b_is_count .nil pass0 (pa_cons (pv 0) (pa_nil))))) (pss_one (ps_raise rfl (takes_of rfl rfl rfl rfl) (pmk_err T F1 EB (hr.mono (by decide)) gC (pv 0)))) (pss_nil))), ?_⟩
    rcases hh with ⟨i, rfl, h1, k⟩ | ⟨x, rfl, hc, k⟩
    · refine ⟨_, rfl, _, _, rfl, CntV.int i, _, rfl, ?_⟩
      rw [decide_eq_true (show i ≥ 0 from h1)]
      exact iteF k
    · exact ⟨_, rfl, _, false, rfl, hc, false, rfl, iteT ⟨_, rfl, raise_in fun d hd => k d _ (Same.updf hd) hd upd_same⟩⟩
abbrev s_need_count_from_one : Stmt := top 17
abbrev N_need_count_from_one : List Str := ["number"]
theorem sc_need_count_from_one : FnScope N_need_count_from_one ["number"] (defScope s_need_count_from_one) := ⟨rfl, rfl, rfl, by decide +kernel, rfl, by decide +kernel, by decide +kernel⟩
theorem ok_need_count_from_one {f : Addr} {fd : FuncData} (F : FnP K "need_count_from_one" s_need_count_from_one f fd) (Z : FreeS mg)
    {f_is_count_from_one : Addr} {d_is_count_from_one : FuncData} (g_is_count_from_one : mg "is_count_from_one" = some (.ref f_is_count_from_one)) (F_is_count_from_one : FnP K "is_count_from_one" s_is_count_from_one f_is_count_from_one d_is_count_from_one) (G_is_count_from_one : FnOk P w K mg base CX0 3 f_is_count_from_one d_is_count_from_one ["value"] (spFrom1 K)) (ER : ErrOk P w K mg base "InvalidCount" (cCnt K)) :
    FnOk P w K mg base (L2.CX P w) 4 f fd ["number"] (spNeed1 K) := by
  have b_is_count_from_one : Binds K d_is_count_from_one ["value"] [] := F_is_count_from_one.bindsN fun _ _ _ _ _ _ us hl => match us, hl with | [_], _ => rfl
  refine F.ok sc_need_count_from_one (fun vs H Q E h => ?_) (fun cdv A outer s H vs Q E hr h => ?_)
  · rcases h with ⟨i, rfl, _⟩ | ⟨x, rfl, _⟩ <;> rfl
  · have hh := h
    clear h
    obtain ⟨⟨fI, fdI, T, F1, EB⟩, gC⟩ := ER
    have nd := sc_need_count_from_one.nd
    refine ⟨_, id (pss_one (ps_if (pt_not (pt_val (pe_call G_is_count_from_one (hr.mono (by decide)) rfl g_is_count_from_one F_is_count_from_one.kp b_is_count_from_one .nil pass0 (pa_cons (pv 0) (pa_nil))))) (pss_one (ps_raise rfl (takes_of rfl rfl rfl rfl) (pmk_err T F1 EB (hr.mono (by decide)) gC (pv 0)))) (pss_nil))), ?_⟩
    rcases hh with ⟨i, rfl, h1, k⟩ | ⟨x, rfl, hc | ⟨j, rfl, hj⟩, k⟩
    · refine ⟨_, rfl, .inl ⟨i, rfl, _, rfl, ?_⟩⟩
      rw [decide_eq_true h1]
      exact iteF k
    · exact ⟨_, rfl, .inr ⟨x, rfl, hc, false, rfl, iteT ⟨_, rfl, raise_in fun d hd => k d _ (Same.updf hd) hd upd_same⟩⟩⟩
    · refine ⟨_, rfl, .inl ⟨j, rfl, _, rfl, ?_⟩⟩
      rw [decide_eq_false (by omega)]
      exact iteT ⟨_, rfl, raise_in fun d hd => k d _ (Same.updf hd) hd upd_same⟩
abbrev s_is_stand : Stmt := top 23
abbrev N_is_stand : List Str := ["event"]
theorem sc_is_stand : FnScope N_is_stand ["event"] (defScope s_is_stand) := ⟨rfl, rfl, rfl, by decide +kernel, rfl, by decide +kernel, by decide +kernel⟩
theorem ok_is_stand {f : Addr} {fd : FuncData} (F : FnP K "is_stand" s_is_stand f fd) (Z : FreeS mg)
    {f_is_tuple_of : Addr} {d_is_tuple_of : FuncData} (g_is_tuple_of : mg "is_tuple_of" = some (.ref f_is_tuple_of)) (F_is_tuple_of : FnP K "is_tuple_of" s_is_tuple_of f_is_tuple_of d_is_tuple_of) (G_is_tuple_of : FnOk P w K mg base CX0 1 f_is_tuple_of d_is_tuple_of ["value", "length"] (spTupOf K))
    {f_is_count : Addr} {d_is_count : FuncData} (g_is_count : mg "is_count" = some (.ref f_is_count)) (F_is_count : FnP K "is_count" s_is_count f_is_count d_is_count) (G_is_count : FnOk P w K mg base CX0 2 f_is_count d_is_count ["value"] (spCount K)) :
    FnOk P w K mg base CX0 3 f fd ["event"] (spIsStand K) := by
  have b_is_tuple_of : Binds K d_is_tuple_of ["value", "length"] [] := F_is_tuple_of.bindsN fun _ _ _ _ _ _ us hl => match us, hl with | [_, _], _ => rfl
  have b_is_count : Binds K d_is_count ["value"] [] := F_is_count.bindsN fun _ _ _ _ _ _ us hl => match us, hl with | [_], _ => rfl
  refine F.ok sc_is_stand (fun vs H Q E h => ?_) (fun cdv A outer s H vs Q E hr h => ?_)
  · obtain ⟨x, d, n, rfl, _⟩ := h
    rfl
  · obtain ⟨x, d, n, rfl, hx, sh, k⟩ := h
    have nd := sc_is_stand.nd
    refine ⟨_, PSs.nox (pss_one (ps_ret (pe_and (pe_call G_is_tuple_of (hr.mono (by decide)) rfl g_is_tuple_of F_is_tuple_of.kp b_is_tuple_of .nil pass0 (pa_cons (pv 0) (pa_cons (pe_int) (pa_nil)))) (pe_and (pe_cmpR (op_eqD hr.units) (pe_ix ix_tup (pv 0) (pe_int) (fun _ _ => rfl)) (pe_str) (nomark _)) (pe_one (pe_call G_is_count (hr.mono (by decide)) rfl g_is_count F_is_count.kp b_is_count .nil pass0 (pa_cons (pe_ix ix_tup (pv 0) (pe_int) (fun _ _ => rfl)) (pa_nil)))))))), ?_⟩
    rcases td_tup hx with ⟨t, ty, k1, no⟩ | ⟨a, xs, ds, n', rfl, ha, rfl, l, c⟩
    · rw [standB_no no] at k
      exact ⟨_, rfl, .inl ⟨x, t, 2, rfl, ty, k1, false, rfl, iteF k⟩⟩
    refine ⟨_, rfl, .inr ⟨a, xs, 2, rfl, ha, _, rfl, ?_⟩⟩
    by_cases h2 : ds.length = 2
    · obtain ⟨d0, d1, rfl⟩ : ∃ d0 d1, ds = [d0, d1] := by
        match ds, h2 with
        | [d0, d1], _ => exact ⟨d0, d1, rfl⟩
      obtain ⟨x0, x1, rfl⟩ : ∃ x0 x1, xs = [x0, x1] := by
        match xs, l with
        | [x0, x1], _ => exact ⟨x0, x1, rfl⟩
      have t0 := c 0 x0 d0 rfl rfl
      have t1 := c 1 x1 d1 rfl rfl
      have sh0 := shaped_tup sh d0 (by simp)
      refine iteT ⟨_, rfl, a, _, 0, x0, rfl, rfl, ha, rfl, d0, .str "stand", t0.dp sh0, .str _, sh0, by decide +kernel, _, rfl, ?_⟩
      have k2 : Q (.bl (PyData.eqv d0 (.str "stand") && cntB d1)) H := k
      cases e : PyData.eqv d0 (.str "stand") with
      | false =>
        rw [e] at k2
        exact iteF k2
      | true =>
        rw [e, Bool.true_and] at k2
        exact iteT ⟨_, rfl, a, _, 1, x1, rfl, rfl, ha, rfl, x1, _, rfl, CntV.td t1, k2⟩
    · rw [standB_len h2] at k
      rw [decide_eq_false (by omega)]
      exact iteF k
abbrev s_is_event : Stmt := top 24
abbrev N_is_event : List Str := ["event"]
theorem sc_is_event : FnScope N_is_event ["event"] (defScope s_is_event) := ⟨rfl, rfl, rfl, by decide +kernel, rfl, by decide +kernel, by decide +kernel⟩
theorem ok_is_event {f : Addr} {fd : FuncData} (F : FnP K "is_event" s_is_event f fd) (Z : FreeS mg)
    {f_is_stand : Addr} {d_is_stand : FuncData} (g_is_stand : mg "is_stand" = some (.ref f_is_stand)) (F_is_stand : FnP K "is_stand" s_is_stand f_is_stand d_is_stand) (G_is_stand : FnOk P w K mg base CX0 3 f_is_stand d_is_stand ["event"] (spIsStand K)) (C : Cn K mg) :
    FnOk P w K mg base CX0 4 f fd ["event"] (spIsEvent K) := by
  have b_is_stand : Binds K d_is_stand ["event"] [] := F_is_stand.bindsN fun _ _ _ _ _ _ us hl => match us, hl with | [_], _ => rfl
  refine F.ok sc_is_event (fun vs H Q E h => ?_) (fun cdv A outer s H vs Q E hr h => ?_)
  · obtain ⟨x, d, n, rfl, _⟩ := h
    rfl
  · obtain ⟨x, d, n, rfl, hx, sh, k⟩ := h
    have nd := sc_is_event.nd
    refine ⟨_, PSs.nox (pss_one (ps_ret (pe_or (pe_cmpR (op_eqD hr.units) (pv 0) (pe_glob (v := .ref (aL K)) (by rfl) C.gL rfl) (nomark _)) (pe_or (pe_cmpR (op_eqD hr.units) (pv 0) (pe_glob (v := .ref (aR K)) (by rfl) C.gR rfl) (nomark _)) (pe_one (pe_call G_is_stand (hr.mono (by decide)) rfl g_is_stand F_is_stand.kp b_is_stand .nil pass0 (pa_cons (pv 0) (pa_nil)))))))), ?_⟩
    have hd := hx.dp sh
    have k2 : Q (.bl (PyData.eqv d Ev.line.d || (PyData.eqv d Ev.root.d || standB d))) H := k
    refine ⟨_, rfl, _, _, hd, C.dL _, sh, shaped_ev .line, _, rfl, ?_⟩
    cases e1 : PyData.eqv d Ev.line.d with
    | true =>
      rw [e1] at k2
      exact iteT k2
    | false =>
    rw [e1, Bool.false_or] at k2
    refine iteF ⟨_, rfl, _, _, hd, C.dR _, sh, shaped_ev .root, _, rfl, ?_⟩
    cases e2 : PyData.eqv d Ev.root.d with
    | true =>
      rw [e2] at k2
      exact iteT k2
    | false =>
    rw [e2, Bool.false_or] at k2
    exact iteF ⟨_, rfl, x, d, n, rfl, hx, sh, k2⟩
end
end K36
set_option Elab.async false
set_option linter.all false
set_option maxRecDepth 100000
set_option maxHeartbeats 8000000
/-! is_life of any object, its needs. -/
namespace K36
open PySem PySem.Spec PyProof.Rows L2 KB
def Ev.isS : Ev → Bool
  | .stand _ => true
  | _ => false
theorem standB_ev (e : Ev) : standB e.d = e.isS := by
  cases e with
  | line => rfl
  | root => rfl
  | stand n =>
    show (PyData.eqv (.str "stand") (.str "stand") && cntB (.int (n : Int))) = true
    rw [show PyData.eqv (.str "stand") (.str "stand") = true by decide +kernel, show cntB (.int (n : Int)) = true from decide_eq_true (show (n : Int) ≥ 0 by omega)]
    rfl
def walkB : Int → Int → List PyData → Bool
  | _, _, [] => true
  | w, s, d :: r => if PyData.eqv d Ev.line.d = true then walkB (w + 1) s r else if PyData.eqv d Ev.root.d = true then walkB w s r else match d with
    | .tuple [_, .int n] => decide (s ≤ n) && (decide (n ≤ w) && walkB w n r)
    | _ => false
def lifeB (ds : List PyData) : Bool := ds.all evB && walkB 0 0 ds
/-- an object that is no life -/
def OddL (K : PySem.W.Frag) (H : Hp) (x : V) : Prop := (∃ t, TyX K H x (.type t) ∧ kitB t "list" = some false) ∨ ∃ (a : Addr) (xs : List V) (ds : List PyData) (n : Nat), x = .ref a ∧ H a = some (.lst xs) ∧ xs.length = ds.length ∧ ds.length ≤ 1000 ∧ (∀ (i : Nat) (u : V) (e : PyData), xs[i]? = some u → ds[i]? = some e → TD K H n u e) ∧ (∀ d ∈ ds, SeqAt.shaped d = true) ∧ lifeB ds = false
theorem OddL.same {K : PySem.W.Frag} {H H' : Hp} {x : V} (k : Same H H') : OddL K H x → OddL K H' x := by
  rintro (⟨t, ty, e⟩ | ⟨a, xs, ds, n, e, h, l, l1, c, s, b⟩)
  · exact .inl ⟨t, TyX_up k ty, e⟩
  · exact .inr ⟨a, xs, ds, n, e, k _ _ h, l, l1, fun i u v e1 e2 => (c i u v e1 e2).same k, s, b⟩
theorem evB_ev (e : Ev) : evB e.d = true := by
  unfold evB
  cases e with
  | line => rw [eqv_line]; rfl
  | root => rw [eqv_root]; simp
  | stand n => rw [standB_ev]; simp [Ev.isS]
def spIsLife (K : PySem.W.Frag) : Sp := fun vs H Q _ => (∃ x, vs = [x] ∧ OddL K H x ∧ ∀ H', Same H H' → Q (.bl false) H') ∨ ∃ (a : Addr) (es : List Ev), vs = [.ref a] ∧ LifeAt K H a es ∧ Valid es ∧ ∀ H', Same H H' → Q (.bl true) H'
def spNeedLife (K : PySem.W.Frag) : Sp := fun vs H Q E => (∃ x, vs = [x] ∧ OddL K H x ∧ Rs (cRun K) x H E) ∨ ∃ (a : Addr) (es : List Ev), vs = [.ref a] ∧ LifeAt K H a es ∧ Valid es ∧ ∀ H', Same H H' → Q .non H'
def spNeedLP (K : PySem.W.Frag) : Sp := fun vs H Q E => (∃ x y, vs = [x, y] ∧ OddL K H x ∧ Rs (cRun K) x H E) ∨ (∃ (a : Addr) (es : List Ev) (y : V), vs = [.ref a, y] ∧ LifeAt K H a es ∧ Valid es ∧ No1 K H y ∧ Rs (cCnt K) y H E) ∨ ∃ (a : Addr) (es : List Ev) (p : Int), vs = [.ref a, .int p] ∧ LifeAt K H a es ∧ Valid es ∧ 1 ≤ p ∧ ∀ H', Same H H' → Q .non H'
theorem No1.same {K : PySem.W.Frag} {H H' : Hp} {x : V} (k : Same H H') : No1 K H x → No1 K H' x := Or.imp_left fun h => h.up k
theorem walkB_ok (es : List Ev) (hV : Valid es) : ∀ i, i ≤ es.length → walkB ((stAt es i).w : Int) ((stAt es i).s : Int) ((es.drop i).map Ev.d) = true := by
  intro i hi
  obtain ⟨k, hk⟩ : ∃ k, k = es.length - i := ⟨_, rfl⟩
  induction k generalizing i with
  | zero =>
    rw [List.drop_of_length_le (by omega)]
    rfl
  | succ k ih =>
    have hlt : i < es.length := by omega
    have ee := List.getElem?_eq_getElem hlt
    have es1 := stAt_succ ee
    have ihh := ih (i + 1) (by omega) (by omega)
    rw [List.drop_eq_getElem_cons hlt, List.map_cons]
    cases q : es[i] with
    | line =>
      rw [q] at es1
      rw [es1] at ihh
      exact ihh
    | root =>
      rw [q] at es1
      rw [es1] at ihh
      exact ihh
    | stand n =>
      rw [q] at es1 ee
      have vo := hV.ok i n ee
      rw [es1] at ihh
      have e1 : PyData.eqv (Ev.stand n).d Ev.line.d = false := by rw [eqv_line]; rfl
      have e2 : PyData.eqv (Ev.stand n).d Ev.root.d = false := by rw [eqv_root]; rfl
      show (if PyData.eqv (Ev.stand n).d Ev.line.d = true then _ else _) = true
      rw [e1, if_neg Bool.false_ne_true, e2, if_neg Bool.false_ne_true]
      show (decide (((stAt es i).s : Int) ≤ (n : Int)) && (decide ((n : Int) ≤ ((stAt es i).w : Int)) && _)) = true
      rw [decide_eq_true (by omega), decide_eq_true (by omega)]
      exact ihh
theorem lifeB_ok {es : List Ev} (hV : Valid es) : lifeB (es.map Ev.d) = true := by
  unfold lifeB
  rw [Bool.and_eq_true, List.all_eq_true]
  refine ⟨fun d hd => ?_, ?_⟩
  · obtain ⟨e, _, rfl⟩ := List.mem_map.mp hd
    exact evB_ev e
  · have := walkB_ok es hV 0 (Nat.zero_le _)
    rw [stAt_zero] at this
    exact this
/-- what is given up ahead of each event and at the end -/
def goneL (es : List Ev) : List Int := (List.range (es.length + 1)).map fun i => ((stAt es i).g : Int)
def spGone (K : PySem.W.Frag) : Sp := fun vs H Q _ => ∃ (a : Addr) (es : List Ev), vs = [.ref a] ∧ LifeAt K H a es ∧ es.length ≤ 200 ∧ ∀ q H', Same H H' → H q = none → H' q = some (.lst ((goneL es).map V.int)) → Q (.ref q) H'
def spLines (K : PySem.W.Frag) : Sp := fun vs H Q _ => ∃ (a : Addr) (es : List Ev), vs = [.ref a] ∧ LifeAt K H a es ∧ es.length ≤ 200 ∧ ∀ q H', Same H H' → H q = none → H' q = some (.lst (((lp es).map fun i : Nat => (i : Int)).map V.int)) → Q (.ref q) H'
theorem goneL_len (es : List Ev) : (goneL es).length = es.length + 1 := by simp [goneL]
theorem goneL_at {es : List Ev} {i : Nat} (h : i ≤ es.length) : ((goneL es).map V.int)[i]? = some (.int ((stAt es i).g : Int)) := by
  unfold goneL
  rw [List.getElem?_map, List.getElem?_map, List.getElem?_range (by omega)]
  rfl
section
variable {P : Program} {w : World} {K : PySem.W.Frag} {mg : Str → Option Value} {base : Heap}
abbrev s_numbers_given_up : Stmt := top 29
abbrev N_numbers_given_up : List Str := ["life", "found", "stood", "event"]
theorem sc_numbers_given_up : FnScope N_numbers_given_up ["life"] (defScope s_numbers_given_up) := ⟨rfl, rfl, rfl, by decide +kernel, rfl, by decide +kernel, by decide +kernel⟩
theorem ok_numbers_given_up {f : Addr} {fd : FuncData} (F : FnP K "numbers_given_up" s_numbers_given_up f fd) (Z : FreeS mg)
    {f_is_stand : Addr} {d_is_stand : FuncData} (g_is_stand : mg "is_stand" = some (.ref f_is_stand)) (F_is_stand : FnP K "is_stand" s_is_stand f_is_stand d_is_stand) (G_is_stand : FnOk P w K mg base CX0 3 f_is_stand d_is_stand ["event"] (spIsStand K)) (C : Cn K mg) :
    FnOk P w K mg base CX0 4 f fd ["life"] (spGone K) := by
  have b_is_stand : Binds K d_is_stand ["event"] [] := F_is_stand.bindsN fun _ _ _ _ _ _ us hl => match us, hl with | [_], _ => rfl
  refine F.ok sc_numbers_given_up (fun vs H Q E h => ?_) (fun cdv A outer s H vs Q E hr h => ?_)
  · obtain ⟨a, es, rfl, _⟩ := h
    rfl
  · obtain ⟨a, es, rfl, hL, l60, k⟩ := h
    obtain ⟨ts, ha, lt, ht⟩ := id hL
    have nd := sc_numbers_given_up.nd
    refine ⟨_, PSs.nox (pss_cons (ps_set (i := 1) nd rfl (Or.inl rfl) (pe_lst (pa_cons (pe_int) (pa_nil))))
      (pss_cons (ps_set (i := 2) nd rfl (Or.inl rfl) (pe_int))
      (pss_cons (ps_for PassesOwn.never rfl (pi_list (pv 0)) (pg_name (i := 3) nd rfl (Or.inl rfl))
        (pss_cons (ps_if (pt_val (pe_call G_is_stand (hr.mono (by decide)) rfl g_is_stand F_is_stand.kp b_is_stand .nil pass0 (pa_cons (pv 3) (pa_nil)))) (pss_one (ps_set (i := 2) nd rfl (Or.inl rfl) (pe_ix ix_tup (pv 3) (pe_int) (fun _ _ => rfl)))) (pss_nil))
      (pss_one (ps_expr (pe_bm PySem.F.plainAttrs_list PySem.F.slot_list_append PySem.F.type_list_append mt_append (pv 1) (pa_cons (pe_ifExp (pt_cmpR (op_eqD hr.units) (pv 3) (pe_glob (v := .ref (aR K)) (by rfl) C.gR rfl) (nomark _)) (pv 2) (pe_ix ix_list (pv 1) (pe_un un_neg (pe_int)) (fun _ _ => rfl))) (pa_nil)))))))
      (pss_one (ps_ret (pv 1)))))), ?_⟩
    have gt : ∀ (i : Nat) (hi : i < es.length), ∃ t, ts[i]? = some t ∧ SqT K H t (es[i]'hi).v := fun i hi =>
      ⟨ts[i], List.getElem?_eq_getElem (by omega), ht i _ _ (List.getElem?_eq_getElem _) (List.getElem?_eq_getElem _)⟩
    refine ⟨(by show 1 ≤ sizeLine; decide), fun q hq => ?_⟩
    have s1 : Same H (upd H q (.lst [.int 0])) := Same.updf hq
    refine ⟨_, rfl, a, rfl, ⟨_, SqL.of (s1 _ _ ha)⟩, ?_⟩
    refine for_list (xs := ts.map V.ref) (fun i σ H3 => Same H H3 ∧ H3 q = some (.lst (((List.range (i + 1)).map fun j => ((stAt es j).g : Int)).map V.int)) ∧ ∃ v3 S, S = ((stAt es i).s : Int) ∧ σ = [some (.ref a), some (.ref q), some (.int S), v3])
      ⟨s1, by rw [upd_same]; simp [stAt_zero], none, 0, by rw [stAt_zero]; rfl, rfl⟩ (fun i σ H3 _ hh => SqL.of (hh.1 _ _ ha)) ?_ ?_
    · rintro i y σ H3 hy ⟨s3, hq3, v3, S, hS, rfl⟩
      have hi : i < es.length := by
        rw [← lt]
        rcases Nat.lt_or_ge i ts.length with q | q
        · exact q
        · rw [List.getElem?_map, List.getElem?_eq_none q] at hy
          cases hy
      obtain ⟨t, e1, e2⟩ := gt i hi
      rw [List.getElem?_map, e1] at hy
      obtain rfl : V.ref t = y := Option.some.inj hy
      have e3 := SqT_up s3 e2
      have ee := List.getElem?_eq_getElem hi
      have es1 := stAt_succ ee
      have push : ∀ (S' : Int) (v : Option V), S' = ((stAt es (i + 1)).s : Int) → ∀ σ', σ' = [some (V.ref a), some (.ref q), some (.int S'), v] →
          (Same H (upd H3 q (.lst (((List.range (i + 1)).map fun j => ((stAt es j).g : Int)).map V.int ++ [.int ((stAt es (i + 1)).g : Int)]))) ∧
            (upd H3 q (.lst (((List.range (i + 1)).map fun j => ((stAt es j).g : Int)).map V.int ++ [.int ((stAt es (i + 1)).g : Int)]))) q = some (.lst (((List.range (i + 1 + 1)).map fun j => ((stAt es j).g : Int)).map V.int)) ∧
            ∃ v3 S, S = ((stAt es (i + 1)).s : Int) ∧ σ' = [some (V.ref a), some (.ref q), some (.int S), v3]) := fun S' v hS' σ' hσ => by
        refine ⟨fun b o e => ?_, ?_, v, S', hS', hσ⟩
        · rw [upd_ne (ne_of_none e hq)]
          exact s3 _ _ e
        · rw [upd_same, List.range_succ (n := i + 1), List.map_append, List.map_append]
          rfl
      have lenq : (((List.range (i + 1)).map fun j => ((stAt es j).g : Int)).map V.int).length < sizeLine := by
        rw [List.length_map, List.length_map, List.length_range]
        have : (2000 : Nat) ≤ sizeLine := by decide
        omega
      have last : atI (((List.range (i + 1)).map fun j => ((stAt es j).g : Int)).map V.int) (-1) = some (.int ((stAt es i).g : Int)) := by
        rw [List.range_succ, List.map_append, List.map_append]
        exact atI_last _ _
      refine ⟨_, rfl, .ref t, es[i].d, 1, rfl, Ev.td 0 e3, shaped_ev _, ?_⟩
      rw [standB_ev]
      cases q' : es[i] with
      | line =>
        rw [q'] at es1 e3
        refine ⟨_, rfl, iteF ?_⟩
        refine ⟨_, rfl, Or.inl ⟨rfl, _, SqL.of hq3⟩, _, rfl, _, _, Ev.dp (e := .line) e3, C.dR _, shaped_ev _, shaped_ev .root, _, rfl, ?_⟩
        refine iteF ⟨_, rfl, _, rfl, q, _, -1, _, rfl, rfl, SqL.of hq3, last, ?_⟩
        refine ⟨q, _, _, rfl, rfl, hq3, lenq, ?_⟩
        have eg : (stAt es i).g = (stAt es (i + 1)).g := by rw [es1]; rfl
        rw [eg]
        exact push _ _ (by rw [es1, hS]; rfl) _ rfl
      | root =>
        rw [q'] at es1 e3
        refine ⟨_, rfl, iteF ?_⟩
        refine ⟨_, rfl, Or.inl ⟨rfl, _, SqL.of hq3⟩, _, rfl, _, _, Ev.dp (e := .root) e3, C.dR _, shaped_ev _, shaped_ev .root, _, rfl, ?_⟩
        refine iteT ⟨_, rfl, ?_⟩
        refine ⟨q, _, _, rfl, rfl, hq3, lenq, ?_⟩
        have eg : S = ((stAt es (i + 1)).g : Int) := by rw [es1, hS]; rfl
        rw [eg]
        exact push _ _ (by rw [es1]; rfl) _ rfl
      | stand n =>
        rw [q'] at es1 e3
        refine ⟨_, rfl, iteT ⟨_, rfl, t, _, 1, .int (n : Int), rfl, rfl, e3, rfl, ?_⟩⟩
        refine ⟨_, rfl, Or.inl ⟨rfl, _, SqL.of hq3⟩, _, rfl, _, _, Ev.dp (e := .stand n) e3, C.dR _, shaped_ev _, shaped_ev .root, _, rfl, ?_⟩
        refine iteF ⟨_, rfl, _, rfl, q, _, -1, _, rfl, rfl, SqL.of hq3, last, ?_⟩
        refine ⟨q, _, _, rfl, rfl, hq3, lenq, ?_⟩
        have eg : (stAt es i).g = (stAt es (i + 1)).g := by rw [es1]; rfl
        rw [eg]
        exact push _ _ (by rw [es1]; rfl) _ rfl
    · rintro σ H3 ⟨s3, hq3, v3, S, hS, rfl⟩
      rw [List.length_map, lt] at hq3
      exact ⟨_, rfl, k q H3 s3 hq hq3⟩
abbrev s_line_places : Stmt := top 30
abbrev N_line_places : List Str := ["life", "at", "event"]
theorem sc_line_places : FnScope N_line_places ["life"] (defScope s_line_places) := ⟨rfl, rfl, rfl, by decide +kernel, rfl, by decide +kernel, by decide +kernel⟩
theorem ok_line_places {f : Addr} {fd : FuncData} (F : FnP K "line_places" s_line_places f fd) (Z : FreeS mg) (C : Cn K mg) :
    FnOk P w K mg base CX0 1 f fd ["life"] (spLines K) := by
  refine F.ok sc_line_places (fun vs H Q E h => ?_) (fun cdv A outer s H vs Q E hr h => ?_)
  · obtain ⟨a, es, rfl, _⟩ := h
    rfl
  · obtain ⟨a, es, rfl, hL, l60, k⟩ := h
    obtain ⟨ts, ha, lt, ht⟩ := id hL
    have nd := sc_line_places.nd
    refine ⟨_, PSs.nox (pss_one (ps_ret (pe_lc (own := [("at", 1), ("event", 2)]) (g := gTup K 2 (gCons (gName 1) (gCons (gName 2) (gNil)))) (tt := tTest (tOp (rEqD K) (tVar 2) (tC (.ref (aL K))))) (te := tVar 1) (by rfl) nd (pi_enum (by rfl) Z.enumerate (pa_cons (pv 0) (pa_nil)))
          (blkOk_by (own := [("at", 1), ("event", 2)]) (N := N_line_places) (sc := defScope s_line_places) (by decide +kernel)) (fun _ _ _ _ _ => pg_tup rfl (pgs_cons (pg_name (i := 1) nd rfl (Or.inl rfl)) (pgs_cons (pg_name (i := 2) nd rfl (Or.inl rfl)) (pgs_nil)))) (fun _ _ _ _ _ => pts_one (pt_cmpR (op_eqD hr.units) (pv 2) (pe_glob (v := .ref (aL K)) (by rfl) C.gL rfl) (nomark _)))
          (fun _ _ _ _ _ => pv 1)))), ?_⟩
    refine ⟨_, rfl, a, _, rfl, SqL.of ha, fun D hD => ?_⟩
    refine lc_sel (n := es.length) (by have := walk_enum (K := K) (a := a) (xs := ts.map V.ref); rw [List.length_map, lt] at this; exact this) (fun i => if isL es i = true then some (.int (i : Int)) else none) (by omega) hD (fun H2 s2 => SqL.of (s2 _ _ ha)) ?_ ?_
    · rintro i v H2 H3 Qy Qn hi sH ⟨T2, x1, x2, rfl, nT, rfl, g1, g2⟩ ky kn
      dsimp only at g1 g2
      obtain rfl := Option.some.inj g1
      have et : ts[i]? = some ts[i] := List.getElem?_eq_getElem (by omega)
      rw [List.getElem?_map, et] at g2
      obtain rfl : V.ref ts[i] = x2 := Option.some.inj g2
      have sT : Same H2 (upd H2 T2 (.tup [.int (i : Nat), .ref ts[i]])) := Same.updf nT
      have e3 := SqT_up sT (SqT_up sH (ht i _ _ et (List.getElem?_eq_getElem hi)))
      refine ⟨T2, [_, _], rfl, .inl (.inl upd_same), rfl, _, [_], rfl, _, [], rfl, rfl, ?_⟩
      refine ⟨rfl, _, rfl, _, _, Ev.dp e3, C.dL _, shaped_ev _, shaped_ev .line, _, rfl, ?_⟩
      rw [eqv_line]
      have ei : isL es i = decide (es[i] = .line) := by
        unfold isL
        rw [List.getElem?_eq_getElem hi]
        cases es[i] <;> rfl
      by_cases h : es[i] = .line
      · rw [decide_eq_true h]
        refine iteT ⟨_, rfl, ky _ _ sT ?_⟩
        rw [ei, decide_eq_true h, if_pos rfl]
      · rw [decide_eq_false h]
        refine iteF (kn _ sT ?_)
        rw [ei, decide_eq_false h, if_neg Bool.false_ne_true]
    · intro H2 s2 hR
      refine k D H2 s2 hD (hR.trans (congrArg (fun l => some (HO.lst l)) ?_))
      unfold lp
      rw [List.map_map, ← List.filterMap_eq_filter, List.map_filterMap]
      refine fm_congr fun i _ => ?_
      show _ = Option.map _ (Option.guard _ i)
      unfold Option.guard
      by_cases h : isL es i = true
      · rw [if_pos h, if_pos h]
        rfl
      · rw [if_neg h, if_neg h]
        rfl
end
end K36
set_option Elab.async false
set_option linter.all false
set_option maxRecDepth 100000
set_option maxHeartbeats 8000000
namespace K36
open PySem PySem.Spec PyProof.Rows L2 KB
theorem td_flatI {K : PySem.W.Frag} {H : Hp} {x : V} {z : Int} : ∀ {n : Nat}, TD K H n x (.int z) → x = .int z
  | 0, h => by cases h; rfl
  | n + 1, h => by
    rcases h with h | ⟨a, xs, ds, rfl, l, l1, t, c⟩ | ⟨a, ps, m, rfl, _, ha, e⟩
    · cases h
      rfl
    · rcases t with ⟨_, e⟩ | ⟨_, e⟩ <;> cases e
    · cases e
/-- an event that is neither a line nor a root -/
theorem stand_of {d : PyData} (h : evB d = true) (h1 : PyData.eqv d Ev.line.d = false) (h2 : PyData.eqv d Ev.root.d = false) : ∃ (d0 : PyData) (n : Int), d = .tuple [d0, .int n] := by
  unfold evB at h
  rw [h1, h2, Bool.false_or, Bool.false_or] at h
  match d, h with
  | .tuple [d0, .int n], _ => exact ⟨d0, n, rfl⟩
  | .tuple [d0, .none], h => simp [standB, cntB] at h
  | .tuple [d0, .bool _], h => simp [standB, cntB] at h
  | .tuple [d0, .str _], h => simp [standB, cntB] at h
  | .tuple [d0, .list _], h => simp [standB, cntB] at h
  | .tuple [d0, .tuple _], h => simp [standB, cntB] at h
  | .tuple [d0, .dict _], h => simp [standB, cntB] at h
  | .tuple [], h => cases h
  | .tuple [_], h => cases h
  | .tuple (_ :: _ :: _ :: _), h => cases h
  | .none, h => cases h
  | .bool _, h => cases h
  | .int _, h => cases h
  | .str _, h => cases h
  | .list _, h => cases h
  | .dict _, h => cases h
theorem LifeAt.tds {K : PySem.W.Frag} {H : Hp} {a : Addr} {es : List Ev} (h : LifeAt K H a es) : ∃ xs, H a = some (.lst xs) ∧ xs.length = (es.map Ev.d).length ∧ (∀ (i : Nat) (u : V) (e : PyData), xs[i]? = some u → (es.map Ev.d)[i]? = some e → TD K H 1 u e) ∧ ∀ d ∈ es.map Ev.d, SeqAt.shaped d = true := by
  obtain ⟨ts, h1, h2, h3⟩ := h
  refine ⟨_, h1, by rw [List.length_map, List.length_map, h2], fun i u e e1 e2 => ?_, fun d hd => ?_⟩
  · rw [List.getElem?_map] at e1 e2
    obtain ⟨t, q1, rfl⟩ := Option.map_eq_some_iff.mp e1
    obtain ⟨v, q2, rfl⟩ := Option.map_eq_some_iff.mp e2
    exact Ev.td 0 (h3 i t v q1 q2)
  · obtain ⟨e, _, rfl⟩ := List.mem_map.mp hd
    exact shaped_ev e
/-- not a moment of a life of n events -/
def NoM (K : PySem.W.Frag) (H : Hp) (n : Nat) (x : V) : Prop := CntV K H x false ∨ ∃ j : Int, x = .int j ∧ (j < 0 ∨ (n : Int) < j)
theorem NoM.same {K : PySem.W.Frag} {H H' : Hp} {n : Nat} {x : V} (k : Same H H') : NoM K H n x → NoM K H' n x := Or.imp_left fun h => h.up k
def spNeedM (K : PySem.W.Frag) : Sp := fun vs H Q E => (∃ x y, vs = [x, y] ∧ OddL K H x ∧ Rs (cRun K) x H E) ∨ (∃ (a : Addr) (es : List Ev) (y : V), vs = [.ref a, y] ∧ LifeAt K H a es ∧ Valid es ∧ NoM K H es.length y ∧ Rs (cMom K) y H E) ∨ ∃ (a : Addr) (es : List Ev) (m : Nat), vs = [.ref a, .int (m : Int)] ∧ LifeAt K H a es ∧ Valid es ∧ m ≤ es.length ∧ ∀ H', Same H H' → Q .non H'
section
variable {P : Program} {w : World} {K : PySem.W.Frag} {mg : Str → Option Value} {base : Heap}
abbrev s_is_life : Stmt := top 25
abbrev N_is_life : List Str := ["value", "event", "written", "stood"]
theorem sc_is_life : FnScope N_is_life ["value"] (defScope s_is_life) := ⟨rfl, rfl, rfl, by decide +kernel, rfl, by decide +kernel, by decide +kernel⟩
theorem ok_is_life {f : Addr} {fd : FuncData} (F : FnP K "is_life" s_is_life f fd) (Z : FreeS mg)
    {f_is_event : Addr} {d_is_event : FuncData} (g_is_event : mg "is_event" = some (.ref f_is_event)) (F_is_event : FnP K "is_event" s_is_event f_is_event d_is_event) (G_is_event : FnOk P w K mg base CX0 4 f_is_event d_is_event ["event"] (spIsEvent K)) (C : Cn K mg) :
    FnOk P w K mg base CX0 5 f fd ["value"] (spIsLife K) := by
  have b_is_event : Binds K d_is_event ["event"] [] := F_is_event.bindsN fun _ _ _ _ _ _ us hl => match us, hl with | [_], _ => rfl
  refine F.ok sc_is_life (fun vs H Q E h => ?_) (fun cdv A outer s H vs Q E hr h => ?_)
  · rcases h with ⟨x, rfl, _⟩ | ⟨a, es, rfl, _⟩ <;> rfl
  · obtain ⟨x, rfl, hx⟩ : ∃ x, vs = [x] ∧ ((∃ t, TyX K H x (.type t) ∧ kitB t "list" = some false ∧ Q (.bl false) H) ∨ ∃ (a : Addr) (xs : List V) (ds : List PyData) (n : Nat), x = .ref a ∧ H a = some (.lst xs) ∧ xs.length = ds.length ∧ ds.length ≤ 1000 ∧ (∀ (i : Nat) (u : V) (e : PyData), xs[i]? = some u → ds[i]? = some e → TD K H n u e) ∧ (∀ d ∈ ds, SeqAt.shaped d = true) ∧ ∀ H', Same H H' → Q (.bl (lifeB ds)) H') := by
      rcases h with ⟨x, rfl, ho, k⟩ | ⟨a, es, rfl, hL, hV, k⟩
      · rcases ho with ⟨t, ty, e⟩ | ⟨a, xs, ds, n, rfl, h, l, l1, c, s, b⟩
        · exact ⟨x, rfl, .inl ⟨t, ty, e, k _ (Same.refl _)⟩⟩
        · exact ⟨_, rfl, .inr ⟨a, xs, ds, n, rfl, h, l, l1, c, s, fun H' s' => by rw [b]; exact k H' s'⟩⟩
      · obtain ⟨xs, h, l, c, s⟩ := hL.tds
        have := hV.len
        exact ⟨_, rfl, .inr ⟨a, xs, _, 1, rfl, h, l, by rw [List.length_map]; omega, c, s, fun H' s' => by rw [lifeB_ok hV]; exact k H' s'⟩⟩
    have nd := sc_is_life.nd
    refine ⟨_, PSs.nox (pss_cons (ps_if (PW.pt (pw_or (pt_not (pt_val (pe_callB call_isi (by rfl) Z.isi (by decide +kernel) (pa_cons (pv 0) (pa_cons (pe_bltn (v := .ty "list") (by rfl) Z.tlist (by decide +kernel) rfl) pa_nil))))) (pw_or1 (pt_not (pt_val (pe_callB (cr_all rfl) (by rfl) Z.all (by decide +kernel) (pa_cons (pe_lc (own := [("event", 1)]) (g := gName 1) (tt := tYes) (te := tCall (spIsEvent K) [] E0 (tCons (tVar 1) (tNil))) (by rfl) nd (pi_list (pv 0))
          (blkOk_by (own := [("event", 1)]) (N := N_is_life) (sc := defScope s_is_life) (by decide +kernel)) (fun _ _ _ _ _ => pg_name (i := 1) nd rfl (Or.inl rfl)) (fun _ _ _ _ _ => pts_nil)
          (fun _ _ _ _ _ => pe_call G_is_event (hr.mono (by decide)) rfl g_is_event F_is_event.kp b_is_event .nil pass0 (pa_cons (pv 1) (pa_nil)))) (pa_nil)))))))) (pss_one (ps_ret (pe_bl))) (pss_nil))
      (pss_cons (ps_set (i := 2) nd rfl (Or.inl rfl) (pe_int))
      (pss_cons (ps_set (i := 3) nd rfl (Or.inl rfl) (pe_int))
      (pss_cons (ps_for PassesOwn.never rfl (pi_list (pv 0)) (pg_name (i := 1) nd rfl (Or.inl rfl))
        (pss_one (ps_if (pt_cmpR (op_eqD hr.units) (pv 1) (pe_glob (v := .ref (aL K)) (by rfl) C.gL rfl) (nomark _)) (pss_one (ps_aug (i := 2) nd rfl (Or.inl rfl) (pe_int) ip_add)) (pss_one (ps_if (pt_cmpR (op_neD hr.units) (pv 1) (pe_glob (v := .ref (aR K)) (by rfl) C.gR rfl) (nomark _)) (pss_cons (ps_if (pt_not (pt_chain op_le op_le (pv 3) (pe_ix ix_tup (pv 1) (pe_int) (fun _ _ => rfl)) (pv 2))) (pss_one (ps_ret (pe_bl))) (pss_nil))
      (pss_one (ps_set (i := 3) nd rfl (Or.inl rfl) (pe_ix ix_tup (pv 1) (pe_int) (fun _ _ => rfl))))) (pss_nil))))))
      (pss_one (ps_ret (pe_bl))))))), ?_⟩
    rcases hx with ⟨t, ty, k1, k⟩ | ⟨a, xs, ds, n, rfl, ha, l, l1, c, sh, k⟩
    · exact ⟨_, rfl, x, .ty "list", .type t, .type "list", false, rfl, .ty _, ty, kit_ty k1, false, rfl, iteT k⟩
    refine ⟨_, rfl, .ref a, .ty "list", .type "list", .type "list", true, rfl, .ty _, .base (.lst ha), kit_ty (by decide +kernel), true, rfl, iteF ?_⟩
    refine ⟨_, rfl, a, rfl, ⟨_, SqL.of ha⟩, fun D hD => ?_⟩
    refine lc_sel (walk_list (K := K) (a := a) (xs := xs)) (fun i => some (.bl (evB (ds.getD i .none)))) (by omega) hD (fun H2 s2 => SqL.of (s2 _ _ ha)) ?_ ?_
    · rintro i v H2 H3 Qy Qn hi sH ⟨rfl, hv⟩ ky kn
      have e : ds[i]? = some (ds[i]'(by omega)) := List.getElem?_eq_getElem (by omega)
      refine ⟨rfl, _, rfl, v, _, n, rfl, (c i v _ hv e).same sH, sh _ (List.getElem_mem _), ky _ _ (Same.refl _) ?_⟩
      rw [List.getD_eq_getElem?_getD, e]
      rfl
    intro H2 s2 hR
    refine ⟨D, (List.range xs.length).map fun i => evB (ds.getD i .none), rfl, SqL.of (map_bits hR), ?_⟩
    have eall : (List.range xs.length).all (fun i => evB (ds.getD i .none)) = ds.all evB := by
      rw [l, Bool.eq_iff_iff, List.all_eq_true, List.all_eq_true]
      constructor
      · intro h x hx
        obtain ⟨i, hi, rfl⟩ := List.mem_iff_getElem.mp hx
        have := h i (List.mem_range.mpr hi)
        rw [List.getD_eq_getElem?_getD, List.getElem?_eq_getElem hi] at this
        exact this
      · intro h i hi
        rw [List.mem_range] at hi
        rw [List.getD_eq_getElem?_getD, List.getElem?_eq_getElem hi]
        exact h _ (List.getElem_mem hi)
    rw [all_map_id, eall]
    have k2 : ∀ H', Same H H' → Q (.bl (ds.all evB && walkB 0 0 ds)) H' := k
    cases ea : ds.all evB with
    | false =>
      rw [ea] at k2
      exact ⟨false, rfl, iteT (k2 _ s2)⟩
    | true =>
    rw [ea] at k2
    have evs := List.all_eq_true.mp ea
    obtain ⟨Z, hZ⟩ : ∃ Z, walkB 0 0 ds = Z := ⟨_, rfl⟩
    rw [hZ] at k2
    refine ⟨true, rfl, iteF ?_⟩
    refine ⟨_, rfl, a, rfl, ⟨_, SqL.of (s2 _ _ ha)⟩, ?_⟩
    refine for_list (xs := xs) (fun i σ H3 => H3 = H2 ∧ ∃ v1 W S, walkB W S (ds.drop i) = Z ∧ σ = [some (.ref a), v1, some (.int W), some (.int S)])
      ⟨rfl, none, 0, 0, hZ, rfl⟩ (fun i σ H3 _ hh => by rw [hh.1]; exact SqL.of (s2 _ _ ha)) ?_ ?_
    · rintro i y σ H3 hy ⟨rfl, v1, W, S, hW, rfl⟩
      have hi : i < ds.length := by
        rw [← l]
        exact (List.getElem?_eq_some_iff.mp hy).1
      have ee := List.getElem?_eq_getElem hi
      have td := (c i y _ hy ee).same s2
      have shi := sh _ (List.getElem_mem hi)
      rw [List.drop_eq_getElem_cons hi] at hW
      have hev := evs _ (List.getElem_mem hi)
      generalize ds[i] = d at td shi hW hev
      refine ⟨_, rfl, _, _, td.dp shi, C.dL _, shi, shaped_ev .line, _, rfl, ?_⟩
      unfold walkB at hW
      cases e1 : PyData.eqv d Ev.line.d with
      | true =>
        rw [e1, if_pos rfl] at hW
        exact iteT ⟨_, rfl, _, _, rfl, rfl, rfl, _, _, _, hW, rfl⟩
      | false =>
      rw [e1, if_neg Bool.false_ne_true] at hW
      refine iteF ⟨_, rfl, _, _, td.dp shi, C.dR _, shi, shaped_ev .root, _, rfl, ?_⟩
      cases e2 : PyData.eqv d Ev.root.d with
      | true =>
        rw [e2, if_pos rfl] at hW
        exact iteF ⟨rfl, _, _, _, hW, rfl⟩
      | false =>
      rw [e2, if_neg Bool.false_ne_true] at hW
      obtain ⟨d0, m, rfl⟩ := stand_of hev e1 e2
      rcases td_tup td with ⟨_, _, _, no⟩ | ⟨T, ys, es, n', rfl, hT, e3, l3, c3⟩
      · exact absurd rfl (no _)
      cases e3
      obtain ⟨x0, x1, rfl⟩ : ∃ x0 x1, ys = [x0, x1] := by
        match ys, l3 with
        | [x0, x1], _ => exact ⟨x0, x1, rfl⟩
      obtain rfl := td_flatI (c3 1 x1 _ rfl rfl)
      have hW2 : (decide (S ≤ m) && (decide (m ≤ W) && walkB W m (ds.drop (i + 1)))) = Z := hW
      refine iteT ⟨_, rfl, _, rfl, T, _, 1, .int m, rfl, rfl, hT, rfl, _, _, rfl, rfl, _, rfl, ?_⟩
      by_cases h1 : S ≤ m
      · rw [decide_eq_true h1, Bool.true_and] at hW2
        rw [decide_eq_true h1]
        refine iteT ⟨_, rfl, _, _, rfl, rfl, _, rfl, ?_⟩
        by_cases h2 : m ≤ W
        · rw [decide_eq_true h2, Bool.true_and] at hW2
          rw [decide_eq_true h2]
          refine iteF ⟨_, rfl, T, _, 1, .int m, rfl, rfl, hT, rfl, ?_⟩
          exact ⟨rfl, _, _, _, hW2, rfl⟩
        · rw [decide_eq_false h2, Bool.false_and] at hW2
          rw [decide_eq_false h2]
          refine iteT ?_
          have k3 := k2 _ s2
          rw [← hW2] at k3
          exact k3
      · rw [decide_eq_false h1, Bool.false_and] at hW2
        rw [decide_eq_false h1]
        have k3 := k2 _ s2
        rw [← hW2] at k3
        exact iteF ⟨_, rfl, iteT k3⟩
    · rintro σ H3 ⟨rfl, v1, W, S, hW, rfl⟩
      have k3 := k2 _ s2
      rw [l, List.drop_length] at hW
      rw [← hW] at k3
      exact k3
abbrev s_need_life : Stmt := top 26
abbrev N_need_life : List Str := ["life"]
theorem sc_need_life : FnScope N_need_life ["life"] (defScope s_need_life) := ⟨rfl, rfl, rfl, by decide +kernel, rfl, by decide +kernel, by decide +kernel⟩
theorem ok_need_life {f : Addr} {fd : FuncData} (F : FnP K "need_life" s_need_life f fd) (Z : FreeS mg)
    {f_is_life : Addr} {d_is_life : FuncData} (g_is_life : mg "is_life" = some (.ref f_is_life)) (F_is_life : FnP K "is_life" s_is_life f_is_life d_is_life) (G_is_life : FnOk P w K mg base CX0 5 f_is_life d_is_life ["value"] (spIsLife K)) (ER : ErrOk P w K mg base "InvalidRun" (cRun K)) :
    FnOk P w K mg base (L2.CX P w) 6 f fd ["life"] (spNeedLife K) := by
  have b_is_life : Binds K d_is_life ["value"] [] := F_is_life.bindsN fun _ _ _ _ _ _ us hl => match us, hl with | [_], _ => rfl
  refine F.ok sc_need_life (fun vs H Q E h => ?_) (fun cdv A outer s H vs Q E hr h => ?_)
  · rcases h with ⟨x, rfl, _⟩ | ⟨a, es, rfl, _⟩ <;> rfl
  · have hh := h
    clear h
    obtain ⟨⟨fI, fdI, T, F1, EB⟩, gC⟩ := ER
    have nd := sc_need_life.nd
    refine ⟨_, id (pss_one (ps_if (pt_not (pt_val (pe_call G_is_life (hr.mono (by decide)) rfl g_is_life F_is_life.kp b_is_life .nil pass0 (pa_cons (pv 0) (pa_nil))))) (pss_one (ps_raise rfl (takes_of rfl rfl rfl rfl) (pmk_err T F1 EB (hr.mono (by decide)) gC (pv 0)))) (pss_nil))), ?_⟩
    rcases hh with ⟨x, rfl, ho, k⟩ | ⟨a, es, rfl, hL, hV, k⟩
    · exact ⟨_, rfl, .inl ⟨x, rfl, ho, fun H1 s1 => ⟨false, rfl, iteT ⟨_, rfl, raise_in fun d hd => k d _ (s1.trans (Same.updf hd)) (none_back s1 hd) upd_same⟩⟩⟩⟩
    · exact ⟨_, rfl, .inr ⟨a, es, rfl, hL, hV, fun H1 s1 => ⟨true, rfl, iteF (k H1 s1)⟩⟩⟩
abbrev s_need_life_and_places : Stmt := top 27
abbrev N_need_life_and_places : List Str := ["life", "places"]
theorem sc_need_life_and_places : FnScope N_need_life_and_places ["life", "places"] (defScope s_need_life_and_places) := ⟨rfl, rfl, rfl, by decide +kernel, rfl, by decide +kernel, by decide +kernel⟩
theorem ok_need_life_and_places {f : Addr} {fd : FuncData} (F : FnP K "need_life_and_places" s_need_life_and_places f fd) (Z : FreeS mg)
    {f_need_life : Addr} {d_need_life : FuncData} (g_need_life : mg "need_life" = some (.ref f_need_life)) (F_need_life : FnP K "need_life" s_need_life f_need_life d_need_life) (G_need_life : FnOk P w K mg base (L2.CX P w) 6 f_need_life d_need_life ["life"] (spNeedLife K))
    {f_need_count_from_one : Addr} {d_need_count_from_one : FuncData} (g_need_count_from_one : mg "need_count_from_one" = some (.ref f_need_count_from_one)) (F_need_count_from_one : FnP K "need_count_from_one" s_need_count_from_one f_need_count_from_one d_need_count_from_one) (G_need_count_from_one : FnOk P w K mg base (L2.CX P w) 4 f_need_count_from_one d_need_count_from_one ["number"] (spNeed1 K)) :
    FnOk P w K mg base (L2.CX P w) 7 f fd ["life", "places"] (spNeedLP K) := by
  have b_need_life : Binds K d_need_life ["life"] [] := F_need_life.bindsN fun _ _ _ _ _ _ us hl => match us, hl with | [_], _ => rfl
  have b_need_count_from_one : Binds K d_need_count_from_one ["number"] [] := F_need_count_from_one.bindsN fun _ _ _ _ _ _ us hl => match us, hl with | [_], _ => rfl
  refine F.ok sc_need_life_and_places (fun vs H Q E h => ?_) (fun cdv A outer s H vs Q E hr h => ?_)
  · rcases h with ⟨x, y, rfl, _⟩ | ⟨a, es, y, rfl, _⟩ | ⟨a, es, p, rfl, _⟩ <;> rfl
  · have hh := h
    clear h
    have nd := sc_need_life_and_places.nd
    refine ⟨_, id (pss_cons (ps_expr (pe_call G_need_life (hr.mono (by decide)) rfl g_need_life F_need_life.kp b_need_life .nil (passes_call (takes_of rfl rfl rfl rfl) (fun _ _ _ _ h => h)) (pa_cons (pv 0) (pa_nil))))
      (pss_one (ps_expr (pe_call G_need_count_from_one (hr.mono (by decide)) rfl g_need_count_from_one F_need_count_from_one.kp b_need_count_from_one .nil (passes_call (takes_of rfl rfl rfl rfl) (fun _ _ _ _ h => h)) (pa_cons (pv 1) (pa_nil)))))), ?_⟩
    rcases hh with ⟨x, y, rfl, ho, k⟩ | ⟨a, es, y, rfl, hL, hV, hy, k⟩ | ⟨a, es, p, rfl, hL, hV, hp, k⟩
    · exact ⟨_, rfl, .inl ⟨x, rfl, ho, k⟩⟩
    · exact ⟨_, rfl, .inr ⟨a, es, rfl, hL, hV, fun H1 s1 => ⟨_, rfl, .inr ⟨y, rfl, hy.same s1, k.next s1⟩⟩⟩⟩
    · exact ⟨_, rfl, .inr ⟨a, es, rfl, hL, hV, fun H1 s1 => ⟨_, rfl, .inl ⟨p, rfl, hp, k H1 s1⟩⟩⟩⟩
abbrev s_need_moment : Stmt := top 28
abbrev N_need_moment : List Str := ["life", "moment"]
theorem sc_need_moment : FnScope N_need_moment ["life", "moment"] (defScope s_need_moment) := ⟨rfl, rfl, rfl, by decide +kernel, rfl, by decide +kernel, by decide +kernel⟩
theorem ok_need_moment {f : Addr} {fd : FuncData} (F : FnP K "need_moment" s_need_moment f fd) (Z : FreeS mg)
    {f_need_life : Addr} {d_need_life : FuncData} (g_need_life : mg "need_life" = some (.ref f_need_life)) (F_need_life : FnP K "need_life" s_need_life f_need_life d_need_life) (G_need_life : FnOk P w K mg base (L2.CX P w) 6 f_need_life d_need_life ["life"] (spNeedLife K))
    {f_is_count_below : Addr} {d_is_count_below : FuncData} (g_is_count_below : mg "is_count_below" = some (.ref f_is_count_below)) (F_is_count_below : FnP K "is_count_below" s_is_count_below f_is_count_below d_is_count_below) (G_is_count_below : FnOk P w K mg base CX0 3 f_is_count_below d_is_count_below ["value", "bound"] (spBelow K)) (ER : ErrOk P w K mg base "InvalidMoment" (cMom K)) :
    FnOk P w K mg base (L2.CX P w) 7 f fd ["life", "moment"] (spNeedM K) := by
  have b_need_life : Binds K d_need_life ["life"] [] := F_need_life.bindsN fun _ _ _ _ _ _ us hl => match us, hl with | [_], _ => rfl
  have b_is_count_below : Binds K d_is_count_below ["value", "bound"] [] := F_is_count_below.bindsN fun _ _ _ _ _ _ us hl => match us, hl with | [_, _], _ => rfl
  refine F.ok sc_need_moment (fun vs H Q E h => ?_) (fun cdv A outer s H vs Q E hr h => ?_)
  · rcases h with ⟨x, y, rfl, _⟩ | ⟨a, es, y, rfl, _⟩ | ⟨a, es, p, rfl, _⟩ <;> rfl
  · have hh := h
    clear h
    obtain ⟨⟨fI, fdI, T, F1, EB⟩, gC⟩ := ER
    have nd := sc_need_moment.nd
    refine ⟨_, id (pss_cons (ps_expr (pe_call G_need_life (hr.mono (by decide)) rfl g_need_life F_need_life.kp b_need_life .nil (passes_call (takes_of rfl rfl rfl rfl) (fun _ _ _ _ h => h)) (pa_cons (pv 0) (pa_nil))))
      (pss_one (ps_if (pt_not (pt_val (pe_call G_is_count_below (hr.mono (by decide)) rfl g_is_count_below F_is_count_below.kp b_is_count_below .nil pass0 (pa_cons (pv 1) (pa_cons (pe_op op_add (pe_callB call_len_seq (by rfl) Z.len (by decide +kernel) (pa_cons (pv 0) (pa_nil))) (pe_int)) (pa_nil)))))) (pss_one (ps_raise rfl (takes_of rfl rfl rfl rfl) (pmk_err T F1 EB (hr.mono (by decide)) gC (pv 1)))) (pss_nil)))), ?_⟩
    rcases hh with ⟨x, y, rfl, ho, k⟩ | ⟨a, es, y, rfl, hL, hV, hy, k⟩ | ⟨a, es, p, rfl, hL, hV, hp, k⟩
    · exact ⟨_, rfl, .inl ⟨x, rfl, ho, k⟩⟩
    · refine ⟨_, rfl, .inr ⟨a, es, rfl, hL, hV, fun H1 s1 => ?_⟩⟩
      obtain ⟨ts, ha, lt, ht⟩ := hL.same s1
      have fail : ∀ (σ' : Unit), True := fun _ => trivial
      rcases hy with hy | ⟨j, rfl, hj⟩
      · exact ⟨_, rfl, _, rfl, a, _, rfl, .inl (SqL.of ha), _, _, rfl, rfl, .inr ⟨y, _, rfl, hy.up s1, false, rfl, iteT ⟨_, rfl, raise_in fun d hd => k d _ (s1.trans (Same.updf hd)) (none_back s1 hd) upd_same⟩⟩⟩
      · refine ⟨_, rfl, _, rfl, a, _, rfl, .inl (SqL.of ha), _, _, rfl, rfl, .inl ⟨j, _, rfl, _, rfl, ?_⟩⟩
        rw [List.length_map, lt, show (decide (0 ≤ j) && decide (j < (es.length : Int) + 1)) = false by
          rcases hj with h | h
          · rw [decide_eq_false (by omega)]; rfl
          · rw [show decide (j < (es.length : Int) + 1) = false from decide_eq_false (by omega), Bool.and_false]]
        exact iteT ⟨_, rfl, raise_in fun d hd => k d _ (s1.trans (Same.updf hd)) (none_back s1 hd) upd_same⟩
    · refine ⟨_, rfl, .inr ⟨a, es, rfl, hL, hV, fun H1 s1 => ?_⟩⟩
      obtain ⟨ts, ha, lt, ht⟩ := hL.same s1
      refine ⟨_, rfl, _, rfl, a, _, rfl, .inl (SqL.of ha), _, _, rfl, rfl, .inl ⟨(p : Int), _, rfl, _, rfl, ?_⟩⟩
      rw [List.length_map, lt, decide_eq_true (show (0 : Int) ≤ (p : Int) by omega), decide_eq_true (show (p : Int) < (es.length : Int) + 1 by omega)]
      exact iteF (k H1 s1)
end
end K36
set_option Elab.async false
set_option linter.all false
set_option maxRecDepth 100000
set_option maxHeartbeats 8000000
namespace K36
open PySem PySem.Spec PyProof.Rows L2 KB
theorem cut_to {xs : List V} {m : Nat} (h : m ≤ xs.length) : cutV xs none (some (m : Int)) = xs.take m := by
  unfold cutV
  rw [HT.sIx_none, HT.sIx_nat, List.drop_zero, Nat.sub_zero, Nat.min_eq_left h]
theorem LifeAt.take {K : PySem.W.Frag} {H H' : Hp} {a q : Addr} {es : List Ev} {xs : List V} (h : LifeAt K H a es) (ha : H a = some (.lst xs)) (k : Same H H') (m : Nat) (hq : H' q = some (.lst (xs.take m))) : LifeAt K H' q (es.take m) := by
  obtain ⟨ts, h1, h2, h3⟩ := h
  rw [ha] at h1
  cases h1
  refine ⟨ts.take m, by rw [hq, List.map_take], by rw [List.length_take, List.length_take, h2], fun i t e e1 e2 => ?_⟩
  rw [List.getElem?_take] at e1 e2
  by_cases hi : i < m
  · rw [if_pos hi] at e1 e2
    exact SqT_up k (h3 i t e e1 e2)
  · rw [if_neg hi] at e1
    cases e1
theorem lay_life : ∀ es : List Ev, PyData.canLayAll0 (es.map Ev.d) = true ∧ PyData.depthAll (es.map Ev.d) ≤ 1
  | [] => ⟨rfl, by simp [PyData.depthAll]⟩
  | e :: es => by
    obtain ⟨h1, h2⟩ := lay_life es
    have c := SeqAt.canLay_of_shaped (shaped_ev e)
    have d : e.d.depth ≤ 1 := by cases e <;> simp [Ev.d, PyData.depth, PyData.depthAll]
    refine ⟨?_, ?_⟩
    · show PyData.canLayAll0 (e.d :: es.map Ev.d) = true
      simp only [PyData.canLayAll0, c, h1, Bool.and_self]
    · show PyData.depthAll (e.d :: es.map Ev.d) ≤ 1
      simp only [PyData.depthAll]
      omega
theorem shaped_life (es : List Ev) : SeqAt.shaped (.list (es.map Ev.d)) = true := by
  obtain ⟨h1, h2⟩ := lay_life es
  refine Bool.and_eq_true_iff.mpr ⟨?_, decide_eq_true ?_⟩
  · simp only [PyData.canLay0]
    exact h1
  · simp only [PyData.depth]
    omega
theorem count_lines : ∀ (es : List Ev) (x : S3), (es.foldl step x).w = x.w + (es.map Ev.d).countP fun z => PyData.eqv z Ev.line.d
  | [], x => by simp
  | e :: es, x => by
    rw [List.foldl_cons, count_lines es, List.map_cons, List.countP_cons, eqv_line]
    cases e with
    | line =>
      show x.w + 1 + _ = x.w + (_ + if decide (Ev.line = Ev.line) = true then 1 else 0)
      rw [if_pos (decide_eq_true rfl)]
      omega
    | root =>
      show x.w + _ = x.w + (_ + if decide (Ev.root = Ev.line) = true then 1 else 0)
      rw [if_neg (by decide)]
      omega
    | stand n =>
      show x.w + _ = x.w + (_ + if decide (Ev.stand n = Ev.line) = true then 1 else 0)
      rw [if_neg (by rw [decide_eq_false (by intro z; cases z)]; exact Bool.false_ne_true)]
      omega
theorem count_take (es : List Ev) (m : Nat) : ((es.take m).map Ev.d).countP (fun z => PyData.eqv z Ev.line.d) = (stAt es m).w := by
  have := count_lines (es.take m) ⟨0, 0, 0⟩
  unfold stAt
  rw [this]
  simp
/-- a list of pairs of counts -/
structure PairsAt (H : Hp) (q : Addr) (ps : List (Nat × Nat)) : Prop where
  ex : ∃ ts : List Addr, H q = some (.lst (ts.map V.ref)) ∧ ts.length = ps.length ∧ ∀ (i : Nat) (t : Addr) (x : Nat × Nat), ts[i]? = some t → ps[i]? = some x → H t = some (.tup [.int (x.1 : Int), .int (x.2 : Int)])
def pairD (x : Nat × Nat) : PyData := .tuple [.int (x.1 : Int), .int (x.2 : Int)]
theorem PairsAt.tr {H : Hp} {q : Addr} {ps : List (Nat × Nat)} (h : PairsAt H q ps) (l : ps.length ≤ 1000) : Tr H 2 (.ref q) (.list (ps.map pairD)) := by
  obtain ⟨ts, h1, h2, h3⟩ := h
  refine Tr.lst h1 (by rw [List.length_map, List.length_map, h2]) (by rw [List.length_map]; exact l) fun i u e e1 e2 => ?_
  rw [List.getElem?_map] at e1 e2
  obtain ⟨t, q1, rfl⟩ := Option.map_eq_some_iff.mp e1
  obtain ⟨v, q2, rfl⟩ := Option.map_eq_some_iff.mp e2
  exact Tr.tup (h3 i t v q1 q2) rfl (Nat.le_of_ble_eq_true rfl) (tr_cons (Tr.flat (.int _)) (tr_cons (Tr.flat (.int _)) tr_nil))
theorem lay_pairs : ∀ ps : List (Nat × Nat), PyData.canLayAll0 (ps.map pairD) = true ∧ PyData.depthAll (ps.map pairD) ≤ 1
  | [] => ⟨rfl, by simp [PyData.depthAll]⟩
  | e :: es => by
    obtain ⟨h1, h2⟩ := lay_pairs es
    have c : (pairD e).canLay0 = true := by simp [pairD, PyData.canLay0, PyData.canLayAll0]
    have d : (pairD e).depth ≤ 1 := by simp [pairD, PyData.depth, PyData.depthAll]
    refine ⟨?_, ?_⟩
    · show PyData.canLayAll0 (pairD e :: es.map pairD) = true
      simp only [PyData.canLayAll0, c, h1, Bool.and_self]
    · show PyData.depthAll (pairD e :: es.map pairD) ≤ 1
      simp only [PyData.depthAll]
      omega
theorem shaped_pairs (ps : List (Nat × Nat)) : SeqAt.shaped (.list (ps.map pairD)) = true := by
  obtain ⟨h1, h2⟩ := lay_pairs ps
  refine Bool.and_eq_true_iff.mpr ⟨?_, decide_eq_true ?_⟩
  · simp only [PyData.canLay0]
    exact h1
  · simp only [PyData.depth]
    omega
def spWanted (K : PySem.W.Frag) : Sp := fun vs H Q _ => ∃ (a : Addr) (es : List Ev) (p : Nat), vs = [.ref a, .int (p : Int)] ∧ LifeAt K H a es ∧ es.length ≤ 200 ∧ ∀ q H', Same H H' → H q = none → PairsAt H' q (wl es p) → Q (.ref q) H'
def optV : Option Nat → V
  | none => .non
  | some i => .int (i : Int)
theorem wl_len (es : List Ev) (p : Nat) : (wl es p).length ≤ es.length := by
  unfold wl
  have h1 := List.length_filterMap_le (fun k => if k + 1 > p + (stAt es ((lp es).getD k 0)).g then some (k + 1, (lp es).getD k 0) else none) (List.range (lp es).length)
  have h2 : (lp es).length ≤ es.length := by
    unfold lp
    have := List.length_filter_le (isL es) (List.range es.length)
    rw [List.length_range] at this
    exact this
  rw [List.length_range] at h1
  omega
theorem lp_len (es : List Ev) : (lp es).length ≤ es.length := by
  unfold lp
  have := List.length_filter_le (isL es) (List.range es.length)
  rw [List.length_range] at this
  exact this
def spLP (K : PySem.W.Frag) (G : Hp → VK → XK → Addr → List Ev → Nat → Prop) : Sp := fun vs H Q E => (∃ x y, vs = [x, y] ∧ OddL K H x ∧ Rs (cRun K) x H E) ∨ (∃ (a : Addr) (es : List Ev) (y : V), vs = [.ref a, y] ∧ LifeAt K H a es ∧ Valid es ∧ No1 K H y ∧ Rs (cCnt K) y H E) ∨
  ∃ (a : Addr) (es : List Ev) (p : Nat), vs = [.ref a, .int (p : Int)] ∧ LifeAt K H a es ∧ Valid es ∧ 1 ≤ p ∧ G H Q E a es p
def spLM (K : PySem.W.Frag) (G : Hp → VK → List Ev → Nat → Prop) : Sp := fun vs H Q E => (∃ x y, vs = [x, y] ∧ OddL K H x ∧ Rs (cRun K) x H E) ∨ (∃ (a : Addr) (es : List Ev) (y : V), vs = [.ref a, y] ∧ LifeAt K H a es ∧ Valid es ∧ NoM K H es.length y ∧ Rs (cMom K) y H E) ∨
  ∃ (a : Addr) (es : List Ev) (m : Nat), vs = [.ref a, .int (m : Int)] ∧ LifeAt K H a es ∧ Valid es ∧ m ≤ es.length ∧ G H Q es m
def spFits (K : PySem.W.Frag) : Sp := spLP K fun H Q _ a es p => ∀ H', Same H H' → Q (.bl (full es p).isNone) H'
def spFirstF (K : PySem.W.Frag) : Sp := spLP K fun H Q _ a es p => ∀ H', Same H H' → Q (optV (full es p)) H'
/-- the fewest places -/
structure IsLeast (es : List Ev) (m : Int) : Prop where
  no : lp es = [] → m = 1
  ex : lp es ≠ [] → ∃ i, i < es.length ∧ isL es i = true ∧ m = ((stAt es i).w : Int) + 1 - ((stAt es i).g : Int)
  le : ∀ i, i < es.length → isL es i = true → ((stAt es i).w : Int) + 1 - ((stAt es i).g : Int) ≤ m
def spLeastP (K : PySem.W.Frag) : Sp := fun vs H Q E => (∃ x, vs = [x] ∧ OddL K H x ∧ Rs (cRun K) x H E) ∨ ∃ (a : Addr) (es : List Ev), vs = [.ref a] ∧ LifeAt K H a es ∧ Valid es ∧ ∀ m H', Same H H' → IsLeast es m → Q (.int m) H'
def stillL (es : List Ev) (m : Nat) : List V := rgV (((stAt es m).g : Int) + 1) (((stAt es m).w : Int) + 1)
def spGivenUp (K : PySem.W.Frag) : Sp := spLM K fun H Q es m => ∀ H', Same H H' → Q (.int ((stAt es m).g : Int)) H'
def spStill (K : PySem.W.Frag) : Sp := spLM K fun H Q es m => ∀ q H', Same H H' → H q = none → H' q = some (.lst (stillL es m)) → Q (.ref q) H'
section
variable {P : Program} {w : World} {K : PySem.W.Frag} {mg : Str → Option Value} {base : Heap}
abbrev s_wanted : Stmt := top 33
abbrev N_wanted : List Str := ["life", "places", "gone", "at", "place"]
theorem sc_wanted : FnScope N_wanted ["life", "places"] (defScope s_wanted) := ⟨rfl, rfl, rfl, by decide +kernel, rfl, by decide +kernel, by decide +kernel⟩
theorem ok_wanted {f : Addr} {fd : FuncData} (F : FnP K "wanted" s_wanted f fd) (Z : FreeS mg)
    {f_numbers_given_up : Addr} {d_numbers_given_up : FuncData} (g_numbers_given_up : mg "numbers_given_up" = some (.ref f_numbers_given_up)) (F_numbers_given_up : FnP K "numbers_given_up" s_numbers_given_up f_numbers_given_up d_numbers_given_up) (G_numbers_given_up : FnOk P w K mg base CX0 4 f_numbers_given_up d_numbers_given_up ["life"] (spGone K))
    {f_line_places : Addr} {d_line_places : FuncData} (g_line_places : mg "line_places" = some (.ref f_line_places)) (F_line_places : FnP K "line_places" s_line_places f_line_places d_line_places) (G_line_places : FnOk P w K mg base CX0 1 f_line_places d_line_places ["life"] (spLines K)) :
    FnOk P w K mg base CX0 5 f fd ["life", "places"] (spWanted K) := by
  have b_numbers_given_up : Binds K d_numbers_given_up ["life"] [] := F_numbers_given_up.bindsN fun _ _ _ _ _ _ us hl => match us, hl with | [_], _ => rfl
  have b_line_places : Binds K d_line_places ["life"] [] := F_line_places.bindsN fun _ _ _ _ _ _ us hl => match us, hl with | [_], _ => rfl
  refine F.ok sc_wanted (fun vs H Q E h => ?_) (fun cdv A outer s H vs Q E hr h => ?_)
  · obtain ⟨a, es, p, rfl, _⟩ := h
    rfl
  · obtain ⟨a, es, p, rfl, hL, l60, k⟩ := h
    have nd := sc_wanted.nd
    refine ⟨_, PSs.nox (pss_cons (ps_set (i := 2) nd rfl (Or.inr rfl) (pe_call G_numbers_given_up (hr.mono (by decide)) rfl g_numbers_given_up F_numbers_given_up.kp b_numbers_given_up .nil pass0 (pa_cons (pv 0) (pa_nil))))
      (pss_one (ps_ret (pe_lc (own := [("at", 3), ("place", 4)]) (g := gTup K 2 (gCons (gName 3) (gCons (gName 4) (gNil)))) (tt := tTest (tOp (rI0 fun i j => .bl (decide (j < i))) (tOp (rI0 fun i j => .int (i - j)) (tOp (rI0 fun i j => .int (i + j)) (tVar 3) (tC (.int 1))) (tVar 1)) (tOp (rIxL K) (tVar 2) (tVar 4)))) (te := tTup (tCons (tOp (rI0 fun i j => .int (i + j)) (tVar 3) (tC (.int 1))) (tCons (tVar 4) (tNil)))) (by rfl) nd (pi_enum (by rfl) Z.enumerate (pa_cons (pe_call G_line_places (hr.mono (by decide)) rfl g_line_places F_line_places.kp b_line_places .nil pass0 (pa_cons (pv 0) (pa_nil))) (pa_nil)))
          (blkOk_by (own := [("at", 3), ("place", 4)]) (N := N_wanted) (sc := defScope s_wanted) (by decide +kernel)) (fun _ _ _ _ _ => pg_tup rfl (pgs_cons (pg_name (i := 3) nd rfl (Or.inl rfl)) (pgs_cons (pg_name (i := 4) nd rfl (Or.inl rfl)) (pgs_nil)))) (fun _ _ _ _ _ => pts_one (pt_cmpR op_gt (pe_op op_sub (pe_op op_add (pv 3) (pe_int)) (pv 1)) (pe_ix ix_list (pv 2) (pv 4) (fun _ _ => rfl)) (nomark _)))
          (fun _ _ _ _ _ => pe_tup (pa_cons (pe_op op_add (pv 3) (pe_int)) (pa_cons (pv 4) (pa_nil)))))))), ?_⟩
    refine ⟨_, rfl, a, es, rfl, hL, l60, fun q1 H1 s1 hq1 e1 => ?_⟩
    refine ⟨_, rfl, a, es, rfl, hL.same s1, l60, fun q2 H2 s2 hq2 e2 => ?_⟩
    have e12 := s2 _ _ e1
    have ll := lp_len es
    refine ⟨q2, _, rfl, SqL.of e2, fun D hD => ?_⟩
    have wk := walk_enum (K := K) (a := q2) (xs := ((lp es).map fun i : Nat => (i : Int)).map V.int)
    rw [List.length_map, List.length_map] at wk
    let sel : Nat → Option (Nat × Nat) := fun j => if j + 1 > p + (stAt es ((lp es).getD j 0)).g then some (j + 1, (lp es).getD j 0) else none
    refine lc_it wk (fun i H3 => Same H2 H3 ∧ ∃ ts : List Addr, H3 D = some (.lst (ts.map V.ref)) ∧ ts.length = ((List.range i).filterMap sel).length ∧ ∀ (j : Nat) (t : Addr) (x : Nat × Nat), ts[j]? = some t → ((List.range i).filterMap sel)[j]? = some x → H3 t = some (.tup [.int (x.1 : Int), .int (x.2 : Int)]))
      ⟨Same.updf hD, [], upd_same, rfl, fun j t x h _ => by simp at h⟩ (fun i H3 _ hh => SqL.of (hh.1 _ _ e2)) ?_ ?_
    · rintro i v H3 H4 hi ⟨s3, ts, hts, lts, kts⟩ ⟨T2, x1, x2, rfl, nT, rfl, g1, g2⟩
      dsimp only at g1 g2
      obtain rfl := Option.some.inj g1
      have hlp : (lp es)[i]? = some ((lp es).getD i 0) := by
        rw [List.getD_eq_getElem?_getD, List.getElem?_eq_getElem hi]
        rfl
      rw [List.getElem?_map, List.getElem?_map, hlp] at g2
      obtain rfl := Option.some.inj g2
      obtain ⟨hlt, _, _⟩ := lp_at hlp
      have sT : Same H3 (upd H3 T2 (.tup [.int (i : Nat), .int (((lp es).getD i 0 : Nat) : Int)])) := Same.updf nT
      refine ⟨T2, [_, _], rfl, .inl (.inl upd_same), rfl, _, [_], rfl, _, [], rfl, rfl, ?_⟩
      have eg := sT _ _ (s3 _ _ e12)
      refine ⟨rfl, _, rfl, _, _, rfl, rfl, _, rfl, _, _, rfl, rfl, _, rfl, _, rfl, q1, _, (((lp es).getD i 0 : Nat) : Int), _, rfl, rfl, SqL.of eg, atI_nat (goneL_at (by omega)), _, _, rfl, rfl, _, rfl, ?_⟩
      have nD3 : T2 ≠ D := fun e => by
        rw [e] at nT
        rw [nT] at hts
        cases hts
      have es1 : (List.range (i + 1)).filterMap sel = (List.range i).filterMap sel ++ (sel i).toList := by
        rw [List.range_succ, List.filterMap_append]
        congr 1
      refine ite2 (fun hc => ?_) (fun hc => ?_)
      · have hc' : i + 1 > p + (stAt es ((lp es).getD i 0)).g := by
          have := of_decide_eq_true hc
          omega
        have esel : sel i = some (i + 1, (lp es).getD i 0) := if_pos hc'
        refine ⟨_, rfl, _, _, rfl, rfl, _, rfl, (by show 2 ≤ sizeLine; decide), fun t3 ht3 => ?_⟩
        have s4 : Same (upd H3 T2 (.tup [.int (i : Nat), .int (((lp es).getD i 0 : Nat) : Int)])) (upd (upd H3 T2 (.tup [.int (i : Nat), .int (((lp es).getD i 0 : Nat) : Int)])) t3 (.tup [.int ((i : Nat) + 1 : Int), .int (((lp es).getD i 0 : Nat) : Int)])) := Same.updf ht3
        have s34 := sT.trans s4
        have nt3 : t3 ≠ D := fun e => by
          rw [e] at ht3
          rw [upd_ne (Ne.symm nD3)] at ht3
          rw [ht3] at hts
          cases hts
        refine ⟨_, s34 _ _ hts, ?_, fun b o e => ?_, ts ++ [t3], ?_, ?_, ?_⟩
        · rw [List.length_map, lts]
          have h1 := List.length_filterMap_le sel (List.range i)
          rw [List.length_range] at h1
          have : (2000 : Nat) ≤ sizeLine := by decide
          omega
        · rw [upd_ne (ne_of_none e hD)]
          exact s34 _ _ (s3 _ _ e)
        · rw [upd_same, List.map_append]
          rfl
        · rw [es1, esel, List.length_append, List.length_append, lts]
          rfl
        · intro j t x h1 h2
          rw [es1, esel] at h2
          have ntD : t ≠ D := fun e => by
            by_cases hj : j < ts.length
            · rw [List.getElem?_append_left hj] at h1
              rw [List.getElem?_append_left (by rw [← lts]; exact hj)] at h2
              have := kts j t x h1 h2
              rw [e, hts] at this
              cases this
            · rw [List.getElem?_append_right (by omega)] at h1
              have := List.mem_of_getElem? h1
              rw [List.mem_singleton] at this
              exact nt3 (this ▸ e)
          rw [upd_ne ntD]
          by_cases hj : j < ts.length
          · rw [List.getElem?_append_left hj] at h1
            rw [List.getElem?_append_left (by rw [← lts]; exact hj)] at h2
            exact s34 _ _ (kts j t x h1 h2)
          · rw [List.getElem?_append_right (by omega)] at h1
            rw [List.getElem?_append_right (by rw [← lts]; omega)] at h2
            have q1 := List.mem_of_getElem? h1
            have q2 := List.mem_of_getElem? h2
            rw [List.mem_singleton] at q1
            simp only [Option.toList_some, List.mem_singleton] at q2
            rw [q1, q2, upd_same]
            rfl
      · have hc' : ¬ i + 1 > p + (stAt es ((lp es).getD i 0)).g := fun z => hc (decide_eq_true (by omega))
        have esel : sel i = none := if_neg hc'
        refine ⟨s3.trans sT, ts, sT _ _ hts, ?_, fun j t x h1 h2 => ?_⟩
        · rw [es1, esel, List.length_append, lts]
          rfl
        · rw [es1, esel, Option.toList_none, List.append_nil] at h2
          exact sT _ _ (kts j t x h1 h2)
    · rintro H3 ⟨s3, ts, hts, lts, kts⟩
      exact k D H3 (s1.trans (s2.trans s3)) (none_back (s1.trans s2) hD) ⟨ts, hts, lts, kts⟩
abbrev s_fits : Stmt := top 34
abbrev N_fits : List Str := ["life", "places"]
theorem sc_fits : FnScope N_fits ["life", "places"] (defScope s_fits) := ⟨rfl, rfl, rfl, by decide +kernel, rfl, by decide +kernel, by decide +kernel⟩
theorem ok_fits {f : Addr} {fd : FuncData} (F : FnP K "fits" s_fits f fd) (Z : FreeS mg)
    {f_need_life_and_places : Addr} {d_need_life_and_places : FuncData} (g_need_life_and_places : mg "need_life_and_places" = some (.ref f_need_life_and_places)) (F_need_life_and_places : FnP K "need_life_and_places" s_need_life_and_places f_need_life_and_places d_need_life_and_places) (G_need_life_and_places : FnOk P w K mg base (L2.CX P w) 7 f_need_life_and_places d_need_life_and_places ["life", "places"] (spNeedLP K))
    {f_wanted : Addr} {d_wanted : FuncData} (g_wanted : mg "wanted" = some (.ref f_wanted)) (F_wanted : FnP K "wanted" s_wanted f_wanted d_wanted) (G_wanted : FnOk P w K mg base CX0 5 f_wanted d_wanted ["life", "places"] (spWanted K)) :
    FnOk P w K mg base (L2.CX P w) 8 f fd ["life", "places"] (spFits K) := by
  have b_need_life_and_places : Binds K d_need_life_and_places ["life", "places"] [] := F_need_life_and_places.bindsN fun _ _ _ _ _ _ us hl => match us, hl with | [_, _], _ => rfl
  have b_wanted : Binds K d_wanted ["life", "places"] [] := F_wanted.bindsN fun _ _ _ _ _ _ us hl => match us, hl with | [_, _], _ => rfl
  refine F.ok sc_fits (fun vs H Q E h => ?_) (fun cdv A outer s H vs Q E hr h => ?_)
  · rcases h with ⟨x, y, rfl, _⟩ | ⟨a, es, y, rfl, _⟩ | ⟨a, es, p, rfl, _⟩ <;> rfl
  · have hh := h
    clear h
    have nd := sc_fits.nd
    refine ⟨_, id (pss_cons (ps_expr (pe_call G_need_life_and_places (hr.mono (by decide)) rfl g_need_life_and_places F_need_life_and_places.kp b_need_life_and_places .nil (passes_call (takes_of rfl rfl rfl rfl) (fun _ _ _ _ h => h)) (pa_cons (pv 0) (pa_cons (pv 1) (pa_nil)))))
      (pss_one (ps_ret (pe_cmpR (op_eqD hr.units) (pe_call G_wanted (hr.mono (by decide)) rfl g_wanted F_wanted.kp b_wanted .nil pass0 (pa_cons (pv 0) (pa_cons (pv 1) (pa_nil)))) (pe_lst (pa_nil)) (nomark _))))), ?_⟩
    rcases hh with ⟨x, y, rfl, ho, k⟩ | ⟨a, es, y, rfl, hL, hV, hy, k⟩ | ⟨a, es, p, rfl, hL, hV, hp, k⟩
    · exact ⟨_, rfl, _, rfl, .inl ⟨x, y, rfl, ho, k⟩⟩
    · exact ⟨_, rfl, _, rfl, .inr (.inl ⟨a, es, y, rfl, hL, hV, hy, k⟩)⟩
    have l60 := hV.len
    refine ⟨_, rfl, _, rfl, .inr (.inr ⟨a, es, (p : Int), rfl, hL, hV, by omega, fun H1 s1 => ?_⟩)⟩
    refine ⟨_, rfl, _, rfl, a, es, p, rfl, hL.same s1, l60, fun q H2 s2 hq hP => ?_⟩
    refine ⟨(by show 0 ≤ sizeLine; decide), fun l hl => ?_⟩
    have s3 : Same H2 (upd H2 l (.lst [])) := Same.updf hl
    have wlen := wl_len es p
    obtain ⟨ts, h1, h2, h3⟩ := id hP
    have hP3 : PairsAt (upd H2 l (.lst [])) q (wl es p) := ⟨ts, s3 _ _ h1, h2, fun i t x e1 e2 => s3 _ _ (h3 i t x e1 e2)⟩
    refine ⟨_, .list [], (hP3.tr (by omega)).dp, .lst (SqL.of upd_same) .nil, shaped_pairs _, shaped_pairs [], ?_⟩
    have e : PyData.eqv (.list ((wl es p).map pairD)) (.list []) = (full es p).isNone := by
      rw [← wl_full]
      cases wl es p with
      | nil => simp [PyData.eqv, PyData.eqvAll]
      | cons x r => simp [PyData.eqv, PyData.eqvAll]
    rw [e]
    exact k _ (s1.trans (s2.trans s3))
abbrev s_first_full : Stmt := top 35
abbrev N_first_full : List Str := ["life", "places", "late"]
theorem sc_first_full : FnScope N_first_full ["life", "places"] (defScope s_first_full) := ⟨rfl, rfl, rfl, by decide +kernel, rfl, by decide +kernel, by decide +kernel⟩
theorem ok_first_full {f : Addr} {fd : FuncData} (F : FnP K "first_full" s_first_full f fd) (Z : FreeS mg)
    {f_need_life_and_places : Addr} {d_need_life_and_places : FuncData} (g_need_life_and_places : mg "need_life_and_places" = some (.ref f_need_life_and_places)) (F_need_life_and_places : FnP K "need_life_and_places" s_need_life_and_places f_need_life_and_places d_need_life_and_places) (G_need_life_and_places : FnOk P w K mg base (L2.CX P w) 7 f_need_life_and_places d_need_life_and_places ["life", "places"] (spNeedLP K))
    {f_wanted : Addr} {d_wanted : FuncData} (g_wanted : mg "wanted" = some (.ref f_wanted)) (F_wanted : FnP K "wanted" s_wanted f_wanted d_wanted) (G_wanted : FnOk P w K mg base CX0 5 f_wanted d_wanted ["life", "places"] (spWanted K)) :
    FnOk P w K mg base (L2.CX P w) 8 f fd ["life", "places"] (spFirstF K) := by
  have b_need_life_and_places : Binds K d_need_life_and_places ["life", "places"] [] := F_need_life_and_places.bindsN fun _ _ _ _ _ _ us hl => match us, hl with | [_, _], _ => rfl
  have b_wanted : Binds K d_wanted ["life", "places"] [] := F_wanted.bindsN fun _ _ _ _ _ _ us hl => match us, hl with | [_, _], _ => rfl
  refine F.ok sc_first_full (fun vs H Q E h => ?_) (fun cdv A outer s H vs Q E hr h => ?_)
  · rcases h with ⟨x, y, rfl, _⟩ | ⟨a, es, y, rfl, _⟩ | ⟨a, es, p, rfl, _⟩ <;> rfl
  · have hh := h
    clear h
    have nd := sc_first_full.nd
    refine ⟨_, id (pss_cons (ps_expr (pe_call G_need_life_and_places (hr.mono (by decide)) rfl g_need_life_and_places F_need_life_and_places.kp b_need_life_and_places .nil (passes_call (takes_of rfl rfl rfl rfl) (fun _ _ _ _ h => h)) (pa_cons (pv 0) (pa_cons (pv 1) (pa_nil)))))
      (pss_cons (ps_set (i := 2) nd rfl (Or.inl rfl) (pe_call G_wanted (hr.mono (by decide)) rfl g_wanted F_wanted.kp b_wanted .nil pass0 (pa_cons (pv 0) (pa_cons (pv 1) (pa_nil)))))
      (pss_cons (ps_if (pt_not (pt_truth (pv 2) (fun _ => rfl))) (pss_one (ps_ret (pe_non))) (pss_nil))
      (pss_one (ps_ret (pe_ix ix_tup (pe_ix ix_list (pv 2) (pe_int) (fun _ _ => rfl)) (pe_int) (fun _ _ => rfl))))))), ?_⟩
    rcases hh with ⟨x, y, rfl, ho, k⟩ | ⟨a, es, y, rfl, hL, hV, hy, k⟩ | ⟨a, es, p, rfl, hL, hV, hp, k⟩
    · exact ⟨_, rfl, _, rfl, .inl ⟨x, y, rfl, ho, k⟩⟩
    · exact ⟨_, rfl, _, rfl, .inr (.inl ⟨a, es, y, rfl, hL, hV, hy, k⟩)⟩
    have l60 := hV.len
    refine ⟨_, rfl, _, rfl, .inr (.inr ⟨a, es, (p : Int), rfl, hL, hV, by omega, fun H1 s1 => ?_⟩)⟩
    refine ⟨_, rfl, _, rfl, a, es, p, rfl, hL.same s1, l60, fun q H2 s2 hq hP => ?_⟩
    obtain ⟨ts, h1, h2, h3⟩ := id hP
    have kk := k H2 (s1.trans s2)
    rw [← wl_full] at kk
    refine ⟨_, rfl, _, Or.inl ⟨_, SqL.of h1, rfl⟩, ?_⟩
    cases hw : wl es p with
    | nil =>
      rw [hw] at kk h2
      have e0 : ts = [] := List.eq_nil_of_length_eq_zero h2
      subst e0
      exact kk
    | cons x r =>
      rw [hw] at kk h2 h3
      cases ts with
      | nil => simp at h2
      | cons t ts =>
        refine ⟨_, rfl, q, _, 0, .ref t, rfl, rfl, SqL.of h1, atI_nat (j := 0) rfl, t, _, 1, _, rfl, rfl, SqT.of (h3 0 t x rfl rfl), rfl, kk⟩
end
end K36
set_option Elab.async false
set_option linter.all false
set_option maxRecDepth 100000
set_option maxHeartbeats 8000000
namespace K36
open PySem PySem.Spec PyProof.Rows L2 KB
section
variable {P : Program} {w : World} {K : PySem.W.Frag} {mg : Str → Option Value} {base : Heap}
abbrev s_given_up : Stmt := top 31
abbrev N_given_up : List Str := ["life", "moment"]
theorem sc_given_up : FnScope N_given_up ["life", "moment"] (defScope s_given_up) := ⟨rfl, rfl, rfl, by decide +kernel, rfl, by decide +kernel, by decide +kernel⟩
theorem ok_given_up {f : Addr} {fd : FuncData} (F : FnP K "given_up" s_given_up f fd) (Z : FreeS mg)
    {f_need_moment : Addr} {d_need_moment : FuncData} (g_need_moment : mg "need_moment" = some (.ref f_need_moment)) (F_need_moment : FnP K "need_moment" s_need_moment f_need_moment d_need_moment) (G_need_moment : FnOk P w K mg base (L2.CX P w) 7 f_need_moment d_need_moment ["life", "moment"] (spNeedM K))
    {f_numbers_given_up : Addr} {d_numbers_given_up : FuncData} (g_numbers_given_up : mg "numbers_given_up" = some (.ref f_numbers_given_up)) (F_numbers_given_up : FnP K "numbers_given_up" s_numbers_given_up f_numbers_given_up d_numbers_given_up) (G_numbers_given_up : FnOk P w K mg base CX0 4 f_numbers_given_up d_numbers_given_up ["life"] (spGone K)) :
    FnOk P w K mg base (L2.CX P w) 8 f fd ["life", "moment"] (spGivenUp K) := by
  have b_need_moment : Binds K d_need_moment ["life", "moment"] [] := F_need_moment.bindsN fun _ _ _ _ _ _ us hl => match us, hl with | [_, _], _ => rfl
  have b_numbers_given_up : Binds K d_numbers_given_up ["life"] [] := F_numbers_given_up.bindsN fun _ _ _ _ _ _ us hl => match us, hl with | [_], _ => rfl
  refine F.ok sc_given_up (fun vs H Q E h => ?_) (fun cdv A outer s H vs Q E hr h => ?_)
  · rcases h with ⟨x, y, rfl, _⟩ | ⟨a, es, y, rfl, _⟩ | ⟨a, es, m, rfl, _⟩ <;> rfl
  · have hh := h
    clear h
    have nd := sc_given_up.nd
    refine ⟨_, id (pss_cons (ps_expr (pe_call G_need_moment (hr.mono (by decide)) rfl g_need_moment F_need_moment.kp b_need_moment .nil (passes_call (takes_of rfl rfl rfl rfl) (fun _ _ _ _ h => h)) (pa_cons (pv 0) (pa_cons (pv 1) (pa_nil)))))
      (pss_one (ps_ret (pe_ix ix_list (pe_call G_numbers_given_up (hr.mono (by decide)) rfl g_numbers_given_up F_numbers_given_up.kp b_numbers_given_up .nil pass0 (pa_cons (pv 0) (pa_nil))) (pv 1) (fun _ _ => rfl))))), ?_⟩
    rcases hh with ⟨x, y, rfl, ho, k⟩ | ⟨a, es, y, rfl, hL, hV, hy, k⟩ | ⟨a, es, m, rfl, hL, hV, hm, k⟩
    · exact ⟨_, rfl, _, rfl, .inl ⟨x, y, rfl, ho, k⟩⟩
    · exact ⟨_, rfl, _, rfl, .inr (.inl ⟨a, es, y, rfl, hL, hV, hy, k⟩)⟩
    obtain ⟨ts, ha, lt, ht⟩ := id hL
    refine ⟨_, rfl, _, rfl, .inr (.inr ⟨a, es, m, rfl, hL, hV, hm, fun H1 s1 => ?_⟩)⟩
    refine ⟨_, rfl, a, es, rfl, hL.same s1, hV.len, fun q H2 s2 hq e2 => ?_⟩
    refine ⟨_, rfl, q, _, (m : Int), _, rfl, rfl, SqL.of e2, atI_nat (goneL_at hm), k H2 (s1.trans s2)⟩
abbrev s_still_needed : Stmt := top 32
abbrev N_still_needed : List Str := ["life", "moment", "written"]
theorem sc_still_needed : FnScope N_still_needed ["life", "moment"] (defScope s_still_needed) := ⟨rfl, rfl, rfl, by decide +kernel, rfl, by decide +kernel, by decide +kernel⟩
theorem ok_still_needed {f : Addr} {fd : FuncData} (F : FnP K "still_needed" s_still_needed f fd) (Z : FreeS mg)
    {f_need_moment : Addr} {d_need_moment : FuncData} (g_need_moment : mg "need_moment" = some (.ref f_need_moment)) (F_need_moment : FnP K "need_moment" s_need_moment f_need_moment d_need_moment) (G_need_moment : FnOk P w K mg base (L2.CX P w) 7 f_need_moment d_need_moment ["life", "moment"] (spNeedM K))
    {f_numbers_given_up : Addr} {d_numbers_given_up : FuncData} (g_numbers_given_up : mg "numbers_given_up" = some (.ref f_numbers_given_up)) (F_numbers_given_up : FnP K "numbers_given_up" s_numbers_given_up f_numbers_given_up d_numbers_given_up) (G_numbers_given_up : FnOk P w K mg base CX0 4 f_numbers_given_up d_numbers_given_up ["life"] (spGone K)) (C : Cn K mg) :
    FnOk P w K mg base (L2.CX P w) 8 f fd ["life", "moment"] (spStill K) := by
  have b_need_moment : Binds K d_need_moment ["life", "moment"] [] := F_need_moment.bindsN fun _ _ _ _ _ _ us hl => match us, hl with | [_, _], _ => rfl
  have b_numbers_given_up : Binds K d_numbers_given_up ["life"] [] := F_numbers_given_up.bindsN fun _ _ _ _ _ _ us hl => match us, hl with | [_], _ => rfl
  refine F.ok sc_still_needed (fun vs H Q E h => ?_) (fun cdv A outer s H vs Q E hr h => ?_)
  · rcases h with ⟨x, y, rfl, _⟩ | ⟨a, es, y, rfl, _⟩ | ⟨a, es, m, rfl, _⟩ <;> rfl
  · have hh := h
    clear h
    have hu : _ + 65 < cLine := Nat.lt_of_le_of_lt (Nat.add_le_add_left (by decide : 65 ≤ 200) _) (Nat.lt_of_le_of_lt (Nat.add_le_add_right (Nat.le_add_right _ _) _) hr.un)
    have nd := sc_still_needed.nd
    refine ⟨_, id (pss_cons (ps_expr (pe_call G_need_moment (hr.mono (by decide)) rfl g_need_moment F_need_moment.kp b_need_moment .nil (passes_call (takes_of rfl rfl rfl rfl) (fun _ _ _ _ h => h)) (pa_cons (pv 0) (pa_cons (pv 1) (pa_nil)))))
      (pss_cons (ps_set (i := 2) nd rfl (Or.inl rfl) (pe_bm PySem.F.plainAttrs_list PySem.F.slot_list_count PySem.F.type_list_count (mt_countD hu) (pe_slice sl_list (pv 0) po_none (po_some (pv 1))) (pa_cons (pe_glob (v := .ref (aL K)) (by rfl) C.gL rfl) pa_nil)))
      (pss_one (ps_ret (pe_listRg rfl (by rfl) Z.tlist (prg_2 (by rfl) Z.range (pe_op op_add (pe_ix ix_list (pe_call G_numbers_given_up (hr.mono (by decide)) rfl g_numbers_given_up F_numbers_given_up.kp b_numbers_given_up .nil pass0 (pa_cons (pv 0) (pa_nil))) (pv 1) (fun _ _ => rfl)) (pe_int)) (pe_op op_add (pv 2) (pe_int)))))))), ?_⟩
    rcases hh with ⟨x, y, rfl, ho, k⟩ | ⟨a, es, y, rfl, hL, hV, hy, k⟩ | ⟨a, es, m, rfl, hL, hV, hm, k⟩
    · exact ⟨_, rfl, _, rfl, .inl ⟨x, y, rfl, ho, k⟩⟩
    · exact ⟨_, rfl, _, rfl, .inr (.inl ⟨a, es, y, rfl, hL, hV, hy, k⟩)⟩
    obtain ⟨ts, ha, lt, ht⟩ := id hL
    refine ⟨_, rfl, _, rfl, .inr (.inr ⟨a, es, m, rfl, hL, hV, hm, fun H1 s1 => ?_⟩)⟩
    have ha1 := s1 _ _ ha
    refine ⟨_, rfl, _, rfl, (m : Int), rfl, a, _, rfl, SqL.of ha1, fun q hq => ?_⟩
    rw [cut_to (by rw [List.length_map, lt]; exact hm)]
    have s2 : Same H1 (upd H1 q (.lst ((ts.map V.ref).take m))) := Same.updf hq
    have hL2 : LifeAt K (upd H1 q (.lst ((ts.map V.ref).take m))) q (es.take m) := (hL.same s1).take ha1 s2 m upd_same
    have l60 := hV.len
    refine ⟨Or.inl ⟨rfl, _, SqL.of upd_same⟩, q, _, _, _, rfl, rfl, hL2.dp, C.dL _, shaped_life _, shaped_ev .line, ?_⟩
    rw [count_take]
    have s12 := s1.trans s2
    have od := hV.ord m hm
    refine ⟨_, rfl, a, es, rfl, hL.same s12, hV.len, fun q3 H3 s3 hq3 e3 => ?_⟩
    refine ⟨_, rfl, q3, _, (m : Int), _, rfl, rfl, SqL.of e3, atI_nat (goneL_at hm), _, _, rfl, rfl, _, rfl, _, _, rfl, rfl, _, _, rfl, rfl, RgOk.of_le (by omega) (by omega) (by omega) (by omega), fun q4 hq4 => ?_⟩
    exact k q4 _ (s12.trans (s3.trans (Same.updf hq4))) (none_back (s12.trans s3) hq4) upd_same
abbrev s_least_places : Stmt := top 36
abbrev N_least_places : List Str := ["life", "gone", "at", "place"]
theorem sc_least_places : FnScope N_least_places ["life"] (defScope s_least_places) := ⟨rfl, rfl, rfl, by decide +kernel, rfl, by decide +kernel, by decide +kernel⟩
theorem ok_least_places {f : Addr} {fd : FuncData} (F : FnP K "least_places" s_least_places f fd) (Z : FreeS mg)
    {f_need_life : Addr} {d_need_life : FuncData} (g_need_life : mg "need_life" = some (.ref f_need_life)) (F_need_life : FnP K "need_life" s_need_life f_need_life d_need_life) (G_need_life : FnOk P w K mg base (L2.CX P w) 6 f_need_life d_need_life ["life"] (spNeedLife K))
    {f_numbers_given_up : Addr} {d_numbers_given_up : FuncData} (g_numbers_given_up : mg "numbers_given_up" = some (.ref f_numbers_given_up)) (F_numbers_given_up : FnP K "numbers_given_up" s_numbers_given_up f_numbers_given_up d_numbers_given_up) (G_numbers_given_up : FnOk P w K mg base CX0 4 f_numbers_given_up d_numbers_given_up ["life"] (spGone K))
    {f_line_places : Addr} {d_line_places : FuncData} (g_line_places : mg "line_places" = some (.ref f_line_places)) (F_line_places : FnP K "line_places" s_line_places f_line_places d_line_places) (G_line_places : FnOk P w K mg base CX0 1 f_line_places d_line_places ["life"] (spLines K)) :
    FnOk P w K mg base (L2.CX P w) 7 f fd ["life"] (spLeastP K) := by
  have b_need_life : Binds K d_need_life ["life"] [] := F_need_life.bindsN fun _ _ _ _ _ _ us hl => match us, hl with | [_], _ => rfl
  have b_numbers_given_up : Binds K d_numbers_given_up ["life"] [] := F_numbers_given_up.bindsN fun _ _ _ _ _ _ us hl => match us, hl with | [_], _ => rfl
  have b_line_places : Binds K d_line_places ["life"] [] := F_line_places.bindsN fun _ _ _ _ _ _ us hl => match us, hl with | [_], _ => rfl
  refine F.ok sc_least_places (fun vs H Q E h => ?_) (fun cdv A outer s H vs Q E hr h => ?_)
  · rcases h with ⟨x, rfl, _⟩ | ⟨a, es, rfl, _⟩ <;> rfl
  · have hh := h
    clear h
    have nd := sc_least_places.nd
    refine ⟨_, id (pss_cons (ps_expr (pe_call G_need_life (hr.mono (by decide)) rfl g_need_life F_need_life.kp b_need_life .nil (passes_call (takes_of rfl rfl rfl rfl) (fun _ _ _ _ h => h)) (pa_cons (pv 0) (pa_nil))))
      (pss_cons (ps_set (i := 1) nd rfl (Or.inr rfl) (pe_call G_numbers_given_up (hr.mono (by decide)) rfl g_numbers_given_up F_numbers_given_up.kp b_numbers_given_up .nil pass0 (pa_cons (pv 0) (pa_nil))))
      (pss_one (ps_ret (pe_callBK (cr_maxDf rfl) (by rfl) Z.max (by decide +kernel) (pa_cons (pe_lc (own := [("at", 2), ("place", 3)]) (g := gTup K 2 (gCons (gName 2) (gCons (gName 3) (gNil)))) (tt := tYes) (te := tOp (rI0 fun i j => .int (i - j)) (tOp (rI0 fun i j => .int (i + j)) (tVar 2) (tC (.int 1))) (tOp (rIxL K) (tVar 1) (tVar 3))) (by rfl) nd (pi_enum (by rfl) Z.enumerate (pa_cons (pe_call G_line_places (hr.mono (by decide)) rfl g_line_places F_line_places.kp b_line_places .nil pass0 (pa_cons (pv 0) (pa_nil))) (pa_nil)))
          (blkOk_by (own := [("at", 2), ("place", 3)]) (N := N_least_places) (sc := defScope s_least_places) (by decide +kernel)) (fun _ _ _ _ _ => pg_tup rfl (pgs_cons (pg_name (i := 2) nd rfl (Or.inl rfl)) (pgs_cons (pg_name (i := 3) nd rfl (Or.inl rfl)) (pgs_nil)))) (fun _ _ _ _ _ => pts_nil)
          (fun _ _ _ _ _ => pe_op op_sub (pe_op op_add (pv 2) (pe_int)) (pe_ix ix_list (pv 1) (pv 3) (fun _ _ => rfl)))) (pa_nil)) (pk_cons (pe_int) pk_nil)))))), ?_⟩
    rcases hh with ⟨x, rfl, ho, k⟩ | ⟨a, es, rfl, hL, hV, k⟩
    · exact ⟨_, rfl, .inl ⟨x, rfl, ho, k⟩⟩
    have l60 := hV.len
    refine ⟨_, rfl, .inr ⟨a, es, rfl, hL, hV, fun H0 s0 => ?_⟩⟩
    refine ⟨_, rfl, a, es, rfl, hL.same s0, l60, fun q1 H1 s1 hq1 e1 => ?_⟩
    refine ⟨_, rfl, a, es, rfl, (hL.same s0).same s1, l60, fun q2 H2 s2 hq2 e2 => ?_⟩
    have e12 := s2 _ _ e1
    have ll := lp_len es
    refine ⟨q2, _, rfl, SqL.of e2, fun D hD => ?_⟩
    have wk := walk_enum (K := K) (a := q2) (xs := ((lp es).map fun i : Nat => (i : Int)).map V.int)
    rw [List.length_map, List.length_map] at wk
    refine lc_sel wk (fun j => some (.int ((j : Int) + 1 - ((stAt es ((lp es).getD j 0)).g : Int)))) (by omega) hD (fun H3 s3 => SqL.of (s3 _ _ e2)) ?_ ?_
    · rintro i v H3 H4 Qy Qn hi s3 ⟨T2, x1, x2, rfl, nT, rfl, g1, g2⟩ ky kn
      dsimp only at g1 g2
      obtain rfl := Option.some.inj g1
      have hlp : (lp es)[i]? = some ((lp es).getD i 0) := by
        rw [List.getD_eq_getElem?_getD, List.getElem?_eq_getElem hi]
        rfl
      rw [List.getElem?_map, List.getElem?_map, hlp] at g2
      obtain rfl := Option.some.inj g2
      obtain ⟨hlt, _, _⟩ := lp_at hlp
      have sT : Same H3 (upd H3 T2 (.tup [.int (i : Nat), .int (((lp es).getD i 0 : Nat) : Int)])) := Same.updf nT
      refine ⟨T2, [_, _], rfl, .inl (.inl upd_same), rfl, _, [_], rfl, _, [], rfl, rfl, ?_⟩
      have eg := sT _ _ (s3 _ _ e12)
      exact ⟨rfl, _, rfl, _, _, rfl, rfl, _, rfl, _, rfl, q1, _, (((lp es).getD i 0 : Nat) : Int), _, rfl, rfl, SqL.of eg, atI_nat (goneL_at (by omega)), _, _, rfl, rfl, ky _ _ sT rfl⟩
    · intro H3 s3 hR
      have eR : ((List.range (lp es).length).filterMap fun j : Nat => some (V.int ((j : Int) + 1 - ((stAt es ((lp es).getD j 0)).g : Int)))) = ((List.range (lp es).length).map fun j : Nat => ((j : Int) + 1 - ((stAt es ((lp es).getD j 0)).g : Int))).map V.int := by
        rw [List.filterMap_eq_map', List.map_map]
        rfl
      rw [eR] at hR
      refine ⟨D, _, 1, rfl, rfl, SqL.of hR, fun m h0 h1 => ?_⟩
      have ne : (((List.range (lp es).length).map fun j : Nat => ((j : Int) + 1 - ((stAt es ((lp es).getD j 0)).g : Int))) = []) ↔ lp es = [] := by
        rw [List.map_eq_nil_iff]
        constructor
        · intro z
          have := congrArg List.length z
          rw [List.length_range] at this
          exact List.eq_nil_of_length_eq_zero this
        · intro z
          rw [z]
          rfl
      refine k m H3 (s0.trans (s1.trans (s2.trans s3))) ⟨fun z => h0 (ne.mpr z), fun z => ?_, fun i hi hl => ?_⟩
      · obtain ⟨hm, _⟩ := h1 fun y => z (ne.mp y)
        rw [List.mem_map] at hm
        obtain ⟨j, hj, rfl⟩ := hm
        rw [List.mem_range] at hj
        have hlp : (lp es)[j]? = some ((lp es).getD j 0) := by
          rw [List.getD_eq_getElem?_getD, List.getElem?_eq_getElem hj]
          rfl
        obtain ⟨a1, a2, a3⟩ := lp_at hlp
        exact ⟨_, a1, a2, by rw [a3]⟩
      · have hmem : i ∈ lp es := by
          unfold lp
          rw [List.mem_filter, List.mem_range]
          exact ⟨hi, hl⟩
        obtain ⟨j, hj, ej⟩ := List.getElem_of_mem hmem
        have hlp : (lp es)[j]? = some i := by rw [List.getElem?_eq_getElem hj, ej]
        obtain ⟨_, _, a3⟩ := lp_at hlp
        obtain ⟨_, hle⟩ := h1 fun y => by
          rw [ne.mp y] at hmem
          cases hmem
        have := hle _ (List.mem_map.mpr ⟨j, List.mem_range.mpr hj, rfl⟩)
        have ed : (lp es).getD j 0 = i := by
          rw [List.getD_eq_getElem?_getD, hlp]
          rfl
        rw [ed] at this
        rw [a3]
        exact this
end
end K36
set_option Elab.async false
set_option linter.all false
set_option maxRecDepth 100000
set_option maxHeartbeats 4000000
/-! x in l, l a list of dictionaries from keys to ints, x such a one. -/
namespace PySem.SeqAt
open AutoSeq1 (wpAny_loadPart')
open MeetsSeq MeetsSeq2 MeetsSeq3 SeqRoads2
section
variable {prog : Program} {w : World}
theorem kim_loop (l : Addr) (items : Array Value) (n : Nat) (dd : Option Addr) (sl : Array (Option Value)) (x : Value) (e : Nat → Bool) (k : Nat) :
    ∀ i : Nat, items.size - i = k → MeetsIn prog w (Builtin.«list.__contains__.loop» ⟨[.ref l, x, rawInt i], []⟩)
      (fun A R s => s.heap.get? l = some { cls := .type "list", dict := dd, data := .seq items n, slots := sl } ∧ (∀ j (h : j < items.size), EqP prog w A.in1 s items[j] x (e j)) ∧ R (.ok (.ret (.bool (((List.range items.size).drop i).any e)))) s) := by
  induction k with
  | zero =>
    intro i hk A R s h
    obtain ⟨hp, g, d, tk, os⟩ := s; obtain ⟨hl, he, h⟩ := h
    wp_walk using wpAny_loadPart' hl
    have hi : items[((i : Nat) : Int).toNat]? = none := by simp; omega
    have hd : (List.range items.size).drop i = [] := by simp; omega
    rw [hd] at h
    rw [hi]
    wp_walk
    exact h
  | succ k ih =>
    intro i hk A R s h
    obtain ⟨hp, g, d, tk, os⟩ := s; obtain ⟨hl, he, h⟩ := h
    wp_walk using wpAny_loadPart' hl
    have hlt : i < items.size := by omega
    have hi : items[((i : Nat) : Int).toNat]? = some items[i] := by simp [hlt]
    have hd : (List.range items.size).drop i = i :: (List.range items.size).drop (i + 1) := by simp [List.drop_eq_getElem_cons, hlt]
    rw [hd, List.any_cons] at h
    rw [hi]
    refine wpAny_bind (he i hlt _ _ ?_)
    cases hb : e i with
    | true =>
      rw [hb] at h
      wp_walk
      exact h
    | false =>
      rw [hb] at h
      have hc : ((i : Int) + 1) = ((i + 1 : Nat) : Int) := by push_cast; rfl
      wp_walk
      rw [hc]
      exact ⟨plainId_quiet plain_contains_loop _, codeAny_builtin entry_contains_loop (by
        rw [Around.under_plainId plain_contains_loop _]
        exact ih (i + 1) (by omega) A R _ ⟨hl, he, by simpa using h⟩)⟩
theorem kim_contains (l : Addr) (items : Array Value) (n : Nat) (dd : Option Addr) (sl : Array (Option Value)) (x : Value) (e : Nat → Bool) :
    MeetsIn prog w (Builtin.«list.__contains__» ⟨[.ref l, x], []⟩)
      (fun A R s => s.heap.get? l = some { cls := .type "list", dict := dd, data := .seq items n, slots := sl } ∧ (∀ j (h : j < items.size), EqP prog w A.in1 s items[j] x (e j)) ∧ R (.ok (.ret (.bool ((List.range items.size).any e)))) s) := by
  intro A R s h
  obtain ⟨hp, g, d, tk, os⟩ := s; obtain ⟨hl, he, h⟩ := h
  wp_walk using wpAny_loadPart' hl
  exact ⟨plainId_quiet plain_contains_loop _, codeAny_builtin entry_contains_loop (by
    rw [Around.under_plainId plain_contains_loop _]
    exact kim_loop l items n dd sl x e _ 0 rfl A R _ ⟨hl, he, by simpa using h⟩)⟩
theorem kim_in {A : Around} {E : Value → Shared → Prop} {s : Shared} {l : Addr} {items : Array Value} {x : Value} {Q : Value → Shared → Prop} (e : Nat → Bool) (hl : s.heap.IsList l items) (he : ∀ j (h : j < items.size), EqP prog w A.in1 s items[j] x (e j))
    (h : Q (.bool ((List.range items.size).any e)) s) : wpAny (model prog w) A (compareOp .In x (.ref l)) Q E s := by
  obtain ⟨⟨cls, dd, data, sl⟩, ho, hc, n, hd⟩ := id hl
  simp only at hc hd
  subst hc hd
  have hT : s.TypeIs (.ref l) "list" := ⟨_, ho, rfl⟩
  show wpAny _ A (do return .bool (← contains (.ref l) x)) Q E s
  refine wpAny_bind (wpAny_contains_slot hT F.slot_list_contains (wpAny_mono (call_meetsIn F.slot_list_contains hT F.entry_list_contains (F.args_list_contains_2 _ _) (kim_contains l items n dd sl x e) ⟨ho, he, (show wants (fun v s' => ∃ b, v = .bool b ∧ Q (.bool b) s') E _ s from ⟨_, rfl, h⟩)⟩) (fun v s' hv => ?_) fun _ _ e => e))
  obtain ⟨b, rfl, hq⟩ := hv
  exact wpAny_truthy_bool (wpAny_pure hq)
theorem kim_notIn {A : Around} {E : Value → Shared → Prop} {s : Shared} {l : Addr} {items : Array Value} {x : Value} {Q : Value → Shared → Prop} (e : Nat → Bool) (hl : s.heap.IsList l items) (he : ∀ j (h : j < items.size), EqP prog w A.in1 s items[j] x (e j))
    (h : Q (.bool (!(List.range items.size).any e)) s) : wpAny (model prog w) A (compareOp .NotIn x (.ref l)) Q E s := by
  obtain ⟨⟨cls, dd, data, sl⟩, ho, hc, n, hd⟩ := id hl
  simp only at hc hd
  subst hc hd
  have hT : s.TypeIs (.ref l) "list" := ⟨_, ho, rfl⟩
  show wpAny _ A (do return .bool (!(← contains (.ref l) x))) Q E s
  refine wpAny_bind (wpAny_contains_slot hT F.slot_list_contains (wpAny_mono (call_meetsIn F.slot_list_contains hT F.entry_list_contains (F.args_list_contains_2 _ _) (kim_contains l items n dd sl x e) ⟨ho, he, (show wants (fun v s' => ∃ b, v = .bool b ∧ Q (.bool (!b)) s') E _ s from ⟨_, rfl, h⟩)⟩) (fun v s' hv => ?_) fun _ _ e => e))
  obtain ⟨b, rfl, hq⟩ := hv
  exact wpAny_truthy_bool (wpAny_pure hq)
end
end PySem.SeqAt
namespace L2
open PySem PySem.Spec PyProof.Rows
theorem kim_hits {A : Around} {s : Shared} {kvs : List (Key × V)} {vb : List (Key × Value)} (rb : KV kvs vb) {ks : List (Key × V)} {va : List (Key × Value)} (ra : KV ks va) {P : Program} {w : World} :
    (∀ p ∈ ks, ∃ i j : Int, p.2 = .int i ∧ valV kvs p.1 = some (.int j)) → PySem.W.KeqHitsP P w A s vb va (ks.all fun p => decide (valV kvs p.1 = some p.2)) := by
  unfold KV at ra
  induction ra with
  | nil => intro _; exact .nil
  | @cons p q ps qs h t ih =>
    intro hp
    obtain ⟨h1, h2⟩ := h
    obtain ⟨i, j, e1, e2⟩ := hp p List.mem_cons_self
    have rr : RelO (some (V.int j)) (valueAt vb p.1) := by rw [← e2]; exact rb.val p.1
    obtain ⟨y, hy, ry⟩ := rr.some_of
    obtain ⟨k, v⟩ := q
    have h1' : p.1 = k := h1
    rw [h1'] at hy
    rw [List.all_cons]
    have h2' : RelV p.2 v := h2
    rw [e1] at h2'
    obtain ⟨t1, rfl⟩ := h2'
    obtain ⟨t2, rfl⟩ := ry
    have eb : decide (valV kvs p.1 = some p.2) = (i == j) := by
      rw [e1, e2, Bool.eq_iff_iff]
      simp
      exact eq_comm
    rw [eb]
    exact .hit hy ((MeetsSeq.EqGives.int i j t1 t2).at A s).eqP (ih fun p' hm => hp p' (List.mem_cons_of_mem _ hm))
/-- e i: whether the i-th of xs is equal to the dictionary ls -/
def EqMs (H : Hp) (a : Addr) (ls : List (Key × V)) (xs : List V) (e : Nat → Bool) : Prop :=
  ∀ (i : Nat) (v : V), xs[i]? = some v → ∃ (c : Addr) (ks : List (Key × V)), v = .ref c ∧ c ≠ a ∧ H c = some (.dK ks) ∧ ks.length = ls.length ∧ (∀ p ∈ ks, ∃ i j : Int, p.2 = .int i ∧ valV ls p.1 = some (.int j)) ∧ e i = ks.all fun p => decide (valV ls p.1 = some p.2)
section
variable {X : Cx} {pins : List (Addr × Obj)} {σ : St} {H : Hp} {s : Shared}
theorem kim_eqs (I : Inv X pins σ H s) {A : Around} (hu : A.units < cLine) {a : Addr} {ls : List (Key × V)} {xs : List V} {its : List Value} (ea : H a = some (.dK ls)) (hx : Vals xs its) {e : Nat → Bool} (h : EqMs H a ls xs e) :
    ∀ j (hj : j < its.toArray.size), SeqAt.EqP X.prog X.w A s its.toArray[j] (.ref a) (e j) := by
  intro j hj
  have lj : j < its.length := by simpa using hj
  have lx : j < xs.length := by
    have := hx.length
    omega
  obtain ⟨c, ks, ev, ne, ec, len, hp, eb⟩ := h j _ (List.getElem?_eq_getElem lx)
  obtain ⟨u0, eu, rj⟩ := hx.get (List.getElem?_eq_getElem lx)
  rw [List.getElem?_eq_getElem lj] at eu
  cases eu
  rw [ev] at rj
  have rj' : its[j] = Value.ref c := rj
  have e0 : its.toArray[j] = Value.ref c := by simpa using rj'
  rw [e0]
  obtain ⟨_, ya, va, ra, da⟩ := (show ObjOk X.prog X.w H s.heap a (.dK ls) from I.hok a _ ea)
  obtain ⟨_, yc, vc, rc, dc⟩ := (show ObjOk X.prog X.w H s.heap c (.dK ks) from I.hok c _ ec)
  have hl : vc.length = va.length := by rw [← ra.length, ← rc.length]; exact len
  refine SeqAt.eqP_refs ne fun E Q q => PySem.W.rcP_dicts (knd := mixKind X.prog X.w) (r := e j) yc ya dc da hu (fun _ => by rw [eb]; exact kim_hits ra rc hp) E Q ?_
  rw [show (vc.length == va.length) = true by simpa using hl, Bool.true_and]
  exact q
def rInM (K : PySem.W.Frag) (neg : Bool) : R2 := fun x y H Q => ∃ (a L : Addr) (ls : List (Key × V)) (xs : List V) (e : Nat → Bool), x = .ref a ∧ y = .ref L ∧ H a = some (.dK ls) ∧ SqL K H L xs ∧ EqMs H a ls xs e ∧ Q (.bl (((List.range xs.length).any e) != neg)) H
theorem op_notInM (hu : X.A.units + 1 < cLine) : OpR X (compareOp .NotIn) (rInM X.K true) := by
  intro pins s σ H x y v u Q I rx ry h
  obtain ⟨a, L, ls, xs, e, rfl, rfl, ea, hs, he, q⟩ := h
  obtain rfl : v = Value.ref a := rx
  obtain rfl : u = Value.ref L := ry
  obtain ⟨its, rv, ho, hlen⟩ := I.list hs
  obtain ⟨⟨cls, dd, data, sls⟩, n, ho, hc, hdn, hdt⟩ := ho
  have hL : s.heap.IsList L its.toArray := ⟨_, ho, hc, n, hdt⟩
  refine SeqAt.kim_notIn e hL (kim_eqs I (show X.A.in1.units < cLine from hu) ea rv he) ⟨.bl _, H, I, rfl, ?_⟩
  have l := rv.length
  have es : its.toArray.size = xs.length := by simp [l]
  rw [es]
  have z : ∀ b : Bool, (b != true) = !b := by decide
  rw [z] at q
  exact q
theorem op_inM (hu : X.A.units + 1 < cLine) : OpR X (compareOp .In) (rInM X.K false) := by
  intro pins s σ H x y v u Q I rx ry h
  obtain ⟨a, L, ls, xs, e, rfl, rfl, ea, hs, he, q⟩ := h
  obtain rfl : v = Value.ref a := rx
  obtain rfl : u = Value.ref L := ry
  obtain ⟨its, rv, ho, hlen⟩ := I.list hs
  obtain ⟨⟨cls, dd, data, sls⟩, n, ho, hc, hdn, hdt⟩ := ho
  have hL : s.heap.IsList L its.toArray := ⟨_, ho, hc, n, hdt⟩
  refine SeqAt.kim_in e hL (kim_eqs I (show X.A.in1.units < cLine from hu) ea rv he) ⟨.bl _, H, I, rfl, ?_⟩
  have l := rv.length
  have es : its.toArray.size = xs.length := by simp [l]
  rw [es]
  have z : ∀ b : Bool, (b != false) = b := by decide
  rw [z] at q
  exact q
end
end L2
set_option Elab.async false
set_option linter.all false
set_option maxRecDepth 100000
set_option maxHeartbeats 4000000
/-! Comprehensions whose items are new objects: a relation for each turn. -/
namespace L2
open PySem PySem.Spec PyProof.Rows KB
theorem paired_snoc {α β : Type} {F : α → β → Prop} : ∀ {xs : List α} {ys : List β} {x : α} {y : β}, Paired F xs ys → F x y → Paired F (xs ++ [x]) (ys ++ [y])
  | _, _, _, _, .nil, h => .cons h .nil
  | _, _, _, _, .cons r t, h => .cons r (paired_snoc t h)
theorem paired_mono {α β : Type} {F G : α → β → Prop} : ∀ {xs : List α} {ys : List β}, (∀ x y, F x y → G x y) → Paired F xs ys → Paired G xs ys
  | _, _, _, .nil => .nil
  | _, _, k, .cons r t => .cons (k _ _ r) (paired_mono k t)
theorem off_upd_le {H : Hp} {D : Addr} {o : HO} : Same (KB.off H D) (upd H D o) := fun b u e => by
  by_cases n : b = D
  · unfold KB.off at e
    rw [if_pos n] at e
    cases e
  · rw [off_at n] at e
    rw [upd_ne n]
    exact e
/-- turn i gives, if c i, an item y with R i y; what stood stays -/
theorem lc_rel {J : It} {n : Nat} {G : Hp → Prop} {Y : Nat → Hp → V → Hp → Prop} (w : Walk J n G Y) {g : TG} {tt : TT} {te : TE} {vs : List Nat} {σ : St} {H1 : Hp} {D : Addr} {Qd : Hp → Prop} (c : Nat → Bool) (R : Nat → V → Hp → Prop)
    (hR : ∀ i y H H', Same H H' → R i y H → R i y H') (hn : n ≤ 100000) (hD : H1 D = none) (hG : ∀ H, Same H1 H → G H)
    (hs : ∀ i x H H' (Qy : V → Hp → Prop) (Qn : Hp → Prop), i < n → Same H1 H → (∃ acc, H D = some (.lst acc)) → Y i H x H' → (∀ y H4, c i = true → Same H H4 → R i y (KB.off H4 D) → Qy y H4) → (∀ H4, c i = false → Same H H4 → Qn H4) →
      g x (wipe σ vs) H' fun σ2 H2 => wipe σ2 vs = wipe σ vs ∧ tt σ2 H2 fun b H3 => if b = true then te σ2 H3 Qy else Qn H3)
    (hd : ∀ H ys, Same H1 H → H D = some (.lst ys) → Paired (fun i y => R i y (KB.off H D)) ((List.range n).filter c) ys → Qd H) :
    ∃ W : Nat → Nat → Hp → Prop, (∃ m, W 0 m (upd H1 D (.lst []))) ∧ ∀ i m H, W i m H →
      (J.stop i H ∧ Qd H) ∨ (J.go i H ∧ ∃ Nx : Hp → Prop, (∀ H', Nx H' → ∃ m', m' < m ∧ W (i + 1) m' H') ∧ ∀ x H', J.yld i H x H' → g x (wipe σ vs) H' fun σ2 H2 => wipe σ2 vs = wipe σ vs ∧ tt σ2 H2 fun b H3 =>
        if b = true then te σ2 H3 fun y H4 => ∃ acc, H4 D = some (.lst acc) ∧ acc.length < sizeLine ∧ Nx (upd H4 D (.lst (acc ++ [y]))) else Nx H3) := by
  refine lc_it w (fun i H => Same H1 H ∧ ∃ ys, H D = some (.lst ys) ∧ ys.length ≤ i ∧ Paired (fun i y => R i y (KB.off H D)) ((List.range i).filter c) ys) ⟨Same.updf hD, [], upd_same, Nat.le_refl _, .nil⟩ (fun i H _ h => hG H h.1) (fun i x H H' hi hP hy => ?_) (fun H h => ?_)
  · obtain ⟨s1, ys, hD', ly, py⟩ := hP
    refine hs i x H H' _ _ hi s1 ⟨ys, hD'⟩ hy (fun y H4 e s4 r => ?_) (fun H4 e s4 => ?_)
    · have l2 : (100000 : Nat) < sizeLine := by decide
      refine ⟨ys, s4 _ _ hD', by omega, fun b o eb => ?_, ys ++ [y], upd_same, by rw [List.length_append]; exact Nat.succ_le_succ ly, ?_⟩
      · rw [upd_ne (ne_of_none eb hD)]
        exact s4 _ _ (s1 _ _ eb)
      · rw [List.range_succ, List.filter_append, List.filter_cons, if_pos e, List.filter_nil, off_upd]
        exact paired_snoc (paired_mono (fun i y h => hR i y _ _ (off_same D s4) h) py) r
    · refine ⟨s1.trans s4, ys, s4 _ _ hD', by omega, ?_⟩
      rw [List.range_succ, List.filter_append, List.filter_cons, if_neg (by rw [e]; exact Bool.false_ne_true), List.filter_nil, List.append_nil]
      exact paired_mono (fun i y h => hR i y _ _ (off_same D s4) h) py
  · obtain ⟨s1, ys, hD', ly, py⟩ := h
    exact hd H ys s1 hD' py
/-- pairs on the heap, taken for a dictionary's -/
theorem pairs_addr {K : PySem.W.Frag} {H : Hp} : ∀ {is : List Nat} {ys : List V} {f : Nat → Key × V}, Paired (fun i y => ∃ T, y = .ref T ∧ H T = some (.tup [kV (f i).1, (f i).2])) is ys →
    ∃ ps : List Addr, ys = ps.map V.ref ∧ Paired (fun p kv => SqT K H p [kV kv.1, kv.2]) ps (is.map f)
  | _, _, _, .nil => ⟨[], rfl, .nil⟩
  | _, _, _, .cons r t => by
    obtain ⟨T, rfl, h⟩ := r
    obtain ⟨ps, rfl, p⟩ := pairs_addr t
    exact ⟨T :: ps, rfl, .cons (SqT.of h) p⟩
end L2
namespace KB
open PySem PySem.Spec PyProof.Rows L2
def rDictP (K : PySem.W.Frag) : List V → Hp → VK → Prop := fun xs H Q => ∃ (a : Addr) (ps : List Addr) (kvs : List (Key × V)), xs = [.ref a] ∧ SqL K H a (ps.map V.ref) ∧ Paired (fun p kv => SqT K H p [kV kv.1, kv.2]) ps kvs ∧
    ∀ p, H p = none → Q (.ref p) (upd H p (.dK (mergeK [] kvs)))
theorem call_dictPR {X : Cx} (hc : X.calm = true) : CallR X (.type "dict") (rDictP X.K) := call_dictP hc
def rDictD : List V → Hp → VK → Prop := fun xs H Q => ∃ (a : Addr) (kvs : List (Key × V)), xs = [V.ref a] ∧ Rd H a (.dK kvs) ∧ ∀ p, H p = none → Q (.ref p) (upd H p (.dK kvs))
theorem call_dictDR {X : Cx} : CallR X (.type "dict") rDictD := call_dictD
end KB
namespace KB
open PySem PySem.Spec PyProof.Rows L2
def rSortDI : List V → Hp → VK → Prop := fun xs H Q => ∃ (a : Addr) (kvs : List (Key × V)) (ks : List Int), xs = [V.ref a] ∧ Rd H a (.dK kvs) ∧ kvs.map (·.1) = ks.map Sum.inl ∧ ks.length < 64 ∧
    ∀ (ys : List Int) (p : Addr), ys.Perm ks → ys.Pairwise (· ≤ ·) → H p = none → Q (.ref p) (upd H p (.lst (ys.map V.int)))
theorem cr_sortedDI {X : Cx} (hc : X.calm = true) : CallR X (.builtin "sorted") rSortDI := call_sortedDI hc
end KB
set_option Elab.async false
set_option linter.all false
set_option maxRecDepth 100000
set_option maxHeartbeats 4000000
/-! A new object that is gone over at once: it is held from then on. -/
namespace L2
open PySem PySem.Spec PyProof.Rows
def tLk (t : TE) : TE := fun σ H Q => t σ H fun x H1 => ∃ d u, x = .ref d ∧ H1 d = some u ∧ Mut (some u) ∧ ∀ od, Q x (upd H1 d (.frz od u))
theorem pe_lk {X : Cx} {e : Expr} {t : TE} (h : PE X e t) : PE X e (tLk t) := by
  refine ⟨fun pins s σ H Q I hw => ?_⟩
  refine thn (h.run pins s σ H _ I hw) fun v s1 ⟨x, H1, I1, r, q⟩ => ?_
  obtain ⟨d, u, ex, hd, mu, q⟩ := q
  subst ex
  obtain ⟨od, I2⟩ := I1.lock hd mu
  exact ⟨_, _, I2, r, q od⟩
end L2
set_option Elab.async false
set_option linter.all false
set_option maxRecDepth 100000
set_option maxHeartbeats 4000000
/-! xs == [] and xs != [], whatever xs holds. -/
namespace L2
open PySem PySem.Spec PyProof.Rows
section
variable {X : Cx}
def rEmp (K : PySem.W.Frag) (neg : Bool) : R2 := fun x y H Q => ∃ (a b : Addr) (xs : List V), x = .ref a ∧ y = .ref b ∧ SqL K H a xs ∧ SqL K H b [] ∧ Q (.bl (xs.isEmpty != neg)) H
theorem op_eqE (hu : X.A.units < cLine) : OpR X (compareOp .Eq) (rEmp X.K false) := by
  intro pins s σ H x y v u Q I rx ry h
  obtain ⟨a, b, xs, rfl, rfl, ha, hb, q⟩ := h
  obtain rfl : v = Value.ref a := rx
  obtain rfl : u = Value.ref b := ry
  obtain ⟨its, rv, ⟨oa, na, hoa, hca, _, hda⟩, _⟩ := I.list ha
  obtain ⟨its2, rv2, ⟨ob, nb, hob, hcb, _, hdb⟩, _⟩ := I.list hb
  cases rv2
  have hA : s.heap.IsList a its.toArray := ⟨oa, hoa, hca, na, hda⟩
  have hB : s.heap.IsList b #[] := ⟨ob, hob, hcb, nb, hdb⟩
  have z : ∀ c : Bool, (c != false) = c := by decide
  rw [z] at q
  cases rv with
  | nil => exact SeqAt.RcAt.lists (e := fun _ => true) hA hB rfl hu (fun j h1 h2 => absurd h2 (Nat.not_lt_zero _)) X.prog X.w _ _ ⟨.bl _, H, I, rfl, q⟩
  | cons r t => exact SeqAt.RcAt.lists_lengths hA hB (by simp) hu X.prog X.w _ _ ⟨.bl _, H, I, rfl, q⟩
theorem op_neE (hu : X.A.units < cLine) : OpR X (compareOp .NotEq) (rEmp X.K true) := by
  intro pins s σ H x y v u Q I rx ry h
  obtain ⟨a, b, xs, rfl, rfl, ha, hb, q⟩ := h
  obtain rfl : v = Value.ref a := rx
  obtain rfl : u = Value.ref b := ry
  obtain ⟨its, rv, ⟨oa, na, hoa, hca, _, hda⟩, _⟩ := I.list ha
  obtain ⟨its2, rv2, ⟨ob, nb, hob, hcb, _, hdb⟩, _⟩ := I.list hb
  cases rv2
  have hA : s.heap.IsList a its.toArray := ⟨oa, hoa, hca, na, hda⟩
  have hB : s.heap.IsList b #[] := ⟨ob, hob, hcb, nb, hdb⟩
  have z : ∀ c : Bool, (c != true) = !c := by decide
  rw [z] at q
  cases rv with
  | nil => exact SeqAt.RcNeAt.lists (e := fun _ => true) hA hB rfl hu (fun j h1 h2 => absurd h2 (Nat.not_lt_zero _)) X.prog X.w _ _ ⟨.bl _, H, I, rfl, q⟩
  | cons r t => exact SeqAt.RcNeAt.lists_lengths hA hB (by simp) hu X.prog X.w _ _ ⟨.bl _, H, I, rfl, q⟩
end
end L2
set_option Elab.async false
set_option linter.all false
set_option maxRecDepth 100000
set_option maxHeartbeats 4000000
/-! sorted(xs) of tracked data of one shape: tuples, rows, texts. -/
namespace KB
open PySem PySem.Spec PyProof.Rows L2
theorem eachOf {xs : List V} {us : List Value} (h : Vals xs us) : PySem.W.EachIs (fun (u : Value) (x : V) => RelV x u) us xs := by
  induction h with
  | nil => exact .nil
  | cons r _ ih => exact .cons r ih
theorem valsOf {xs : List V} {us : List Value} (h : PySem.W.EachIs (fun (u : Value) (x : V) => RelV x u) us xs) : Vals xs us := by
  induction h with
  | nil => exact .nil
  | cons r _ ih => exact .cons r ih
theorem eachMem {α β : Type} {R S : α → β → Prop} {as : List α} {bs : List β} (h : PySem.W.EachIs R as bs) (k : ∀ a b, b ∈ bs → R a b → S a b) : PySem.W.EachIs S as bs := by
  induction h with
  | nil => exact .nil
  | cons r _ ih => exact .cons (k _ _ List.mem_cons_self r) (ih fun a b m => k a b (List.mem_cons_of_mem _ m))
def rSortedD (K : PySem.W.Frag) : List V → Hp → VK → Prop := fun vs H Q => ∃ (a : Addr) (xs : List V) (k : V → PyData), vs = [.ref a] ∧ SqL K H a xs ∧ (∀ x ∈ xs, Dp K H x (k x)) ∧ PySem.W.AllAlike (xs.map k) ∧ PySem.W.Sortable (xs.map k) ∧ (∀ x ∈ xs, (k x).depth ≤ 40) ∧
  ∀ p, H p = none → Q (.ref p) (upd H p (.lst (xs.mergeSort (PySem.W.dataLe false k))))
theorem cr_sortedD {X : Cx} (hu : X.A.units + 64 < cLine) : CallR X (.builtin "sorted") (rSortedD X.K) := by
  intro pins s σ H vs us Q I r h
  obtain ⟨a, xs, k, rfl, hs, hk, ha, hb, hd, q⟩ := h
  obtain rfl := Vals.ref1 r
  obtain ⟨its, rv, hl, hz⟩ := I.list hs
  have e1 := eachOf rv
  refine PySem.W.sorted_data (vs := its) (bs := xs) (enc := k) (R := fun u x => RelV x u) hl.isList e1 (eachMem e1 fun u x m r => Dp.reads I (k x) x u (hk x m) r) ha hb hz (fun x m => ?_) fun out len eo => ?_
  · have := hd x m
    omega
  · obtain ⟨ep, he⟩ := PyProof.Rows.sortedAll_at s.heap its out.toArray
    have z : (xs.mergeSort (PySem.W.dataLe false k)).length ≤ sizeLine := by
      rw [List.length_mergeSort]
      exact hz
    exact ⟨.ref _, upd H (s.heap.objs.size + 1) (.lst (xs.mergeSort (PySem.W.dataLe false k))), I.laid (t' := s.toks) (fun _ _ => PyProof.Rows.sortedAll_old) (Nat.le_succ _) ⟨z, out, ep, valsOf eo, he⟩, rfl, q _ (I.hok.fresh (Nat.le_succ _))⟩
end KB
set_option Elab.async false
set_option linter.all false
set_option maxRecDepth 100000
set_option maxHeartbeats 4000000
/-! sorted(xs), xs new tuples of as many ints each. -/
namespace KB
open PySem PySem.Spec PyProof.Rows L2
theorem zip_paired {α β : Type} {F : α → β → Prop} : ∀ {xs : List α} {ys : List β}, Paired F xs ys → (∀ p ∈ xs.zip ys, F p.1 p.2) ∧ (xs.zip ys).map Prod.fst = xs ∧ (xs.zip ys).map Prod.snd = ys
  | _, _, .nil => ⟨fun p h => (nomatch h), rfl, rfl⟩
  | _, _, .cons r t => by
    obtain ⟨h1, h2, h3⟩ := zip_paired t
    refine ⟨fun p h => ?_, ?_, ?_⟩
    · rw [List.zip_cons_cons] at h
      rcases List.mem_cons.mp h with rfl | h
      · exact r
      · exact h1 p h
    · rw [List.zip_cons_cons, List.map_cons, h2]
    · rw [List.zip_cons_cons, List.map_cons, h3]
theorem paired_zip {α β : Type} {F : α → β → Prop} : ∀ {ps : List (α × β)}, (∀ p ∈ ps, F p.1 p.2) → Paired F (ps.map Prod.fst) (ps.map Prod.snd)
  | [], _ => .nil
  | p :: ps, h => .cons (h p List.mem_cons_self) (paired_zip fun q hq => h q (List.mem_cons_of_mem _ hq))
theorem paired_sort {α β : Type} {F : α → β → Prop} {le : β → β → Bool} {le' : α → α → Bool} (h : ∀ a x b y, F a x → F b y → le' a b = le x y) {xs : List α} {ys : List β} (p : Paired F xs ys) : Paired F (xs.mergeSort le') (ys.mergeSort le) := by
  obtain ⟨h1, h2, h3⟩ := zip_paired p
  have e1 : ((xs.zip ys).mergeSort fun p q => le p.2 q.2).map Prod.fst = xs.mergeSort le' := by
    rw [List.map_mergeSort (s := le') (fun a ha b hb => (h _ _ _ _ (h1 a ha) (h1 b hb)).symm), h2]
  have e2 : ((xs.zip ys).mergeSort fun p q => le p.2 q.2).map Prod.snd = ys.mergeSort le := by
    rw [List.map_mergeSort (s := le) (fun a _ b _ => rfl), h3]
  rw [← e1, ← e2]
  exact paired_zip fun q hq => h1 q ((List.mergeSort_perm _ _).mem_iff.mp hq)
theorem paired_get2 {α β : Type} {F : α → β → Prop} : ∀ {xs : List α} {ys : List β}, Paired F xs ys → ∀ {i : Nat} {y : β}, ys[i]? = some y → ∃ x, xs[i]? = some x ∧ F x y
  | _, _, .nil, i, x, h => by cases h
  | _, _, .cons r t, 0, x, h => by
    have e := Option.some.inj h
    subst e
    exact ⟨_, rfl, r⟩
  | _, _, .cons r t, i + 1, x, h => paired_get2 t h
theorem paired_get1 {α β : Type} {F : α → β → Prop} : ∀ {xs : List α} {ys : List β}, Paired F xs ys → ∀ {i : Nat} {x : α}, xs[i]? = some x → ∃ y, ys[i]? = some y ∧ F x y
  | _, _, .nil, i, x, h => by cases h
  | _, _, .cons r t, 0, x, h => by
    have e := Option.some.inj h
    subst e
    exact ⟨_, rfl, r⟩
  | _, _, .cons r t, i + 1, x, h => paired_get1 t h
theorem paired_rev {α β : Type} {F : α → β → Prop} : ∀ {xs : List α} {ys : List β}, Paired F xs ys → Paired F xs.reverse ys.reverse
  | _, _, .nil => .nil
  | _, _, .cons r t => by
    rw [List.reverse_cons, List.reverse_cons]
    exact paired_snoc (paired_rev t) r
theorem paired_mapG {α β γ : Type} {F : γ → β → Prop} {f : α → γ} : ∀ {xs : List α} {ys : List β}, Paired (fun x y => F (f x) y) xs ys → Paired F (xs.map f) ys
  | _, _, .nil => .nil
  | _, _, .cons r t => .cons r (paired_mapG t)
theorem sel_getG {α : Type} (z : α) (l : List α) (c : α → Bool) : (((List.range l.length).filter fun i => c (l.getD i z)).map fun i => l.getD i z) = l.filter c := by
  have e : l = (List.range l.length).map fun i => l.getD i z := by
    refine List.ext_getElem (by simp) fun i h1 h2 => ?_
    simp [h1]
  conv => rhs; rw [e, List.filter_map]
  rfl
theorem paired_selG {α : Type} {z : α} {l : List α} {c : α → Bool} {R : α → V → Prop} {ys : List V} (h : Paired (fun i y => R (l.getD i z) y) ((List.range l.length).filter fun i => c (l.getD i z)) ys) : Paired R (l.filter c) ys := by
  have := paired_mapG h
  rw [sel_getG] at this
  exact this
def intsD (t : List Int) : PyData := .tuple (t.map PyData.int)
def sortT (ts : List (List Int)) : List (List Int) := ts.mergeSort fun a b => PySem.W.dataLe false intsD a b
theorem sortT_perm (ts : List (List Int)) : (sortT ts).Perm ts := List.mergeSort_perm _ _
/-- y is a tuple of these ints -/
def IntsAt (H : Hp) (t : List Int) (y : V) : Prop := ∃ T, y = .ref T ∧ H T = some (.tup (t.map V.int))
theorem IntsAt.same {H H' : Hp} (k : Same H H') {t : List Int} {y : V} : IntsAt H t y → IntsAt H' t y := fun ⟨T, e, h⟩ => ⟨T, e, k _ _ h⟩
def encI (H : Hp) (y : V) : PyData := match y with
  | .ref T => (match H T with
    | some (.tup xs) => .tuple (xs.map fun v => match v with | .int i => PyData.int i | _ => .none)
    | _ => .none)
  | _ => .none
theorem encI_at {H : Hp} {t : List Int} {y : V} (h : IntsAt H t y) : encI H y = intsD t := by
  obtain ⟨T, rfl, h⟩ := h
  simp only [encI, intsD, h, List.map_map]
  rfl
theorem dpAll_ints {K : PySem.W.Frag} {H : Hp} : ∀ t : List Int, DpAll K H (t.map V.int) (t.map PyData.int)
  | [] => .nil
  | i :: t => .cons (.int i) (dpAll_ints t)
theorem alikeAll_ints : ∀ a b : List Int, PySem.W.alikeAll (a.map PyData.int) (b.map PyData.int) = true
  | [], _ => by simp [PySem.W.alikeAll]
  | _ :: _, [] => by simp [PySem.W.alikeAll]
  | i :: a, j :: b => by
    rw [List.map_cons, List.map_cons]
    simp only [PySem.W.alikeAll, PySem.W.alike, alikeAll_ints a b, Bool.and_self]
theorem depth_ints : ∀ t : List Int, PyData.depthAll (t.map PyData.int) = 0
  | [] => by simp [PyData.depthAll]
  | i :: t => by
    rw [List.map_cons]
    simp only [PyData.depthAll, PyData.depth, depth_ints t]
    rfl
def rSortT (K : PySem.W.Frag) : List V → Hp → VK → Prop := fun vs H Q => ∃ (a : Addr) (xs : List V) (ts : List (List Int)), vs = [.ref a] ∧ SqL K H a xs ∧ Paired (IntsAt H) ts xs ∧ (∀ t ∈ ts, t ≠ []) ∧
  ∀ p ys, H p = none → Paired (IntsAt H) (sortT ts) ys → Q (.ref p) (upd H p (.lst ys))
theorem cr_sortedT {X : Cx} (hu : X.A.units + 64 < cLine) : CallR X (.builtin "sorted") (rSortT X.K) := by
  intro pins s σ H vs us Q I r h
  obtain ⟨a, xs, ts, rfl, hs, py, hne, q⟩ := h
  have get : ∀ x ∈ xs, ∃ t ∈ ts, IntsAt H t x := fun x mx => by
    obtain ⟨h1, h2, h3⟩ := zip_paired py
    rw [← h3] at mx
    obtain ⟨p, hp, rfl⟩ := List.mem_map.mp mx
    refine ⟨p.1, ?_, h1 p hp⟩
    rw [← h2]
    exact List.mem_map.mpr ⟨p, hp, rfl⟩
  refine cr_sortedD hu pins s σ H _ us Q I r ⟨a, xs, encI H, rfl, hs, fun x mx => ?_, fun d hd d' hd' => ?_, .inl fun d hd => ?_, fun x mx => ?_, fun p hp => ?_⟩
  · obtain ⟨t, _, h⟩ := get x mx
    rw [encI_at h]
    obtain ⟨T, rfl, hT⟩ := h
    exact .tup (SqT.of hT) (dpAll_ints t)
  · obtain ⟨x, mx, rfl⟩ := List.mem_map.mp hd
    obtain ⟨y, my, rfl⟩ := List.mem_map.mp hd'
    obtain ⟨t, _, h⟩ := get x mx
    obtain ⟨t', _, h'⟩ := get y my
    rw [encI_at h, encI_at h']
    show PySem.W.alike (.tuple _) (.tuple _) = true
    simp only [PySem.W.alike, alikeAll_ints]
  · obtain ⟨x, mx, rfl⟩ := List.mem_map.mp hd
    obtain ⟨t, mt, h⟩ := get x mx
    rw [encI_at h]
    cases t with
    | nil => exact absurd rfl (hne _ mt)
    | cons i t => exact ⟨_, _, rfl⟩
  · obtain ⟨t, _, h⟩ := get x mx
    rw [encI_at h]
    unfold intsD
    simp only [PyData.depth, depth_ints]
    decide
  · refine q p _ hp (paired_sort (fun a x b y h1 h2 => ?_) py)
    unfold PySem.W.dataLe PySem.W.sortLe
    dsimp only
    rw [encI_at h1, encI_at h2]
def rListOf (K : PySem.W.Frag) : List V → Hp → VK → Prop := fun xs H Q => ∃ p ys, xs = [V.ref p] ∧ (SqL K H p ys ∨ SqT K H p ys) ∧ ∀ l, H l = none → Q (.ref l) (upd H l (.lst ys))
theorem call_list_ofR {X : Cx} : CallR X (.type "list") (rListOf X.K) := call_list_of
end KB
set_option Elab.async false
set_option linter.all false
set_option maxRecDepth 100000
set_option maxHeartbeats 8000000
/-! Spans. -/
namespace K36
open PySem PySem.Spec PyProof.Rows L2 KB
theorem paired_fm {α : Type} {f : Nat → Option α} {R : α → V → Prop} : ∀ {is : List Nat} {ys : List V}, Paired (fun i y => ∃ d, f i = some d ∧ R d y) is ys → Paired R (is.filterMap f) ys
  | _, _, .nil => .nil
  | i :: is, _, .cons r t => by
    obtain ⟨d, e, h⟩ := r
    rw [List.filterMap_cons, e]
    exact .cons h (paired_fm t)
theorem paired_len {α β : Type} {R : α → β → Prop} : ∀ {xs : List α} {ys : List β}, Paired R xs ys → xs.length = ys.length
  | _, _, .nil => rfl
  | _, _, .cons _ t => congrArg (· + 1) (paired_len t)
theorem fm_filter {α : Type} {f : Nat → Option α} {c : Nat → Bool} : ∀ {l : List Nat}, (∀ i ∈ l, c i = false → f i = none) → (l.filter c).filterMap f = l.filterMap f
  | [], _ => rfl
  | i :: l, h => by
    rw [List.filter_cons]
    cases q : c i with
    | true => rw [if_pos rfl, List.filterMap_cons, List.filterMap_cons, fm_filter fun j hj => h j (List.mem_cons_of_mem _ hj)]
    | false => rw [if_neg Bool.false_ne_true, List.filterMap_cons, h i List.mem_cons_self q, fm_filter fun j hj => h j (List.mem_cons_of_mem _ hj)]
/-- y is a pair of counts -/
def PrAt (H : Hp) (x : Nat × Nat) (y : V) : Prop := ∃ t, y = .ref t ∧ H t = some (.tup [.int (x.1 : Int), .int (x.2 : Int)])
theorem PrAt.same {H H' : Hp} (k : Same H H') {x : Nat × Nat} {y : V} : PrAt H x y → PrAt H' x y := fun ⟨t, e, h⟩ => ⟨t, e, k _ _ h⟩
/-- y is a span -/
def SpAt (H : Hp) (s : Span) (y : V) : Prop := ∃ t, y = .ref t ∧ H t = some (.tup [.int (s.n : Int), .int (s.f : Int), .int (s.l : Int)])
theorem SpAt.same {H H' : Hp} (k : Same H H') {x : Span} {y : V} : SpAt H x y → SpAt H' x y := fun ⟨t, e, h⟩ => ⟨t, e, k _ _ h⟩
theorem SpAt.but {H H' : Hp} {q : Addr} (k : But q H H') (hq : ∃ zs, H q = some (.lst zs)) {x : Span} {y : V} : SpAt H x y → SpAt H' x y := fun ⟨t, e, h⟩ => ⟨t, e, k _ _ (fun z => by
  obtain ⟨zs, hq⟩ := hq
  rw [z, hq] at h
  cases h) h⟩
def SpansAt (H : Hp) (q : Addr) (L : List Span) : Prop := ∃ xs, H q = some (.lst xs) ∧ Paired (SpAt H) L xs
theorem SpansAt.same {H H' : Hp} {q : Addr} {L : List Span} (k : Same H H') : SpansAt H q L → SpansAt H' q L := fun ⟨xs, h, p⟩ => ⟨xs, k _ _ h, paired_mono (fun _ _ h => h.same k) p⟩
def sel (es : List Ev) (i : Nat) : Option (Nat × Nat) := match es[i]? with
  | some (.stand n) => some (i, n)
  | _ => none
/-- the stands of a life -/
def sds (es : List Ev) : List (Nat × Nat) := (List.range es.length).filterMap (sel es)
theorem range_cut {n i : Nat} (h : i ≤ n) (q : Nat → Bool) : ((List.range n).filter fun a => q a && decide (a < i)) = (List.range i).filter q := by
  have e1 : List.range n = List.range i ++ (List.range n).drop i := by
    conv => lhs; rw [← List.take_append_drop i (List.range n)]
    congr 1
    rw [List.take_range, Nat.min_eq_left h]
  rw [e1, List.filter_append]
  have e2 : (((List.range n).drop i).filter fun a => q a && decide (a < i)) = [] := by
    rw [List.filter_eq_nil_iff]
    intro a ha
    obtain ⟨k, hk⟩ := List.mem_iff_getElem?.mp ha
    rw [List.getElem?_drop] at hk
    obtain ⟨h1, h2⟩ := List.getElem?_eq_some_iff.mp hk
    rw [List.getElem_range] at h2
    rw [decide_eq_false (show ¬ a < i by omega), Bool.and_false]
    exact Bool.false_ne_true
  rw [e2, List.append_nil]
  refine List.filter_congr fun a ha => ?_
  rw [decide_eq_true (List.mem_range.mp ha), Bool.and_true]
/-- what is asked of a stand -/
def hit (p n i : Nat) (x : Nat × Nat) : Option Nat := if (decide (n ≤ x.2 + p) && decide (x.1 < i)) = true then some x.1 else none
theorem early_sds {es : List Ev} {p n i : Nat} (h : i ≤ es.length) : (sds es).filterMap (hit p n i) = early es p n i := by
  unfold sds early
  rw [← range_cut h, List.filterMap_filterMap, ← List.filterMap_eq_filter]
  refine fm_congr fun a ha => ?_
  have e := List.getElem?_eq_getElem (List.mem_range.mp ha)
  show (sel es a).bind (hit p n i) = if (stGe es p n a && decide (a < i)) = true then some a else none
  unfold sel stGe
  rw [e]
  cases es[a]'(List.mem_range.mp ha) with
  | line => rfl
  | root => rfl
  | stand m => rfl
theorem sds_len (es : List Ev) : (sds es).length ≤ es.length := by
  unfold sds
  have := List.length_filterMap_le (sel es) (List.range es.length)
  rw [List.length_range] at this
  exact this
def spSpans (K : PySem.W.Frag) : Sp := fun vs H Q _ => ∃ (a : Addr) (es : List Ev) (p : Nat), vs = [.ref a, .int (p : Int)] ∧ LifeAt K H a es ∧ es.length ≤ 200 ∧
  (spansOf es p = none → ∀ H', Same H H' → Q .non H') ∧ ∀ L, spansOf es p = some L → ∀ q H', Same H H' → H q = none → SpansAt H' q L → Q (.ref q) H'
theorem spans_of_none {es : List Ev} {p : Nat} {x : Nat × Nat} (hx : x ∈ wl es p) (h : spanOf es p x = none) : spansOf es p = none := by
  unfold spansOf
  rw [if_neg]
  intro z
  have := List.all_eq_true.mp z x hx
  rw [h] at this
  cases this
theorem spans_of_some {es : List Ev} {p : Nat} (h : ∀ x ∈ wl es p, ∃ s, spanOf es p x = some s) : spansOf es p = some ((wl es p).filterMap (spanOf es p)) := by
  unfold spansOf
  rw [if_pos]
  rw [List.all_eq_true]
  intro x hx
  obtain ⟨s, e⟩ := h x hx
  rw [e]
  rfl
theorem at0 {xs : List V} {x : V} (h : xs[0]? = some x) : atI xs 0 = some x := by
  have l : 0 < xs.length := (List.getElem?_eq_some_iff.mp h).1
  unfold atI ixN
  simp only [if_pos (Int.le_refl 0)]
  rw [if_pos (by simpa using l)]
  exact h
theorem atL {xs : List V} {x : V} (h : xs[xs.length - 1]? = some x) : atI xs (-1) = some x := by
  have l : 0 < xs.length := by
    have := (List.getElem?_eq_some_iff.mp h).1
    omega
  unfold atI ixN
  rw [if_neg (by omega), if_pos (by omega)]
  have e : (-1 + (xs.length : Int)).toNat = xs.length - 1 := by omega
  simp only [e, Option.bind_some]
  exact h
theorem sel_id {α : Type} : ∀ l : List α, ((List.range l.length).filterMap fun j => l[j]?) = l
  | [] => rfl
  | x :: r => by
    rw [List.length_cons, List.range_succ_eq_map, List.filterMap_cons, List.filterMap_map]
    exact congrArg (x :: ·) (sel_id r)
theorem itePos {c : Bool} {A B : Prop} (h : c = true) (a : A) : if c = true then A else B := (if_pos h).symm ▸ a
theorem iteNeg {c : Bool} {A B : Prop} (h : ¬ c = true) (b : B) : if c = true then A else B := (if_neg h).symm ▸ b
section
variable {P : Program} {w : World} {K : PySem.W.Frag} {mg : Str → Option Value} {base : Heap}
abbrev s_spans_of : Stmt := top 37
abbrev N_spans_of : List Str := ["life", "places", "stands", "found", "number", "place", "early", "at", "event", "stood"]
theorem sc_spans_of : FnScope N_spans_of ["life", "places"] (defScope s_spans_of) := ⟨rfl, rfl, rfl, by decide +kernel, rfl, by decide +kernel, by decide +kernel⟩
theorem ok_spans_of {f : Addr} {fd : FuncData} (F : FnP K "spans_of" s_spans_of f fd) (Z : FreeS mg)
    {f_wanted : Addr} {d_wanted : FuncData} (g_wanted : mg "wanted" = some (.ref f_wanted)) (F_wanted : FnP K "wanted" s_wanted f_wanted d_wanted) (G_wanted : FnOk P w K mg base CX0 5 f_wanted d_wanted ["life", "places"] (spWanted K))
    {f_is_stand : Addr} {d_is_stand : FuncData} (g_is_stand : mg "is_stand" = some (.ref f_is_stand)) (F_is_stand : FnP K "is_stand" s_is_stand f_is_stand d_is_stand) (G_is_stand : FnOk P w K mg base CX0 3 f_is_stand d_is_stand ["event"] (spIsStand K)) :
    FnOk P w K mg base CX0 6 f fd ["life", "places"] (spSpans K) := by
  have b_wanted : Binds K d_wanted ["life", "places"] [] := F_wanted.bindsN fun _ _ _ _ _ _ us hl => match us, hl with | [_, _], _ => rfl
  have b_is_stand : Binds K d_is_stand ["event"] [] := F_is_stand.bindsN fun _ _ _ _ _ _ us hl => match us, hl with | [_], _ => rfl
  refine F.ok sc_spans_of (fun vs H Q E h => ?_) (fun cdv A outer s H vs Q E hr h => ?_)
  · obtain ⟨a, es, p, rfl, _⟩ := h
    rfl
  · obtain ⟨a, es, p, rfl, hL, l200, kN, kS⟩ := h
    obtain ⟨ts, ha, lt, ht⟩ := id hL
    have sl : (3000 : Nat) ≤ sizeLine := by decide
    have nd := sc_spans_of.nd
    refine ⟨_, PSs.nox (pss_cons (ps_setLc (i := 2) (own := [("at", 7), ("event", 8)]) (g := gTup K 2 (gCons (gName 7) (gCons (gName 8) (gNil)))) (tt := tB (tCall (spIsStand K) [] E0 (tCons (tVar 8) tNil))) (te := tTup (tCons (tVar 7) (tCons (tOp (rIxT K) (tVar 8) (tC (.int 1))) tNil))) (by rfl) nd rfl rfl rfl (pi_enum (by rfl) Z.enumerate (pa_cons (pv 0) (pa_nil)))
          (blkOk_by (own := [("at", 7), ("event", 8)]) (N := N_spans_of) (sc := defScope s_spans_of) (by decide +kernel)) (fun _ _ _ _ _ => pg_tup rfl (pgs_cons (pg_name (i := 7) nd rfl (Or.inl rfl)) (pgs_cons (pg_name (i := 8) nd rfl (Or.inl rfl)) (pgs_nil)))) (fun _ _ _ _ _ => pts_one (pt_val (pe_call G_is_stand (hr.mono (by decide)) rfl g_is_stand F_is_stand.kp b_is_stand .nil pass0 (pa_cons (pv 8) (pa_nil)))))
          (fun _ _ _ _ _ => pe_tup (pa_cons (pv 7) (pa_cons (pe_ix ix_tup (pv 8) (pe_int) (fun _ _ => rfl)) (pa_nil)))))
      (pss_cons (ps_set (i := 3) nd rfl (Or.inl rfl) (pe_lst (pa_nil)))
      (pss_cons (ps_for PassesOwn.never rfl (pi_list (pe_call G_wanted (hr.mono (by decide)) rfl g_wanted F_wanted.kp b_wanted .nil pass0 (pa_cons (pv 0) (pa_cons (pv 1) (pa_nil))))) (pg_tup rfl (pgs_cons (pg_name (i := 4) nd rfl (Or.inr rfl)) (pgs_cons (pg_name (i := 5) nd rfl (Or.inr rfl)) (pgs_nil))))
        (pss_cons (ps_setLc (i := 6) (own := [("at", 7), ("stood", 9)]) (g := gTup K 2 (gCons (gName 7) (gCons (gName 9) (gNil)))) (tt := tAnd (tTest (tOp (rI0 fun i j => .bl (decide (j ≤ i))) (tVar 9) (tOp (rI0 fun i j => .int (i - j)) (tVar 4) (tVar 1)))) (tTest (tOp (rI0 fun i j => .bl (decide (i < j))) (tVar 7) (tVar 5)))) (te := tVar 7) (by rfl) nd rfl rfl rfl (pi_list (pv 2))
          (blkOk_by (own := [("at", 7), ("stood", 9)]) (N := N_spans_of) (sc := defScope s_spans_of) (by decide +kernel)) (fun _ _ _ _ _ => pg_tup rfl (pgs_cons (pg_name (i := 7) nd rfl (Or.inl rfl)) (pgs_cons (pg_name (i := 9) nd rfl (Or.inl rfl)) (pgs_nil)))) (fun _ _ _ _ _ => pts_one (PW.pt (pw_and (pt_cmpR op_ge (pv 9) (pe_op op_sub (pv 4) (pv 1)) (nomark _)) (pw_and1 (pt_cmpR op_lt (pv 7) (pv 5) (nomark _))))))
          (fun _ _ _ _ _ => pv 7))
      (pss_cons (ps_if (pt_not (pt_truth (pv 6) (fun _ => rfl))) (pss_one (ps_ret (pe_non))) (pss_nil))
      (pss_one (ps_expr (pe_bm PySem.F.plainAttrs_list PySem.F.slot_list_append PySem.F.type_list_append mt_append (pv 3) (pa_cons (pe_tup (pa_cons (pv 4) (pa_cons (pe_op op_add (pe_ix ix_list (pv 6) (pe_int) (fun _ _ => rfl)) (pe_int)) (pa_cons (pv 5) (pa_nil))))) (pa_nil))))))))
      (pss_one (ps_ret (pv 3)))))), ?_⟩
    refine ⟨_, rfl, a, _, rfl, SqL.of ha, fun D hD => ?_⟩
    refine lc_rel (n := ts.length) (by have := walk_enum (K := K) (a := a) (xs := ts.map V.ref); rw [List.length_map] at this; exact this) (fun i => (sel es i).isSome) (fun i y G => ∃ d, sel es i = some d ∧ PrAt G d y) (fun i y G G' s ⟨d, e, h⟩ => ⟨d, e, h.same s⟩) (by omega) hD (fun G s => SqL.of (s _ _ ha)) ?_ ?_
    · rintro i v H5 H6 Qy Qn hi s6 hacc ⟨T, x1, x2, rfl, nT, rfl, g1, g2⟩ ky kn
      dsimp only at g1 g2
      obtain rfl := Option.some.inj g1
      have e1 : ts[i]? = some ts[i] := List.getElem?_eq_getElem hi
      rw [List.getElem?_map, e1] at g2
      obtain rfl := Option.some.inj g2
      have ee : es[i]? = some (es[i]'(by omega)) := List.getElem?_eq_getElem _
      have sT := Same.updf (o := .tup [V.int (i : Nat), V.ref ts[i]]) nT
      have e3 := SqT_up (s6.trans sT) (ht i _ _ e1 ee)
      refine ⟨T, [_, _], rfl, .inl (.inl upd_same), rfl, _, [_], rfl, _, [], rfl, rfl, ?_⟩
      have es1 : ∀ e, es[i]'(by omega) = e → sel es i = match e with | .stand n => some (i, n) | _ => none := fun e he => by
        unfold sel
        rw [ee, he]
        cases e <;> rfl
      refine ⟨rfl, _, rfl, _, (es[i]'(by omega)).d, 1, rfl, Ev.td 0 e3, shaped_ev _, ?_⟩
      rw [standB_ev]
      cases q : es[i]'(by omega) with
      | line => exact ⟨false, rfl, iteF (kn _ (by rw [es1 _ q]; rfl) sT)⟩
      | root => exact ⟨false, rfl, iteF (kn _ (by rw [es1 _ q]; rfl) sT)⟩
      | stand m =>
        rw [q] at e3
        refine ⟨true, rfl, iteT ⟨_, rfl, _, rfl, ts[i], _, 1, .int (m : Int), rfl, rfl, e3, rfl, (by show 2 ≤ sizeLine; omega), fun t ht2 => ?_⟩⟩
        obtain ⟨acc, hacc⟩ := hacc
        have nt : t ≠ D := fun z => by
          rw [z, sT _ _ hacc] at ht2
          cases ht2
        refine ky _ _ (by rw [es1 _ q]; rfl) (sT.trans (Same.updf ht2)) ⟨(i, m), by rw [es1 _ q], t, rfl, ?_⟩
        rw [off_at nt]
        exact upd_same
    · intro G1 ys s1 hys py
      have pst : Paired (PrAt (off G1 D)) (sds es) ys := by
        have h := paired_fm py
        rw [lt, fm_filter fun i _ h => by cases q : sel es i with | none => rfl | some _ => rw [q] at h; cases h] at h
        exact h
      have pst2 : Paired (PrAt G1) (sds es) ys := paired_mono (fun x y h => h.same (off_le G1 D)) pst
      clear pst py
      refine ⟨(by show 0 ≤ sizeLine; omega), fun F0 hF0 => ?_⟩
      have sF := Same.updf (o := .lst []) hF0
      have s2 := s1.trans sF
      refine ⟨_, rfl, _, rfl, a, es, p, rfl, hL.same s2, l200, fun q G3 s3 hq hP => ?_⟩
      have wlen := wl_len es p
      obtain ⟨us, hus, lus, kus⟩ := id hP
      refine ⟨q, rfl, ⟨_, SqL.of hus⟩, ?_⟩
      have hys3 := s3 _ _ (sF _ _ hys)
      have s13 := s2.trans s3
      have pst3 : Paired (PrAt G3) (sds es) ys := paired_mono (fun x y h => h.same (sF.trans s3)) pst2
      have lys := paired_len pst3
      have sdl := sds_len es
      have nF0 : H F0 = none := none_back s1 hF0
      have hF3 : G3 F0 = some (.lst []) := s3 _ _ upd_same
      have nqF : q ≠ F0 := fun z => by
        rw [z, upd_same] at hq
        cases hq
      have hqG : ∀ G, But F0 G3 G → G q = some (.lst (us.map V.ref)) := fun G b => b _ _ nqF hus
      have nDF : D ≠ F0 := fun z => by
        rw [← z] at hF0
        rw [hF0] at hys
        cases hys
      refine for_list (xs := us.map V.ref) (fun i σ G => But F0 G3 G ∧ (∀ x ∈ (wl es p).take i, ∃ s, spanOf es p x = some s) ∧ (∃ xs, G F0 = some (.lst xs) ∧ Paired (SpAt G) (((wl es p).take i).filterMap (spanOf es p)) xs) ∧ ∃ v4 v5 v6, σ = [some (.ref a), some (.int (p : Int)), some (.ref D), some (.ref F0), v4, v5, v6, none, none, none])
        ⟨But.refl _ _, fun x hx => by simp at hx, ⟨[], hF3, .nil⟩, none, none, none, rfl⟩ (fun i σ G _ hh => SqL.of (hqG _ hh.1)) ?_ ?_
      · rintro i y σ G hy ⟨b3, ok, ⟨xs, hxs, pxs⟩, v4, v5, v6, rfl⟩
        have hi : i < us.length := by
          have := (List.getElem?_eq_some_iff.mp hy).1
          rw [List.length_map] at this
          exact this
        have e1 : us[i]? = some us[i] := List.getElem?_eq_getElem hi
        rw [List.getElem?_map, e1] at hy
        obtain rfl := Option.some.inj hy
        have ex : (wl es p)[i]? = some ((wl es p)[i]'(by omega)) := List.getElem?_eq_getElem _
        obtain ⟨n, pl, exx⟩ : ∃ n pl, (wl es p)[i]'(by omega) = (n, pl) := ⟨_, _, rfl⟩
        rw [exx] at ex
        have hmem := List.mem_of_getElem? ex
        obtain ⟨w1, w2, w3, w4⟩ := wl_mem.mp hmem
        have hu3 := kus i _ _ e1 ex
        have nuF : us[i] ≠ F0 := fun z => by
          rw [z, hF3] at hu3
          cases hu3
        have hu4 := b3 _ _ nuF hu3
        refine ⟨us[i], [_, _], rfl, .inl (.inl hu4), rfl, _, [_], rfl, _, [], rfl, rfl, ?_⟩
        have hysG := b3 _ _ nDF hys3
        have pstG : Paired (PrAt G) (sds es) ys := paired_mono (fun x y h => by
          obtain ⟨t, e, h⟩ := h
          refine ⟨t, e, b3 _ _ (fun z => ?_) h⟩
          rw [z, hF3] at h
          cases h) pst3
        refine ⟨_, rfl, D, rfl, ⟨_, SqL.of hysG⟩, fun C hC => ?_⟩
        refine lc_sel (n := ys.length) (walk_list (K := K) (a := D) (xs := ys)) (fun j => ((sds es)[j]?).bind fun x => (hit p n pl x).map fun a : Nat => V.int (a : Int)) (by omega) hC (fun G2 s => SqL.of (s _ _ hysG)) ?_ ?_
        · rintro j v Ga Gb Qy Qn hj sa ⟨rfl, hv⟩ ky kn
          obtain ⟨x, ex', t, rfl, ht2⟩ := paired_get2 pstG hv
          rw [ex', Option.bind_some] at ky kn
          have ht3 := sa _ _ ht2
          refine ⟨t, [_, _], rfl, .inl (.inl ht3), rfl, _, [_], rfl, _, [], rfl, rfl, ?_⟩
          refine ⟨rfl, _, rfl, _, rfl, _, rfl, _, _, rfl, rfl, _, _, rfl, rfl, _, rfl, ?_⟩
          unfold hit at ky kn
          by_cases c1 : n ≤ x.2 + p
          · rw [decide_eq_true c1, Bool.true_and] at ky kn
            refine itePos (decide_eq_true (by omega)) ⟨_, rfl, _, rfl, _, _, rfl, rfl, _, rfl, ?_⟩
            by_cases c2 : x.1 < pl
            · rw [if_pos (decide_eq_true c2)] at ky
              exact itePos (decide_eq_true (by omega)) ⟨_, rfl, ky _ _ (Same.refl _) rfl⟩
            · rw [if_neg (by rw [decide_eq_false c2]; exact Bool.false_ne_true)] at kn
              exact iteNeg (by rw [decide_eq_false (by omega)]; exact Bool.false_ne_true) (kn _ (Same.refl _) rfl)
          · rw [decide_eq_false c1, Bool.false_and, if_neg Bool.false_ne_true] at kn
            exact iteNeg (by rw [decide_eq_false (by omega)]; exact Bool.false_ne_true) (iteF (kn _ (Same.refl _) rfl))
        · intro G2 s2' hR
          have hE : G2 C = some (.lst (numsV (early es p n pl))) := by
            rw [hR, ← early_sds (by omega), ← lys]
            refine congrArg (fun z => some (HO.lst z)) ?_
            unfold numsV
            rw [List.map_filterMap]
            have := congrArg (fun l => l.filterMap fun x => (hit p n pl x).map fun a : Nat => V.int (a : Int)) (show ((List.range (sds es).length).filterMap fun j => (sds es)[j]?) = sds es from sel_id _)
            rw [List.filterMap_filterMap] at this
            exact this
          have sG2 : Same G G2 := s2'
          have back : Same H G2 := fun c o e => s2' _ _ (b3 _ _ (ne_of_none e nF0) (s13 _ _ e))
          have hFG := sG2 _ _ hxs
          cases q : early es p n pl with
          | nil =>
            rw [q] at hE
            refine ⟨_, rfl, false, .inl ⟨[], SqL.of hE, rfl⟩, iteT (kN (spans_of_none hmem ?_) _ back)⟩
            show (early es p n pl).head?.map _ = none
            rw [q]
            rfl
          | cons e0 er =>
            have hsp : spanOf es p (n, pl) = some ⟨n, e0 + 1, pl⟩ := by
              show (early es p n pl).head?.map _ = _
              rw [q]
              rfl
            rw [q] at hE
            refine ⟨_, rfl, true, .inl ⟨_, SqL.of hE, rfl⟩, iteF ?_⟩
            have lxs := paired_len pxs
            have lfm := List.length_filterMap_le (spanOf es p) ((wl es p).take i)
            rw [List.length_take] at lfm
            refine ⟨_, rfl, Or.inl ⟨rfl, _, SqL.of hFG⟩, _, rfl, _, rfl, C, _, 0, .int (e0 : Int), rfl, rfl, SqL.of hE, at0 rfl, _, _, rfl, rfl, _, rfl, (by show 3 ≤ sizeLine; omega), fun t ht2 => ?_⟩
            have s5 := Same.updf (o := .tup [V.int (n : Int), V.int ((e0 : Int) + 1), V.int (pl : Int)]) ht2
            have hF5 := s5 _ _ hFG
            refine ⟨F0, _, _, rfl, rfl, hF5, by omega, ?_⟩
            refine ⟨fun c o nc e => ?_, ?_, ⟨xs ++ [.ref t], upd_same, ?_⟩, _, _, _, rfl⟩
            · rw [upd_ne nc]
              exact s5 _ _ (sG2 _ _ (b3 _ _ nc e))
            · rw [List.take_succ, ex]
              intro x hx
              rcases List.mem_append.mp hx with z | z
              · exact ok x z
              · rw [Option.toList_some, List.mem_singleton] at z
                exact ⟨_, z ▸ hsp⟩
            · rw [List.take_succ, ex, Option.toList_some, List.filterMap_append]
              have e9 : [(n, pl)].filterMap (spanOf es p) = [⟨n, e0 + 1, pl⟩] := by
                rw [List.filterMap_cons, hsp]
                rfl
              rw [e9]
              have bt : But F0 (upd G2 t (.tup [V.int (n : Int), V.int ((e0 : Int) + 1), V.int (pl : Int)])) (upd (upd G2 t (.tup [V.int (n : Int), V.int ((e0 : Int) + 1), V.int (pl : Int)])) F0 (.lst (xs ++ [.ref t]))) := fun c o nc e => by
                rw [upd_ne nc]
                exact e
              refine paired_snoc (paired_mono (fun x y h => (h.same (sG2.trans s5)).but bt ⟨_, hF5⟩) pxs) ⟨t, rfl, ?_⟩
              rw [upd_ne (fun z => by rw [z, hFG] at ht2; cases ht2), upd_same]
              rfl
      · rintro σ G ⟨b3, ok, ⟨xs, hxs, pxs⟩, v4, v5, v6, rfl⟩
        rw [List.length_map, lus, List.take_length] at ok pxs
        refine ⟨_, rfl, kS _ (spans_of_some ok) F0 G (fun c o e => b3 _ _ (ne_of_none e nF0) (s13 _ _ e)) nF0 ⟨xs, hxs, pxs⟩⟩
end
end K36
set_option Elab.async false
set_option linter.all false
set_option maxRecDepth 100000
set_option maxHeartbeats 8000000
/-! Spans apart; roots. -/
namespace K36
open PySem PySem.Spec PyProof.Rows L2 KB
def gst (acc : List Span) (s : Span) : List Span := match acc.getLast? with
  | none => acc ++ [s]
  | some c => if c.l < s.f then acc ++ [s] else acc
theorem gst_from : ∀ (L : List Span) (acc : List Span) (c : Span), acc.getLast? = some c → L.foldl gst acc = acc ++ greedy c.l L
  | [], acc, c, _ => by rw [greedy, List.append_nil]; rfl
  | s :: L, acc, c, h => by
    rw [List.foldl_cons, greedy]
    have e : gst acc s = if c.l < s.f then acc ++ [s] else acc := by
      unfold gst
      rw [h]
    rw [e]
    by_cases q : c.l < s.f
    · rw [if_pos q, if_pos q, gst_from L (acc ++ [s]) s (by simp), List.append_assoc]
      rfl
    · rw [if_neg q, if_neg q, gst_from L acc c h]
theorem gst_all {L : List Span} (h : ∀ s ∈ L, 1 ≤ s.f) : L.foldl gst [] = greedy 0 L := by
  cases L with
  | nil => rfl
  | cons s L =>
    have h1 := h s List.mem_cons_self
    rw [List.foldl_cons, greedy, if_pos (by omega)]
    show L.foldl gst [s] = _
    rw [gst_from L [s] s rfl]
    rfl
def spApart (K : PySem.W.Frag) : Sp := fun vs H Q _ => ∃ (a : Addr) (es : List Ev) (p : Nat), vs = [.ref a, .int (p : Int)] ∧ LifeAt K H a es ∧ es.length ≤ 200 ∧
  (cs es p = none → ∀ H', Same H H' → Q .non H') ∧ ∀ L, cs es p = some L → ∀ q H', Same H H' → H q = none → SpansAt H' q L → Q (.ref q) H'
def spRoots (K : PySem.W.Frag) : Sp := spLP K fun H Q _ a es p =>
  (cs es p = none → ∀ H', Same H H' → Q .non H') ∧ ∀ L, cs es p = some L → ∀ q H', Same H H' → H q = none → H' q = some (.lst (numsV (L.map Span.l))) → Q (.ref q) H'
def spApartL (K : PySem.W.Frag) : Sp := spLP K fun H Q E a es p =>
  (cs es p = none → Rs (cFul K) (.int (p : Int)) H E) ∧ ∀ L, cs es p = some L → ∀ q H', Same H H' → H q = none → H' q = some (.lst (numsV (L.map Span.n))) → Q (.ref q) H'
def spEnough (K : PySem.W.Frag) : Sp := fun vs H Q _ => ∃ (a : Addr) (es : List Ev) (p r : Nat), vs = [.ref a, .int (p : Int), .int (r : Int)] ∧ LifeAt K H a es ∧ es.length ≤ 200 ∧ ∀ H', Same H H' → Q (.bl (enough es p r)) H'
theorem spans_len {es : List Ev} {p : Nat} {L : List Span} (h : spansOf es p = some L) : L.length ≤ es.length := by
  unfold spansOf at h
  split at h
  · rw [← Option.some.inj h]
    exact Nat.le_trans (List.length_filterMap_le _ _) (wl_len es p)
  · cases h
theorem cs_len {es : List Ev} {p : Nat} {L : List Span} (h : cs es p = some L) : L.length ≤ es.length := by
  obtain ⟨sp, h1, rfl⟩ := Option.map_eq_some_iff.mp h
  exact Nat.le_trans (greedy_sub sp 0).length_le (spans_len h1)
theorem paired_snocB {H H' : Hp} {q : Addr} {xs : List Span} {ys : List V} {s : Span} {y : V} (p : Paired (SpAt H) xs ys) (h : SpAt H s y) (k : But q H H') (hq : ∃ zs, H q = some (.lst zs)) : Paired (SpAt H') (xs ++ [s]) (ys ++ [y]) :=
  paired_mono (fun _ _ h => h.but k hq) (paired_snoc p h)
theorem sel_map {α : Type} (f : α → V) : ∀ l : List α, ((List.range l.length).filterMap fun i => (l[i]?).map f) = l.map f := fun l => by
  induction l with
  | nil => rfl
  | cons x r ih =>
    rw [List.length_cons, List.range_succ_eq_map, List.filterMap_cons, List.filterMap_map]
    have e : ((fun i => ((x :: r)[i]?).map f) ∘ Nat.succ) = fun i => (r[i]?).map f := rfl
    rw [e, ih]
    rfl
section
variable {P : Program} {w : World} {K : PySem.W.Frag} {mg : Str → Option Value} {base : Heap}
abbrev s_spans_apart : Stmt := top 38
abbrev N_spans_apart : List Str := ["life", "places", "spans", "found", "span"]
theorem sc_spans_apart : FnScope N_spans_apart ["life", "places"] (defScope s_spans_apart) := ⟨rfl, rfl, rfl, by decide +kernel, rfl, by decide +kernel, by decide +kernel⟩
theorem ok_spans_apart {f : Addr} {fd : FuncData} (F : FnP K "spans_apart" s_spans_apart f fd) (Z : FreeS mg)
    {f_spans_of : Addr} {d_spans_of : FuncData} (g_spans_of : mg "spans_of" = some (.ref f_spans_of)) (F_spans_of : FnP K "spans_of" s_spans_of f_spans_of d_spans_of) (G_spans_of : FnOk P w K mg base CX0 6 f_spans_of d_spans_of ["life", "places"] (spSpans K)) :
    FnOk P w K mg base CX0 7 f fd ["life", "places"] (spApart K) := by
  have b_spans_of : Binds K d_spans_of ["life", "places"] [] := F_spans_of.bindsN fun _ _ _ _ _ _ us hl => match us, hl with | [_, _], _ => rfl
  refine F.ok sc_spans_apart (fun vs H Q E h => ?_) (fun cdv A outer s H vs Q E hr h => ?_)
  · obtain ⟨a, es, p, rfl, _⟩ := h
    rfl
  · obtain ⟨a, es, p, rfl, hL, l200, kN, kS⟩ := h
    have sl : (3000 : Nat) ≤ sizeLine := by decide
    have nd := sc_spans_apart.nd
    refine ⟨_, PSs.nox (pss_cons (ps_set (i := 2) nd rfl (Or.inl rfl) (pe_call G_spans_of (hr.mono (by decide)) rfl g_spans_of F_spans_of.kp b_spans_of .nil pass0 (pa_cons (pv 0) (pa_cons (pv 1) (pa_nil)))))
      (pss_cons (ps_if (pt_cmpR op_isN (pv 2) (pe_non) (nomark _)) (pss_one (ps_ret (pe_non))) (pss_nil))
      (pss_cons (ps_set (i := 3) nd rfl (Or.inl rfl) (pe_lst (pa_nil)))
      (pss_cons (ps_for PassesOwn.never rfl (pi_list (pv 2)) (pg_name (i := 4) nd rfl (Or.inl rfl))
        (pss_one (ps_if (PW.pt (pw_or (pt_not (pt_truth (pv 3) (fun _ => rfl))) (pw_or1 (pt_cmpR op_gt (pe_ix ix_tup (pv 4) (pe_int) (fun _ _ => rfl)) (pe_ix ix_tup (pe_ix ix_list (pv 3) (pe_un un_neg (pe_int)) (fun _ _ => rfl)) (pe_int) (fun _ _ => rfl)) (nomark _))))) (pss_one (ps_expr (pe_bm PySem.F.plainAttrs_list PySem.F.slot_list_append PySem.F.type_list_append mt_append (pv 3) (pa_cons (pv 4) (pa_nil))))) (pss_nil))))
      (pss_one (ps_ret (pv 3))))))), ?_⟩
    unfold cs at kN kS
    refine ⟨_, rfl, _, rfl, a, es, p, rfl, hL, l200, (fun hn H1 s1 => ?_), (fun L hs q H1 s1 hq hP => ?_)⟩
    · exact ⟨_, rfl, rfl, _, rfl, iteT (kN (by rw [hn]; rfl) _ s1)⟩
    · refine ⟨_, rfl, rfl, _, rfl, iteF ?_⟩
      obtain ⟨xs, hxs, pxs⟩ := id hP
      have lxs := paired_len pxs
      have ll := spans_len hs
      refine ⟨(by show 0 ≤ sizeLine; omega), fun F0 hF0 => ?_⟩
      have sF := Same.updf (o := .lst []) hF0
      have nF0 : H F0 = none := none_back s1 hF0
      have nqF : q ≠ F0 := fun z => by
        rw [← z, hxs] at hF0
        cases hF0
      obtain ⟨G1, eG1⟩ : ∃ G1, G1 = upd H1 F0 (.lst []) := ⟨_, rfl⟩
      rw [← eG1] at sF ⊢
      have hF1 : G1 F0 = some (.lst []) := by rw [eG1]; exact upd_same
      have hx1 := sF _ _ hxs
      have px1 : Paired (SpAt G1) L xs := paired_mono (fun _ _ h => h.same sF) pxs
      refine ⟨_, rfl, q, rfl, ⟨_, SqL.of hx1⟩, ?_⟩
      refine for_list (xs := xs) (fun i σ G => But F0 G1 G ∧ (∃ zs, G F0 = some (.lst zs) ∧ Paired (SpAt G) ((L.take i).foldl gst []) zs) ∧ ((L.take i).foldl gst []).length ≤ i ∧ ∃ v4, σ = [some (.ref a), some (.int (p : Int)), some (.ref q), some (.ref F0), v4])
        ⟨But.refl _ _, ⟨[], hF1, .nil⟩, Nat.le_refl _, none, rfl⟩ (fun i σ G _ hh => SqL.of (hh.1 _ _ nqF hx1)) ?_ ?_
      · rintro i y σ G hy ⟨b3, ⟨zs, hzs, pzs⟩, lz, v4, rfl⟩
        obtain ⟨s, es1, hsp⟩ := paired_get2 px1 hy
        have hspG := hsp.but b3 ⟨_, hF1⟩
        have tk : (L.take (i + 1)).foldl gst [] = gst ((L.take i).foldl gst []) s := by
          rw [List.take_succ, es1, Option.toList_some, List.foldl_append]
          rfl
        have lzs := paired_len pzs
        obtain ⟨acc, eacc⟩ : ∃ acc, acc = (L.take i).foldl gst [] := ⟨_, rfl⟩
        have hi : i < xs.length := (List.getElem?_eq_some_iff.mp hy).1
        rw [← eacc] at tk pzs lz lzs
        rw [tk]
        have put : gst acc s = acc ++ [s] → ∀ σ', σ' = [some (V.ref a), some (.int (p : Int)), some (.ref q), some (.ref F0), some y] → (But F0 G1 (upd G F0 (.lst (zs ++ [y]))) ∧ (∃ zs', (upd G F0 (.lst (zs ++ [y]))) F0 = some (.lst zs') ∧ Paired (SpAt (upd G F0 (.lst (zs ++ [y])))) (gst acc s) zs') ∧ (gst acc s).length ≤ i + 1 ∧ ∃ v4, σ' = [some (.ref a), some (.int (p : Int)), some (.ref q), some (.ref F0), v4]) := fun e σ' hσ => by
          have bt : But F0 G (upd G F0 (.lst (zs ++ [y]))) := fun c o nc e => by
            rw [upd_ne nc]
            exact e
          rw [e]
          refine ⟨b3.trans bt, ⟨_, upd_same, paired_snocB pzs hspG bt ⟨_, hzs⟩⟩, ?_, _, hσ⟩
          rw [List.length_append]
          exact Nat.succ_le_succ lz
        obtain ⟨t, rfl, ht⟩ := id hspG
        cases q1 : acc.getLast? with
        | none =>
          have en : acc = [] := List.getLast?_eq_none_iff.mp q1
          have ez : zs = [] := List.length_eq_zero_iff.mp (by rw [← lzs, en]; rfl)
          rw [ez] at hzs
          rw [ez] at put
          refine ⟨_, rfl, false, .inl ⟨[], SqL.of hzs, rfl⟩, iteT (iteT ?_)⟩
          refine ⟨_, rfl, Or.inl ⟨rfl, _, SqL.of hzs⟩, _, rfl, F0, _, _, rfl, rfl, hzs, by show 0 < sizeLine; omega, ?_⟩
          exact put (by unfold gst; rw [q1]) _ rfl
        | some c =>
          have hc : acc[acc.length - 1]? = some c := by rw [← List.getLast?_eq_getElem?]; exact q1
          have la : 0 < acc.length := by
            have := (List.getElem?_eq_some_iff.mp hc).1
            omega
          obtain ⟨yc, hyc, tc, rfl, htc⟩ := paired_get1 pzs hc
          rw [lzs] at hyc
          refine ⟨_, rfl, true, .inl ⟨_, SqL.of hzs, ?_⟩, iteF ?_⟩
          · cases zs with
            | nil => rw [List.length_nil] at lzs; omega
            | cons _ _ => rfl
          · refine ⟨_, rfl, t, _, 1, .int (s.f : Int), rfl, rfl, SqT.of ht, rfl, _, rfl, _, rfl, F0, _, -1, _, rfl, rfl, SqL.of hzs, atL hyc, tc, _, 2, .int (c.l : Int), rfl, rfl, SqT.of htc, rfl, _, _, rfl, rfl, _, rfl, ?_⟩
            by_cases c1 : c.l < s.f
            · refine itePos (decide_eq_true (by omega)) ?_
              refine ⟨_, rfl, Or.inl ⟨rfl, _, SqL.of hzs⟩, _, rfl, F0, _, _, rfl, rfl, hzs, by omega, ?_⟩
              exact put (by unfold gst; rw [q1]; exact if_pos c1) _ rfl
            · refine iteNeg (by rw [decide_eq_false (by omega)]; exact Bool.false_ne_true) ?_
              have e : gst acc s = acc := by unfold gst; rw [q1]; exact if_neg c1
              rw [e]
              exact ⟨b3, ⟨zs, hzs, pzs⟩, by omega, _, rfl⟩
      · rintro σ G ⟨b3, ⟨zs, hzs, pzs⟩, lz, v4, rfl⟩
        have f1 : ∀ s ∈ L, 1 ≤ s.f := fun s hs' => ((spans_mem hs).1 s hs').f1
        have tkl : L.take xs.length = L := by rw [← lxs, List.take_length]
        rw [tkl, gst_all f1] at pzs
        refine ⟨_, rfl, kS _ (by rw [hs]; rfl) F0 G (fun c o e => b3 _ _ (ne_of_none e nF0) (sF _ _ (s1 _ _ e))) nF0 ⟨zs, hzs, pzs⟩⟩
abbrev s_roots_for : Stmt := top 39
abbrev N_roots_for : List Str := ["life", "places", "spans", "number", "first", "last"]
theorem sc_roots_for : FnScope N_roots_for ["life", "places"] (defScope s_roots_for) := ⟨rfl, rfl, rfl, by decide +kernel, rfl, by decide +kernel, by decide +kernel⟩
theorem ok_roots_for {f : Addr} {fd : FuncData} (F : FnP K "roots_for" s_roots_for f fd) (Z : FreeS mg)
    {f_need_life_and_places : Addr} {d_need_life_and_places : FuncData} (g_need_life_and_places : mg "need_life_and_places" = some (.ref f_need_life_and_places)) (F_need_life_and_places : FnP K "need_life_and_places" s_need_life_and_places f_need_life_and_places d_need_life_and_places) (G_need_life_and_places : FnOk P w K mg base (L2.CX P w) 7 f_need_life_and_places d_need_life_and_places ["life", "places"] (spNeedLP K))
    {f_spans_apart : Addr} {d_spans_apart : FuncData} (g_spans_apart : mg "spans_apart" = some (.ref f_spans_apart)) (F_spans_apart : FnP K "spans_apart" s_spans_apart f_spans_apart d_spans_apart) (G_spans_apart : FnOk P w K mg base CX0 7 f_spans_apart d_spans_apart ["life", "places"] (spApart K)) :
    FnOk P w K mg base (L2.CX P w) 8 f fd ["life", "places"] (spRoots K) := by
  have b_need_life_and_places : Binds K d_need_life_and_places ["life", "places"] [] := F_need_life_and_places.bindsN fun _ _ _ _ _ _ us hl => match us, hl with | [_, _], _ => rfl
  have b_spans_apart : Binds K d_spans_apart ["life", "places"] [] := F_spans_apart.bindsN fun _ _ _ _ _ _ us hl => match us, hl with | [_, _], _ => rfl
  refine F.ok sc_roots_for (fun vs H Q E h => ?_) (fun cdv A outer s H vs Q E hr h => ?_)
  · rcases h with ⟨x, y, rfl, _⟩ | ⟨a, es, y, rfl, _⟩ | ⟨a, es, p, rfl, _⟩ <;> rfl
  · have hh := h
    clear h
    have nd := sc_roots_for.nd
    refine ⟨_, id (pss_cons (ps_expr (pe_call G_need_life_and_places (hr.mono (by decide)) rfl g_need_life_and_places F_need_life_and_places.kp b_need_life_and_places .nil (passes_call (takes_of rfl rfl rfl rfl) (fun _ _ _ _ h => h)) (pa_cons (pv 0) (pa_cons (pv 1) (pa_nil)))))
      (pss_cons (ps_set (i := 2) nd rfl (Or.inl rfl) (pe_call G_spans_apart (hr.mono (by decide)) rfl g_spans_apart F_spans_apart.kp b_spans_apart .nil pass0 (pa_cons (pv 0) (pa_cons (pv 1) (pa_nil)))))
      (pss_cons (ps_if (pt_cmpR op_isN (pv 2) (pe_non) (nomark _)) (pss_one (ps_ret (pe_non))) (pss_nil))
      (pss_one (ps_ret (pe_lc (own := [("number", 3), ("first", 4), ("last", 5)]) (g := gTup K 3 (gCons (gName 3) (gCons (gName 4) (gCons (gName 5) (gNil))))) (tt := tYes) (te := tVar 5) (by rfl) nd (pi_list (pv 2))
          (blkOk_by (own := [("number", 3), ("first", 4), ("last", 5)]) (N := N_roots_for) (sc := defScope s_roots_for) (by decide +kernel)) (fun _ _ _ _ _ => pg_tup rfl (pgs_cons (pg_name (i := 3) nd rfl (Or.inl rfl)) (pgs_cons (pg_name (i := 4) nd rfl (Or.inl rfl)) (pgs_cons (pg_name (i := 5) nd rfl (Or.inl rfl)) (pgs_nil))))) (fun _ _ _ _ _ => pts_nil)
          (fun _ _ _ _ _ => pv 5))))))), ?_⟩
    rcases hh with ⟨x, y, rfl, ho, k⟩ | ⟨a, es, y, rfl, hL, hV, hy, k⟩ | ⟨a, es, p, rfl, hL, hV, hp, kN, kS⟩
    · exact ⟨_, rfl, _, rfl, .inl ⟨x, y, rfl, ho, k⟩⟩
    · exact ⟨_, rfl, _, rfl, .inr (.inl ⟨a, es, y, rfl, hL, hV, hy, k⟩)⟩
    have sl : (3000 : Nat) ≤ sizeLine := by decide
    have l200 := hV.len
    refine ⟨_, rfl, _, rfl, .inr (.inr ⟨a, es, (p : Int), rfl, hL, hV, by omega, fun H1 s1 => ?_⟩)⟩
    refine ⟨_, rfl, _, rfl, a, es, p, rfl, hL.same s1, l200, (fun hn H2 s2 => ?_), (fun L hs q H2 s2 hq hP => ?_)⟩
    · exact ⟨_, rfl, rfl, _, rfl, iteT (kN hn _ (s1.trans s2))⟩
    · refine ⟨_, rfl, rfl, _, rfl, iteF ?_⟩
      obtain ⟨xs, hxs, pxs⟩ := id hP
      have lxs := paired_len pxs
      have ll := cs_len hs
      refine ⟨_, rfl, q, rfl, ⟨_, SqL.of hxs⟩, fun D hD => ?_⟩
      refine lc_sel (n := xs.length) (walk_list (K := K) (a := q) (xs := xs)) (fun i => (L[i]?).map fun s => V.int (s.l : Int)) (by omega) hD (fun G s => SqL.of (s _ _ hxs)) ?_ ?_
      · rintro i v G G' Qy Qn hi sG ⟨rfl, hv⟩ ky kn
        obtain ⟨s, e1, t, rfl, ht⟩ := paired_get2 pxs hv
        rw [e1] at ky
        refine ⟨t, [_, _, _], rfl, .inl (.inl (sG _ _ ht)), rfl, _, [_, _], rfl, _, [_], rfl, _, [], rfl, rfl, ?_⟩
        exact ⟨rfl, _, rfl, ky _ _ (Same.refl _) rfl⟩
      · intro G sG hR
        refine kS L hs D G ((s1.trans s2).trans sG) (none_back (s1.trans s2) hD) ?_
        rw [hR, ← lxs]
        refine congrArg (fun z => some (HO.lst z)) ?_
        unfold numsV
        rw [List.map_map]
        exact sel_map _ L
abbrev s_apart_lines : Stmt := top 40
abbrev N_apart_lines : List Str := ["life", "places", "spans", "number", "first", "last"]
theorem sc_apart_lines : FnScope N_apart_lines ["life", "places"] (defScope s_apart_lines) := ⟨rfl, rfl, rfl, by decide +kernel, rfl, by decide +kernel, by decide +kernel⟩
theorem ok_apart_lines {f : Addr} {fd : FuncData} (F : FnP K "apart_lines" s_apart_lines f fd) (Z : FreeS mg)
    {f_need_life_and_places : Addr} {d_need_life_and_places : FuncData} (g_need_life_and_places : mg "need_life_and_places" = some (.ref f_need_life_and_places)) (F_need_life_and_places : FnP K "need_life_and_places" s_need_life_and_places f_need_life_and_places d_need_life_and_places) (G_need_life_and_places : FnOk P w K mg base (L2.CX P w) 7 f_need_life_and_places d_need_life_and_places ["life", "places"] (spNeedLP K))
    {f_spans_apart : Addr} {d_spans_apart : FuncData} (g_spans_apart : mg "spans_apart" = some (.ref f_spans_apart)) (F_spans_apart : FnP K "spans_apart" s_spans_apart f_spans_apart d_spans_apart) (G_spans_apart : FnOk P w K mg base CX0 7 f_spans_apart d_spans_apart ["life", "places"] (spApart K)) (ER : ErrOk P w K mg base "Full" (cFul K)) :
    FnOk P w K mg base (L2.CX P w) 8 f fd ["life", "places"] (spApartL K) := by
  have b_need_life_and_places : Binds K d_need_life_and_places ["life", "places"] [] := F_need_life_and_places.bindsN fun _ _ _ _ _ _ us hl => match us, hl with | [_, _], _ => rfl
  have b_spans_apart : Binds K d_spans_apart ["life", "places"] [] := F_spans_apart.bindsN fun _ _ _ _ _ _ us hl => match us, hl with | [_, _], _ => rfl
  refine F.ok sc_apart_lines (fun vs H Q E h => ?_) (fun cdv A outer s H vs Q E hr h => ?_)
  · rcases h with ⟨x, y, rfl, _⟩ | ⟨a, es, y, rfl, _⟩ | ⟨a, es, p, rfl, _⟩ <;> rfl
  · have hh := h
    clear h
    obtain ⟨⟨fI, fdI, T, F1, EB⟩, gC⟩ := ER
    have nd := sc_apart_lines.nd
    refine ⟨_, id (pss_cons (ps_expr (pe_call G_need_life_and_places (hr.mono (by decide)) rfl g_need_life_and_places F_need_life_and_places.kp b_need_life_and_places .nil (passes_call (takes_of rfl rfl rfl rfl) (fun _ _ _ _ h => h)) (pa_cons (pv 0) (pa_cons (pv 1) (pa_nil)))))
      (pss_cons (ps_set (i := 2) nd rfl (Or.inl rfl) (pe_call G_spans_apart (hr.mono (by decide)) rfl g_spans_apart F_spans_apart.kp b_spans_apart .nil pass0 (pa_cons (pv 0) (pa_cons (pv 1) (pa_nil)))))
      (pss_cons (ps_if (pt_cmpR op_isN (pv 2) (pe_non) (nomark _)) (pss_one (ps_raise rfl (takes_of rfl rfl rfl rfl) (pmk_err T F1 EB (hr.mono (by decide)) gC (pv 1)))) (pss_nil))
      (pss_one (ps_ret (pe_lc (own := [("number", 3), ("first", 4), ("last", 5)]) (g := gTup K 3 (gCons (gName 3) (gCons (gName 4) (gCons (gName 5) (gNil))))) (tt := tYes) (te := tVar 3) (by rfl) nd (pi_list (pv 2))
          (blkOk_by (own := [("number", 3), ("first", 4), ("last", 5)]) (N := N_apart_lines) (sc := defScope s_apart_lines) (by decide +kernel)) (fun _ _ _ _ _ => pg_tup rfl (pgs_cons (pg_name (i := 3) nd rfl (Or.inl rfl)) (pgs_cons (pg_name (i := 4) nd rfl (Or.inl rfl)) (pgs_cons (pg_name (i := 5) nd rfl (Or.inl rfl)) (pgs_nil))))) (fun _ _ _ _ _ => pts_nil)
          (fun _ _ _ _ _ => pv 3))))))), ?_⟩
    rcases hh with ⟨x, y, rfl, ho, k⟩ | ⟨a, es, y, rfl, hL, hV, hy, k⟩ | ⟨a, es, p, rfl, hL, hV, hp, kN, kS⟩
    · exact ⟨_, rfl, _, rfl, .inl ⟨x, y, rfl, ho, k⟩⟩
    · exact ⟨_, rfl, _, rfl, .inr (.inl ⟨a, es, y, rfl, hL, hV, hy, k⟩)⟩
    have sl : (3000 : Nat) ≤ sizeLine := by decide
    have l200 := hV.len
    refine ⟨_, rfl, _, rfl, .inr (.inr ⟨a, es, (p : Int), rfl, hL, hV, by omega, fun H1 s1 => ?_⟩)⟩
    refine ⟨_, rfl, _, rfl, a, es, p, rfl, hL.same s1, l200, (fun hn H2 s2 => ?_), (fun L hs q H2 s2 hq hP => ?_)⟩
    · exact ⟨_, rfl, rfl, _, rfl, iteT ⟨_, rfl, raise_in fun d hd => kN hn d _ ((s1.trans s2).trans (Same.updf hd)) (none_back (s1.trans s2) hd) upd_same⟩⟩
    · refine ⟨_, rfl, rfl, _, rfl, iteF ?_⟩
      obtain ⟨xs, hxs, pxs⟩ := id hP
      have lxs := paired_len pxs
      have ll := cs_len hs
      refine ⟨_, rfl, q, rfl, ⟨_, SqL.of hxs⟩, fun D hD => ?_⟩
      refine lc_sel (n := xs.length) (walk_list (K := K) (a := q) (xs := xs)) (fun i => (L[i]?).map fun s => V.int (s.n : Int)) (by omega) hD (fun G s => SqL.of (s _ _ hxs)) ?_ ?_
      · rintro i v G G' Qy Qn hi sG ⟨rfl, hv⟩ ky kn
        obtain ⟨s, e1, t, rfl, ht⟩ := paired_get2 pxs hv
        rw [e1] at ky
        refine ⟨t, [_, _, _], rfl, .inl (.inl (sG _ _ ht)), rfl, _, [_, _], rfl, _, [_], rfl, _, [], rfl, rfl, ?_⟩
        exact ⟨rfl, _, rfl, ky _ _ (Same.refl _) rfl⟩
      · intro G sG hR
        refine kS L hs D G ((s1.trans s2).trans sG) (none_back (s1.trans s2) hD) ?_
        rw [hR, ← lxs]
        refine congrArg (fun z => some (HO.lst z)) ?_
        unfold numsV
        rw [List.map_map]
        exact sel_map _ L
abbrev s_is_enough_with : Stmt := top 43
abbrev N_is_enough_with : List Str := ["life", "places", "roots", "spans"]
theorem sc_is_enough_with : FnScope N_is_enough_with ["life", "places", "roots"] (defScope s_is_enough_with) := ⟨rfl, rfl, rfl, by decide +kernel, rfl, by decide +kernel, by decide +kernel⟩
theorem ok_is_enough_with {f : Addr} {fd : FuncData} (F : FnP K "is_enough_with" s_is_enough_with f fd) (Z : FreeS mg)
    {f_spans_apart : Addr} {d_spans_apart : FuncData} (g_spans_apart : mg "spans_apart" = some (.ref f_spans_apart)) (F_spans_apart : FnP K "spans_apart" s_spans_apart f_spans_apart d_spans_apart) (G_spans_apart : FnOk P w K mg base CX0 7 f_spans_apart d_spans_apart ["life", "places"] (spApart K)) :
    FnOk P w K mg base CX0 8 f fd ["life", "places", "roots"] (spEnough K) := by
  have b_spans_apart : Binds K d_spans_apart ["life", "places"] [] := F_spans_apart.bindsN fun _ _ _ _ _ _ us hl => match us, hl with | [_, _], _ => rfl
  refine F.ok sc_is_enough_with (fun vs H Q E h => ?_) (fun cdv A outer s H vs Q E hr h => ?_)
  · obtain ⟨a, es, p, r, rfl, _⟩ := h
    rfl
  · obtain ⟨a, es, p, r, rfl, hL, l200, k⟩ := h
    have sl : (3000 : Nat) ≤ sizeLine := by decide
    have nd := sc_is_enough_with.nd
    refine ⟨_, PSs.nox (pss_cons (ps_set (i := 3) nd rfl (Or.inl rfl) (pe_call G_spans_apart (hr.mono (by decide)) rfl g_spans_apart F_spans_apart.kp b_spans_apart .nil pass0 (pa_cons (pv 0) (pa_cons (pv 1) (pa_nil)))))
      (pss_one (ps_ret (pe_and (pe_cmpR op_notN (pv 3) (pe_non) (nomark _)) (pe_one (pe_cmpR op_le (pe_callB call_len_seq (by rfl) Z.len (by decide +kernel) (pa_cons (pv 3) (pa_nil))) (pv 2) (nomark _))))))), ?_⟩
    refine ⟨_, rfl, _, rfl, a, es, p, rfl, hL, l200, (fun hn H2 s2 => ?_), (fun L hs q H2 s2 hq hP => ?_)⟩
    · have e : enough es p r = false := by unfold enough; rw [hn]
      rw [e] at k
      exact ⟨_, rfl, rfl, false, rfl, iteF (k _ s2)⟩
    · have e : enough es p r = decide (L.length ≤ r) := by unfold enough; rw [hs]
      rw [e] at k
      obtain ⟨xs, hxs, pxs⟩ := id hP
      have lxs := paired_len pxs
      have kk := k _ s2
      rw [show decide (L.length ≤ r) = decide ((xs.length : Int) ≤ (r : Int)) by rw [lxs, Bool.eq_iff_iff, decide_eq_true_eq, decide_eq_true_eq]; omega] at kk
      exact ⟨_, rfl, rfl, true, rfl, iteT ⟨_, rfl, q, xs, rfl, .inl (SqL.of hxs), _, rfl, _, _, rfl, rfl, kk⟩⟩
end
end K36
set_option Elab.async false
set_option linter.all false
set_option maxRecDepth 100000
set_option maxHeartbeats 8000000
/-! The fewest places with roots; lives with roots. -/
namespace K36
open PySem PySem.Spec PyProof.Rows L2 KB
/-- the lines of a life -/
def linesN (es : List Ev) : Nat := (stAt es es.length).w
/-- v is the fewest places with so many roots -/
def IsFew (es : List Ev) (r v : Nat) : Prop := 1 ≤ v ∧ v ≤ max 1 (linesN es) ∧ enough es v r = true ∧ ∀ p, 1 ≤ p → p < v → enough es p r = false
def spPlacesW (K : PySem.W.Frag) : Sp := fun vs H Q E => (∃ x y, vs = [x, y] ∧ OddL K H x ∧ Rs (cRun K) x H E) ∨ (∃ (a : Addr) (es : List Ev) (y : V), vs = [.ref a, y] ∧ LifeAt K H a es ∧ Valid es ∧ CntV K H y false ∧ Rs (cCnt K) y H E) ∨ ∃ (a : Addr) (es : List Ev) (r : Nat), vs = [.ref a, .int (r : Int)] ∧ LifeAt K H a es ∧ Valid es ∧ ∀ v H', Same H H' → IsFew es r v → Q (.int (v : Int)) H'
theorem LifeAt.snoc {K : PySem.W.Frag} {H' : Hp} {q t : Addr} {es : List Ev} {e : Ev} {ts : List Addr} (lt : ts.length = es.length) (k : ∀ (i : Nat) (t : Addr) (e : Ev), ts[i]? = some t → es[i]? = some e → SqT K H' t e.v) (hq : H' q = some (.lst (ts.map V.ref ++ [.ref t]))) (ht : SqT K H' t e.v) : LifeAt K H' q (es ++ [e]) := by
  refine ⟨ts ++ [t], by rw [hq, List.map_append]; rfl, by rw [List.length_append, List.length_append, lt]; rfl, fun i u f e1 e2 => ?_⟩
  by_cases hi : i < ts.length
  · rw [List.getElem?_append_left hi] at e1
    rw [List.getElem?_append_left (by omega)] at e2
    exact k i u f e1 e2
  · rw [List.getElem?_append_right (by omega)] at e1
    rw [List.getElem?_append_right (by omega)] at e2
    have q1 := List.mem_of_getElem? e1
    have q2 := List.mem_of_getElem? e2
    rw [List.mem_singleton] at q1 q2
    rw [q1, q2]
    exact ht
theorem NoCnts.same {K : PySem.W.Frag} {H H' : Hp} {x : V} (k : Same H H') : NoCnts K H x → NoCnts K H' x := by
  rintro (⟨t, ty, e⟩ | ⟨a, xs, bs, e, h, l, lb, fb, c⟩)
  · exact .inl ⟨t, TyX_up k ty, e⟩
  · exact .inr ⟨a, xs, bs, e, k _ _ h, l, lb, fb, fun i y b e1 e2 => (c i y b e1 e2).up k⟩
theorem asc_below {n : Nat} {l : List Nat} (h : Asc n l) : (ascB l && l.all fun x => decide (x < n)) = true := by
  rw [Bool.and_eq_true, List.all_eq_true]
  refine ⟨?_, fun x hx => decide_eq_true (h.2 x hx)⟩
  unfold ascB
  rw [List.all_eq_true]
  intro i hi
  rw [List.mem_range] at hi
  have := List.pairwise_iff_getElem.mp h.1 i (1 + i) (by omega) (by omega) (by omega)
  rw [List.getD_eq_getElem?_getD, List.getD_eq_getElem?_getD, List.getElem?_eq_getElem (show i < l.length by omega), List.getElem?_eq_getElem (show 1 + i < l.length by omega)]
  exact decide_eq_true this
/-- not ascending positions below n -/
def NoPos (K : PySem.W.Frag) (H : Hp) (n : Nat) (x : V) : Prop := NoCnts K H x ∨ ∃ (b : Addr) (ns : List Nat), x = .ref b ∧ H b = some (.lst (numsV ns)) ∧ ns.length ≤ 1000 ∧ (ascB ns && ns.all fun x => decide (x < n)) = false
def spWithR (K : PySem.W.Frag) : Sp := fun vs H Q E => (∃ x y, vs = [x, y] ∧ OddL K H x ∧ Rs (cRun K) x H E) ∨ (∃ (a : Addr) (es : List Ev) (y : V), vs = [.ref a, y] ∧ LifeAt K H a es ∧ Valid es ∧ NoPos K H es.length y ∧ Rs (cMom K) y H E) ∨ ∃ (a b : Addr) (es : List Ev) (P : List Nat), vs = [.ref a, .ref b] ∧ LifeAt K H a es ∧ Valid es ∧ es.length ≤ 90 ∧ H b = some (.lst (numsV P)) ∧ P.length ≤ 200 ∧ Asc es.length P ∧ ∀ q H', Same H H' → H q = none → LifeAt K H' q (wr es P es.length) → Q (.ref q) H'
theorem lines_le (es : List Ev) : linesN es ≤ es.length := by
  have h := lp_pre es es.length (Nat.le_refl _)
  have := List.length_filter_le (isL es) (List.range es.length)
  rw [List.length_range] at this
  unfold linesN
  omega
theorem flat_nums2 (l : List Nat) : (numsV l).all flatV = true := by
  rw [List.all_eq_true]
  intro v m
  obtain ⟨y, _, rfl⟩ := List.mem_map.mp m
  rfl
theorem inV_nums2 (x : Nat) : ∀ l : List Nat, inV (.int (x : Int)) (numsV l) = decide (x ∈ l)
  | [] => by simp [inV, numsV]
  | y :: l => by
    have ih := inV_nums2 x l
    have e : eqV (.int (y : Int)) (.int (x : Int)) = decide (x = y) := by
      show ((y : Int) == (x : Int)) = _
      by_cases h : x = y
      · subst h
        simp
      · simp [h]
        omega
    unfold inV numsV at *
    rw [List.map_cons, List.any_cons, ih, e]
    simp [List.mem_cons]
theorem LifeAt.app {K : PySem.W.Frag} {G : Hp} {q : Addr} {es : List Ev} (h : LifeAt K G q es) {t : Addr} {e : Ev} (ht : SqT K G t e.v) : ∃ xs, G q = some (.lst xs) ∧ xs.length = es.length ∧ LifeAt K (upd G q (.lst (xs ++ [.ref t]))) q (es ++ [e]) := by
  obtain ⟨us, hus, lus, kus⟩ := h
  have b : But q G (upd G q (.lst (us.map V.ref ++ [.ref t]))) := fun c o n e => by
    rw [upd_ne n]
    exact e
  exact ⟨_, hus, by rw [List.length_map, lus], LifeAt.snoc lus (fun j u f e1 e2 => SqT_but b (kus j u f e1 e2) ⟨_, hus⟩) upd_same (SqT_but b ht ⟨_, hus⟩)⟩
section
variable {P : Program} {w : World} {K : PySem.W.Frag} {mg : Str → Option Value} {base : Heap}
abbrev s_places_with : Stmt := top 44
abbrev N_places_with : List Str := ["life", "roots", "low", "high", "middle"]
theorem sc_places_with : FnScope N_places_with ["life", "roots"] (defScope s_places_with) := ⟨rfl, rfl, rfl, by decide +kernel, rfl, by decide +kernel, by decide +kernel⟩
theorem ok_places_with {f : Addr} {fd : FuncData} (F : FnP K "places_with" s_places_with f fd) (Z : FreeS mg)
    {f_need_life : Addr} {d_need_life : FuncData} (g_need_life : mg "need_life" = some (.ref f_need_life)) (F_need_life : FnP K "need_life" s_need_life f_need_life d_need_life) (G_need_life : FnOk P w K mg base (L2.CX P w) 6 f_need_life d_need_life ["life"] (spNeedLife K))
    {f_need_count : Addr} {d_need_count : FuncData} (g_need_count : mg "need_count" = some (.ref f_need_count)) (F_need_count : FnP K "need_count" s_need_count f_need_count d_need_count) (G_need_count : FnOk P w K mg base (L2.CX P w) 3 f_need_count d_need_count ["number"] (spNeedC K))
    {f_is_enough_with : Addr} {d_is_enough_with : FuncData} (g_is_enough_with : mg "is_enough_with" = some (.ref f_is_enough_with)) (F_is_enough_with : FnP K "is_enough_with" s_is_enough_with f_is_enough_with d_is_enough_with) (G_is_enough_with : FnOk P w K mg base CX0 8 f_is_enough_with d_is_enough_with ["life", "places", "roots"] (spEnough K)) (C : Cn K mg) :
    FnOk P w K mg base (L2.CX P w) 9 f fd ["life", "roots"] (spPlacesW K) := by
  have b_need_life : Binds K d_need_life ["life"] [] := F_need_life.bindsN fun _ _ _ _ _ _ us hl => match us, hl with | [_], _ => rfl
  have b_need_count : Binds K d_need_count ["number"] [] := F_need_count.bindsN fun _ _ _ _ _ _ us hl => match us, hl with | [_], _ => rfl
  have b_is_enough_with : Binds K d_is_enough_with ["life", "places", "roots"] [] := F_is_enough_with.bindsN fun _ _ _ _ _ _ us hl => match us, hl with | [_, _, _], _ => rfl
  refine F.ok sc_places_with (fun vs H Q E h => ?_) (fun cdv A outer s H vs Q E hr h => ?_)
  · rcases h with ⟨x, y, rfl, _⟩ | ⟨a, es, y, rfl, _⟩ | ⟨a, es, r, rfl, _⟩ <;> rfl
  · have hh := h
    clear h
    have hu : _ + 65 < cLine := Nat.lt_of_le_of_lt (Nat.add_le_add_left (by decide : 65 ≤ 200) _) (Nat.lt_of_le_of_lt (Nat.add_le_add_right (Nat.le_add_right _ _) _) hr.un)
    have nd := sc_places_with.nd
    refine ⟨_, id (pss_cons (ps_expr (pe_call G_need_life (hr.mono (by decide)) rfl g_need_life F_need_life.kp b_need_life .nil (passes_call (takes_of rfl rfl rfl rfl) (fun _ _ _ _ h => h)) (pa_cons (pv 0) (pa_nil))))
      (pss_cons (ps_expr (pe_call G_need_count (hr.mono (by decide)) rfl g_need_count F_need_count.kp b_need_count .nil (passes_call (takes_of rfl rfl rfl rfl) (fun _ _ _ _ h => h)) (pa_cons (pv 1) (pa_nil))))
      (pss_cons (ps_set (i := 2) nd rfl (Or.inl rfl) (pe_int))
      (pss_cons (ps_set (i := 3) nd rfl (Or.inl rfl) (pe_callB (call_max2 rfl) (by rfl) Z.max (by decide +kernel) (pa_cons (pe_int) (pa_cons (pe_bm PySem.F.plainAttrs_list PySem.F.slot_list_count PySem.F.type_list_count (mt_countD hu) (pv 0) (pa_cons (pe_glob (v := .ref (aL K)) (by rfl) C.gL rfl) (pa_nil))) (pa_nil)))))
      (pss_cons (ps_while (passes_of rfl) (pt_cmpR op_lt (pv 2) (pv 3) (nomark _)) (pss_cons (ps_set (i := 4) nd rfl (Or.inl rfl) (pe_op op_fdiv (pe_op op_add (pv 2) (pv 3)) (pe_int)))
      (pss_one (ps_if (pt_val (pe_call G_is_enough_with (hr.mono (by decide)) rfl g_is_enough_with F_is_enough_with.kp b_is_enough_with .nil pass0 (pa_cons (pv 0) (pa_cons (pv 4) (pa_cons (pv 1) (pa_nil)))))) (pss_one (ps_set (i := 3) nd rfl (Or.inl rfl) (pv 4))) (pss_one (ps_set (i := 2) nd rfl (Or.inl rfl) (pe_op op_add (pv 4) (pe_int))))))))
      (pss_one (ps_ret (pv 2)))))))), ?_⟩
    rcases hh with ⟨x, y, rfl, ho, k⟩ | ⟨a, es, y, rfl, hL, hV, hy, k⟩ | ⟨a, es, r, rfl, hL, hV, k⟩
    · exact ⟨_, rfl, .inl ⟨x, rfl, ho, k⟩⟩
    · exact ⟨_, rfl, .inr ⟨a, es, rfl, hL, hV, fun H1 s1 => ⟨_, rfl, .inr ⟨y, rfl, hy.up s1, k.next s1⟩⟩⟩⟩
    have sl : (3000 : Nat) ≤ sizeLine := by decide
    have l200 := hV.len
    refine ⟨_, rfl, .inr ⟨a, es, rfl, hL, hV, fun H1 s1 => ?_⟩⟩
    refine ⟨_, rfl, .inl ⟨(r : Int), rfl, by omega, ?_⟩⟩
    have hL1 := hL.same s1
    obtain ⟨ts, ha, lt, ht⟩ := id hL1
    refine ⟨_, rfl, Or.inl ⟨rfl, _, SqL.of ha⟩, a, _, _, _, rfl, rfl, hL1.dp, C.dL _, shaped_life _, shaped_ev .line, ?_⟩
    have hc := count_take es es.length
    rw [List.take_length] at hc
    rw [hc]
    refine ⟨_, _, rfl, ?_⟩
    have few : ∀ v, 1 ≤ v → v ≤ max 1 (linesN es) → enough es v r = true → (∀ p, 1 ≤ p → p < v → enough es p r = false) → IsFew es r v := fun v a b c d => ⟨a, b, c, d⟩
    have e0 : enough es (max 1 (linesN es)) r = true := enough_all hV r (by unfold linesN; omega)
    have lle := lines_le es
    refine ⟨fun m σ G => Same H1 G ∧ ∃ (lo hi : Nat) (v4 : Option V), m = hi - lo ∧ lo ≤ hi ∧ 1 ≤ lo ∧ hi ≤ max 1 (linesN es) ∧ enough es hi r = true ∧ (∀ p, 1 ≤ p → p < lo → enough es p r = false) ∧ σ = [some (.ref a), some (.int (r : Int)), some (.int (lo : Int)), some (.int (hi : Int)), v4], ⟨_, Same.refl _, 1, max 1 (linesN es), none, rfl, by omega, by omega, Nat.le_refl _, e0, fun p a b => by omega, ?_⟩, ?_⟩
    · have e2 : (if ((linesN es : Nat) : Int) > 1 then ((linesN es : Nat) : Int) else 1) = ((max 1 (linesN es) : Nat) : Int) := by
        split <;> omega
      show [some (V.ref a), some (V.int (r : Int)), some (V.int 1), some (V.int (if ((linesN es : Nat) : Int) > 1 then ((linesN es : Nat) : Int) else 1)), none] = _
      rw [e2]
      rfl
    · rintro m σ G ⟨s3, lo, hi, v4, rfl, lh, l1, hm, eh, el, rfl⟩
      refine ⟨_, rfl, _, rfl, _, _, rfl, rfl, _, rfl, ?_⟩
      by_cases c : lo < hi
      · refine itePos (decide_eq_true (by omega)) ?_
        refine ⟨fun σ G' => ∃ m', m' < hi - lo ∧ (Same H1 G' ∧ ∃ (lo hi : Nat) (v4 : Option V), m' = hi - lo ∧ lo ≤ hi ∧ 1 ≤ lo ∧ hi ≤ max 1 (linesN es) ∧ enough es hi r = true ∧ (∀ p, 1 ≤ p → p < lo → enough es p r = false) ∧ σ = [some (.ref a), some (.int (r : Int)), some (.int (lo : Int)), some (.int (hi : Int)), v4]), fun _ _ h => h, ?_⟩
        refine ⟨_, rfl, _, rfl, _, _, rfl, rfl, _, _, rfl, rfl, ⟨by decide, by decide⟩, ?_⟩
        dsimp only
        have em : ((lo : Int) + (hi : Int)) / 2 = (((lo + hi) / 2 : Nat) : Int) := by omega
        rw [em]
        obtain ⟨mi, emi⟩ : ∃ mi, mi = (lo + hi) / 2 := ⟨_, rfl⟩
        rw [← emi]
        have m1 : lo ≤ mi := by omega
        have m2 : mi < hi := by omega
        refine ⟨_, rfl, _, rfl, _, rfl, a, es, mi, r, rfl, hL1.same s3, l200, fun G2 s4 => ⟨_, rfl, ?_⟩⟩
        cases q : enough es mi r with
        | true => exact iteT ⟨_, rfl, mi - lo, by omega, s3.trans s4, lo, mi, _, rfl, m1, l1, by omega, q, el, rfl⟩
        | false =>
          refine iteF ⟨_, rfl, _, _, rfl, rfl, hi - (mi + 1), by omega, s3.trans s4, mi + 1, hi, _, rfl, by omega, by omega, hm, eh, fun p a b => ?_, rfl⟩
          cases q2 : enough es p r with
          | false => rfl
          | true =>
            rw [enough_mono hV (show p ≤ mi by omega) q2] at q
            cases q
      · refine iteNeg (by rw [decide_eq_false (by omega)]; exact Bool.false_ne_true) ⟨_, rfl, k lo G (s1.trans s3) (few lo l1 (by omega) ?_ el)⟩
        rw [show lo = hi by omega]
        exact eh
abbrev s_with_roots : Stmt := top 42
abbrev N_with_roots : List Str := ["life", "positions", "found", "at", "event"]
theorem sc_with_roots : FnScope N_with_roots ["life", "positions"] (defScope s_with_roots) := ⟨rfl, rfl, rfl, by decide +kernel, rfl, by decide +kernel, by decide +kernel⟩
theorem ok_with_roots {f : Addr} {fd : FuncData} (F : FnP K "with_roots" s_with_roots f fd) (Z : FreeS mg)
    {f_need_life : Addr} {d_need_life : FuncData} (g_need_life : mg "need_life" = some (.ref f_need_life)) (F_need_life : FnP K "need_life" s_need_life f_need_life d_need_life) (G_need_life : FnOk P w K mg base (L2.CX P w) 6 f_need_life d_need_life ["life"] (spNeedLife K))
    {f_are_ascending_below : Addr} {d_are_ascending_below : FuncData} (g_are_ascending_below : mg "are_ascending_below" = some (.ref f_are_ascending_below)) (F_are_ascending_below : FnP K "are_ascending_below" s_are_ascending_below f_are_ascending_below d_are_ascending_below) (G_are_ascending_below : FnOk P w K mg base CX0 4 f_are_ascending_below d_are_ascending_below ["value", "bound"] (spAscB K)) (C : Cn K mg) (ER : ErrOk P w K mg base "InvalidMoment" (cMom K)) :
    FnOk P w K mg base (L2.CX P w) 7 f fd ["life", "positions"] (spWithR K) := by
  have b_need_life : Binds K d_need_life ["life"] [] := F_need_life.bindsN fun _ _ _ _ _ _ us hl => match us, hl with | [_], _ => rfl
  have b_are_ascending_below : Binds K d_are_ascending_below ["value", "bound"] [] := F_are_ascending_below.bindsN fun _ _ _ _ _ _ us hl => match us, hl with | [_, _], _ => rfl
  refine F.ok sc_with_roots (fun vs H Q E h => ?_) (fun cdv A outer s H vs Q E hr h => ?_)
  · rcases h with ⟨x, y, rfl, _⟩ | ⟨a, es, y, rfl, _⟩ | ⟨a, b, es, ps, rfl, _⟩ <;> rfl
  · have hh := h
    clear h
    obtain ⟨⟨fI, fdI, T, F1, EB⟩, gC⟩ := ER
    have nd := sc_with_roots.nd
    refine ⟨_, id (pss_cons (ps_expr (pe_call G_need_life (hr.mono (by decide)) rfl g_need_life F_need_life.kp b_need_life .nil (passes_call (takes_of rfl rfl rfl rfl) (fun _ _ _ _ h => h)) (pa_cons (pv 0) (pa_nil))))
      (pss_cons (ps_if (pt_not (pt_val (pe_call G_are_ascending_below (hr.mono (by decide)) rfl g_are_ascending_below F_are_ascending_below.kp b_are_ascending_below .nil pass0 (pa_cons (pv 1) (pa_cons (pe_callB call_len_seq (by rfl) Z.len (by decide +kernel) (pa_cons (pv 0) (pa_nil))) (pa_nil)))))) (pss_one (ps_raise rfl (takes_of rfl rfl rfl rfl) (pmk_err T F1 EB (hr.mono (by decide)) gC (pv 1)))) (pss_nil))
      (pss_cons (ps_set (i := 2) nd rfl (Or.inl rfl) (pe_lst (pa_nil)))
      (pss_cons (ps_for (passes_of rfl) rfl (pi_enum (by rfl) Z.enumerate (pa_cons (pv 0) (pa_nil))) (pg_tup rfl (pgs_cons (pg_name (i := 3) nd rfl (Or.inl rfl)) (pgs_cons (pg_name (i := 4) nd rfl (Or.inl rfl)) (pgs_nil))))
        (pss_cons (ps_if (pt_cmpR op_in_seq (pv 3) (pv 1) (by rfl)) (pss_one (ps_expr (pe_bm PySem.F.plainAttrs_list PySem.F.slot_list_append PySem.F.type_list_append mt_append (pv 2) (pa_cons (pe_glob (v := .ref (aR K)) (by rfl) C.gR rfl) (pa_nil))))) (pss_nil))
      (pss_one (ps_expr (pe_bm PySem.F.plainAttrs_list PySem.F.slot_list_append PySem.F.type_list_append mt_append (pv 2) (pa_cons (pv 4) (pa_nil)))))))
      (pss_one (ps_ret (pv 2))))))), ?_⟩
    rcases hh with ⟨x, y, rfl, ho, k⟩ | ⟨a, es, y, rfl, hL, hV, hy, k⟩ | ⟨a, b, es, ps, rfl, hL, hV, l90, hb, lp, asc, k⟩
    · exact ⟨_, rfl, .inl ⟨x, rfl, ho, k⟩⟩
    · refine ⟨_, rfl, .inr ⟨a, es, rfl, hL, hV, fun H1 s1 => ?_⟩⟩
      obtain ⟨ts, ha, lt, ht⟩ := hL.same s1
      rcases hy with hy | ⟨b, ns, rfl, hb, ln, hn⟩
      · refine ⟨_, rfl, _, rfl, a, _, rfl, .inl (SqL.of ha), .inl ⟨y, _, rfl, hy.same s1, fun H2 s2 => ⟨false, rfl, iteT ⟨_, rfl, raise_in fun d hd => k d _ ((s1.trans s2).trans (Same.updf hd)) (none_back (s1.trans s2) hd) upd_same⟩⟩⟩⟩
      · refine ⟨_, rfl, _, rfl, a, _, rfl, .inl (SqL.of ha), .inr ⟨b, ns, es.length, by rw [List.length_map, lt]; rfl, s1 _ _ hb, ln, fun H2 s2 => ⟨_, rfl, ?_⟩⟩⟩
        rw [hn]
        exact iteT ⟨_, rfl, raise_in fun d hd => k d _ ((s1.trans s2).trans (Same.updf hd)) (none_back (s1.trans s2) hd) upd_same⟩
    have sl : (3000 : Nat) ≤ sizeLine := by decide
    have l200 := hV.len
    obtain ⟨ts, ha, lt, ht⟩ := id hL
    refine ⟨_, rfl, .inr ⟨a, es, rfl, hL, hV, fun H1 s1 => ?_⟩⟩
    refine ⟨_, rfl, _, rfl, a, _, rfl, .inl (SqL.of (s1 _ _ ha)), .inr ⟨b, ps, es.length, (by rw [List.length_map, lt]; rfl), s1 _ _ hb, by omega, fun H2 s2 => ⟨_, rfl, ?_⟩⟩⟩
    rw [asc_below asc]
    refine iteF ?_
    refine ⟨(by show 0 ≤ sizeLine; omega), fun F0 hF0 => ?_⟩
    have s12 := s1.trans s2
    have nF0 : H F0 = none := none_back s12 hF0
    have sF := Same.updf (o := .lst []) hF0
    obtain ⟨G1, eG1⟩ : ∃ G1, G1 = upd H2 F0 (.lst []) := ⟨_, rfl⟩
    rw [← eG1] at sF ⊢
    have hF1 : G1 F0 = some (.lst []) := by rw [eG1]; exact upd_same
    have ha1 := sF _ _ (s12 _ _ ha)
    have hb1 := sF _ _ (s12 _ _ hb)
    have naF : a ≠ F0 := fun z => by
      rw [z, nF0] at ha
      cases ha
    have nbF : b ≠ F0 := fun z => by
      rw [z, nF0] at hb
      cases hb
    have wrl : ∀ i, i ≤ es.length → (wr es ps i).length ≤ 2 * i := fun i => by
      induction i with
      | zero => exact fun _ => Nat.le_refl _
      | succ i ih =>
        intro hi
        have := ih (by omega)
        show (wr es ps i ++ (if ps.contains i then [Ev.root] else []) ++ (match es[i]? with | some e => [e] | none => [])).length ≤ _
        rw [List.length_append, List.length_append, List.getElem?_eq_getElem (show i < es.length by omega)]
        have h2 : (if ps.contains i then [Ev.root] else []).length ≤ 1 := by
          split
          · exact Nat.le_refl _
          · exact Nat.zero_le _
        show _ + _ + 1 ≤ _
        omega
    refine ⟨_, rfl, a, _, rfl, SqL.of ha1, ?_⟩
    refine for_it (n := ts.length) (by have := walk_enum (K := K) (a := a) (xs := ts.map V.ref); rw [List.length_map] at this; exact this) (fun i σ G => But F0 G1 G ∧ LifeAt K G F0 (wr es ps i) ∧ ∃ v3 v4, σ = [some (.ref a), some (.ref b), some (.ref F0), v3, v4])
      ⟨But.refl _ _, ⟨[], hF1, rfl, fun i t e h => by simp at h⟩, none, none, rfl⟩ (fun i σ G _ hh => SqL.of (hh.1 _ _ naF ha1)) ?_ ?_
    · rintro i v σ G' G hi ⟨b3, hLG, v3, v4, rfl⟩ ⟨T, x1, x2, rfl, nT, rfl, g1, g2⟩
      dsimp only at g1 g2
      obtain rfl := Option.some.inj g1
      have e1 : ts[i]? = some ts[i] := List.getElem?_eq_getElem hi
      rw [List.getElem?_map, e1] at g2
      obtain rfl := Option.some.inj g2
      have ee : es[i]? = some (es[i]'(by omega)) := List.getElem?_eq_getElem _
      have sT := Same.updf (o := .tup [V.int (i : Nat), V.ref ts[i]]) nT
      refine ⟨T, [_, _], rfl, .inl (.inl upd_same), rfl, _, [_], rfl, _, [], rfl, rfl, ?_⟩
      obtain ⟨us, hus, lus, kus⟩ := id hLG
      have he : SqT K G' ts[i] (es[i]'(by omega)).v := SqT_but b3 (SqT_up sF (SqT_up s12 (ht i _ _ e1 ee))) ⟨_, hF1⟩
      have hb9 := b3 _ _ nbF hb1
      have hb10 := sT _ _ hb9
      have wl0 := wrl i (by omega)
      have wk : wr es ps (i + 1) = wr es ps i ++ (if ps.contains i then [Ev.root] else []) ++ [es[i]'(by omega)] := by
        show _ ++ (match es[i]? with | some e => [e] | none => []) = _
        rw [ee]
      refine ⟨_, rfl, _, rfl, b, numsV ps, rfl, .inl (SqL.of hb10), rfl, flat_nums2 _, _, rfl, ?_⟩
      have hLT := hLG.same sT
      have heT := SqT_up sT he
      have bT : But F0 G1 (upd G' T (.tup [V.int (i : Nat), V.ref ts[i]])) := b3.trans (But.of sT)
      obtain ⟨G4, eG4⟩ : ∃ G4, G4 = upd G' T (.tup [V.int (i : Nat), V.ref ts[i]]) := ⟨_, rfl⟩
      rw [← eG4] at hLT heT bT hb10 ⊢
      have fin : ∀ (G5 : Hp) (xs0 : List Ev), But F0 G4 G5 → LifeAt K G5 F0 xs0 → SqT K G5 ts[i] (es[i]'(by omega)).v → xs0.length ≤ 2 * i + 1 → wr es ps (i + 1) = xs0 ++ [es[i]'(by omega)] → ∃ xs, G5 F0 = some (.lst xs) ∧ xs.length < sizeLine ∧ But F0 G1 (upd G5 F0 (.lst (xs ++ [.ref ts[i]]))) ∧ LifeAt K (upd G5 F0 (.lst (xs ++ [.ref ts[i]]))) F0 (wr es ps (i + 1)) := fun G5 xs0 b5 h5 h6 l5 e5 => by
        obtain ⟨xs, x1, x2, x3⟩ := h5.app h6
        rw [← e5] at x3
        exact ⟨xs, x1, by omega, (bT.trans b5).trans fun c o n e => by rw [upd_ne n]; exact e, x3⟩
      have einc : inV (.int (i : Int)) (numsV ps) = ps.contains i := by
        rw [inV_nums2, Bool.eq_iff_iff, decide_eq_true_eq, List.contains_iff_mem]
      rw [show (if false = true then !inV (V.int (i : Nat)) (numsV ps) else inV (V.int (i : Nat)) (numsV ps)) = ps.contains i from einc]
      cases q : ps.contains i with
      | true =>
        rw [q, if_pos rfl] at wk
        obtain ⟨xs, x1, x2, x3⟩ := hLT.app (t := aR K) (e := .root) (C.tR G4)
        refine iteT ⟨_, rfl, Or.inl ⟨rfl, _, SqL.of x1⟩, F0, xs, _, rfl, rfl, x1, by omega, ?_⟩
        have b4 : But F0 G4 (upd G4 F0 (.lst (xs ++ [.ref (aR K)]))) := fun c o n e => by
          rw [upd_ne n]
          exact e
        obtain ⟨zs, z1, z2, z3, z4⟩ := fin _ _ b4 x3 (SqT_but b4 heT ⟨_, x1⟩) (by rw [List.length_append]; show _ + 1 ≤ _; omega) wk
        refine ⟨_, rfl, Or.inl ⟨rfl, _, SqL.of z1⟩, _, rfl, F0, zs, _, rfl, rfl, z1, z2, ?_⟩
        exact ⟨z3, z4, _, _, rfl⟩
      | false =>
        rw [q, if_neg Bool.false_ne_true, List.append_nil] at wk
        obtain ⟨zs, z1, z2, z3, z4⟩ := fin _ _ (But.refl _ _) hLT heT (by omega) wk
        refine iteF ⟨_, rfl, Or.inl ⟨rfl, _, SqL.of z1⟩, _, rfl, F0, zs, _, rfl, rfl, z1, z2, ?_⟩
        exact ⟨z3, z4, _, _, rfl⟩
    · rintro σ G ⟨b3, hLG, v3, v4, rfl⟩
      rw [lt] at hLG
      exact ⟨_, rfl, k F0 G (fun c o e => b3 _ _ (ne_of_none e nF0) (sF _ _ (s12 _ _ e))) nF0 hLG⟩
end
end K36
set_option Elab.async false
set_option linter.all false
set_option maxRecDepth 100000
set_option maxHeartbeats 4000000
/-! y = {k: v for ..}, y a local name. -/
namespace KB
open PySem PySem.Spec PyProof.Rows L2
theorem ps_setDc {X : Cx} {i : Nat} {y : Str} {py : Pos} {kx vx tg iter : Expr} {ifs : List Expr} {scope : Scope} {own : List (Str × Nat)} {pos spos : Pos} {wi : TI} {g : TG} {tt : TT} {tk tv : TE}
    (hc : X.calm = true) (hN : X.N.Nodup) (hy : X.N[i]? = some y) (hl : X.env.scope.names.lookup y = some .local) (sw : swapsWith (.DictComp kx vx [⟨tg, iter, ifs, 0⟩] scope pos) (some (.Name y py)) spos.line X.env = pure true)
    (hi : PI X tg iter wi) (ok : BlkOk X.N X.env.scope scope own)
    (hg : ∀ (s : Shared) (H : Hp) (C : Addr) (cl : List (Str × Addr)) (fp : List Addr), PG (X.blk s H scope (compEnvC scope cl C X.env) fp) tg g) (ht : ∀ (s : Shared) (H : Hp) (C : Addr) (cl : List (Str × Addr)) (fp : List Addr), PTs (X.blk s H scope (compEnvC scope cl C X.env) fp) ifs tt)
    (hk : ∀ (s : Shared) (H : Hp) (C : Addr) (cl : List (Str × Addr)) (fp : List Addr), PE (X.blk s H scope (compEnvC scope cl C X.env) fp) kx tk) (hv : ∀ (s : Shared) (H : Hp) (C : Addr) (cl : List (Str × Addr)) (fp : List Addr), PE (X.blk s H scope (compEnvC scope cl C X.env) fp) vx tv)
    (hs : ∀ x, foldedSetIterable iter X.env x = pure x := by intro _; rfl) : PS X (.Assign [.Name y py] (.DictComp kx vx [⟨tg, iter, ifs, 0⟩] scope pos) spos) (tAsg (tDc wi g tt tk tv (own.map (·.2))) (gName i)) := by
  refine ⟨fun pins s σ H D I h => ?_⟩
  rw [exec_Assign_Name_used _ _ _ _ sw]
  refine wpAny_bind (wpAny_standAt (wpAny_bind ?_))
  have h' : tDc wi g tt tk tv (own.map (·.2)) σ H (fun x G => gName i x σ G D.nx) := h
  have run := dc_core (use := some (assign (.Name y py) X.env)) (pos := pos) (pos' := firstIterPos [⟨tg, iter, ifs, 0⟩] pos) (Qf := fun _ s' => SP X pins D .next s') hc hN I hi ok hg ht hk hv hs h' fun L C s' m G J q hn f => by
    show wpAny _ _ (assign (.Name y py) X.env (.ref L)) _ _ _
    refine wpAny_assign_Name (store_ok2 (v := V.ref L) J hN hy (.inl hl) rfl (fun s2 J2 ⟨a, sb, ha⟩ => ?_) (.inr hl))
    obtain ⟨f0, f1, f2, f3, f4, f5⟩ := f
    have ne : C ≠ a := by
      rcases ha with z | z
      · rw [z]
        exact f1
      · exact fun e => f4 y a z e.symm
    exact ⟨m, hn.sameBut sb ne, fun h3 sb3 => ⟨_, G, J2.turned (t' := s2.toks) (fun b o hb e => (sb3.2 b hb).trans e) f0 f1 f3 f4 f5, q⟩⟩
  refine wpAny_bind (thn run fun _ s' hq => ?_)
  exact wpAny_pure (wpAny_pure hq)
end KB
set_option Elab.async false
set_option linter.all false
set_option maxRecDepth 100000
set_option maxHeartbeats 8000000
/-! Any object judged. -/
namespace K36
open PySem PySem.Spec PyProof.Rows L2 KB
/-- the span that a datum names -/
def spanN (sp : List Span) (d : PyData) : Option Span := match d with
  | .int i => sp.find? fun s => decide ((s.n : Int) = i)
  | _ => none
def adjB : Option Span → Option Span → Bool
  | some s, some t => decide (s.l < t.f)
  | _, _ => false
def ownL (c sp : List Span) (ds : List PyData) : Bool := decide (ds.length = c.length) && ((ds.all fun e => (spanN sp e).isSome) && (List.range (ds.length - 1)).all fun k => adjB (spanN sp (ds.getD k .none)) (spanN sp (ds.getD (k + 1) .none)))
def ownB (es : List Ev) (p : Nat) (d : PyData) : Bool := match cs es p, spansOf es p, d with
  | some c, some sp, .list ds => ownL c sp ds
  | _, _, _ => false
def spAreApart (K : PySem.W.Frag) : Sp := fun vs H Q E => (∃ x y z, vs = [x, y, z] ∧ OddL K H x ∧ Rs (cRun K) x H E) ∨ (∃ (a : Addr) (es : List Ev) (y z : V), vs = [.ref a, y, z] ∧ LifeAt K H a es ∧ Valid es ∧ No1 K H y ∧ Rs (cCnt K) y H E) ∨ ∃ (a : Addr) (x : V) (es : List Ev) (p n : Nat) (d : PyData), vs = [.ref a, .int (p : Int), x] ∧ LifeAt K H a es ∧ Valid es ∧ 1 ≤ p ∧ TD K H n x d ∧ ∀ H', Same H H' → Q (.bl (ownB es p d)) H'
theorem cut_tl (xs : List V) : cutV xs (some 1) none = xs.drop 1 := by
  unfold cutV
  by_cases h : 1 ≤ xs.length
  · have e1 : HT.sIx xs.length 0 (some 1) = 1 := by
      unfold HT.sIx
      simp
      omega
    have e2 : HT.sIx xs.length xs.length none = xs.length := rfl
    rw [e1, e2, List.take_of_length_le (by rw [List.length_drop]; exact Nat.le_refl _)]
  · have e0 : xs = [] := List.length_eq_zero_iff.mp (by omega)
    rw [e0]
    rfl
/-- D is the dictionary from the numbers of L to tuples -/
def SpD (g : Span → List V) (H : Hp) (D : Addr) (L : List Span) : Prop := ∃ F : Nat → V, H D = some (.dK (dV (L.map Span.n) F)) ∧ ∀ s ∈ L, ∃ T, F s.n = .ref T ∧ H T = some (.tup (g s))
theorem SpD.same {g : Span → List V} {H H' : Hp} {D : Addr} {L : List Span} (k : Same H H') : SpD g H D L → SpD g H' D L := fun ⟨F, h, hs⟩ => ⟨F, k _ _ h, fun s m => by
  obtain ⟨T, e, h⟩ := hs s m
  exact ⟨T, e, k _ _ h⟩⟩
theorem SpD.add {g : Span → List V} {G : Hp} {D T : Addr} {L : List Span} {s : Span} (h : SpD g G D L) (hT : G T = some (.tup (g s))) (ns : s.n ∉ L.map Span.n) : ∃ kvs, G D = some (.dK kvs) ∧ kvs.length = L.length ∧ SpD g (upd G D (.dK (putK kvs (ky s.n) (.ref T)))) D (L ++ [s]) := by
  obtain ⟨F, hD, hs⟩ := h
  refine ⟨_, hD, by rw [dV_len, List.length_map], put F s.n (.ref T), ?_, fun u hu => ?_⟩
  · rw [upd_same, dV_new ns, List.map_append]
    rfl
  · rcases List.mem_append.mp hu with m | m
    · obtain ⟨U, e, hU⟩ := hs u m
      have ne : u.n ≠ s.n := fun z => ns (by rw [← z]; exact List.mem_map.mpr ⟨u, m, rfl⟩)
      refine ⟨U, by unfold put; rw [if_neg ne, e], ?_⟩
      rw [upd_ne (fun z => by rw [z, hD] at hU; cases hU)]
      exact hU
    · rw [List.mem_singleton.mp m]
      refine ⟨T, by unfold put; rw [if_pos rfl], ?_⟩
      rw [upd_ne (fun z => by rw [z, hD] at hT; cases hT)]
      exact hT
theorem valV_find {ns : List Nat} {F : Nat → V} {i : Int} : valV (dV ns F) (.inl i) = (ns.find? fun n : Nat => decide ((n : Int) = i)).map F := by
  unfold valV dV
  rw [List.find?_map, Option.map_map]
  have e : ((fun kv : Key × V => decide (kv.1 = Sum.inl i)) ∘ fun p => (ky p, F p)) = fun n : Nat => decide ((n : Int) = i) := funext fun n => by
    show decide (ky n = Sum.inl i) = _
    rw [Bool.eq_iff_iff, decide_eq_true_eq, decide_eq_true_eq]
    exact ⟨fun h => Sum.inl.inj h, fun h => congrArg Sum.inl h⟩
  show Option.map _ (List.find? ((fun kv : Key × V => decide (kv.1 = Sum.inl i)) ∘ fun p => (ky p, F p)) ns) = _
  rw [e]
  rfl
theorem SpD.get {g : Span → List V} {G : Hp} {D : Addr} {L : List Span} {i : Int} (h : SpD g G D L) : ∃ o, DGet G D (.int i) o ∧ o.isSome = (spanN L (.int i)).isSome ∧ ∀ s, spanN L (.int i) = some s → ∃ T, o = some (.ref T) ∧ G T = some (.tup (g s)) := by
  obtain ⟨F, hD, hs⟩ := h
  have e : valV (dV (L.map Span.n) F) (.inl i) = (spanN L (.int i)).map fun s => F s.n := by
    rw [valV_find, List.find?_map, Option.map_map]
    rfl
  refine ⟨_, DGet.k (k := Sum.inl i) hD, by rw [e, Option.isSome_map], fun s es => ?_⟩
  have m : s ∈ L := List.mem_of_find?_eq_some es
  obtain ⟨T, e1, h1⟩ := hs s m
  exact ⟨T, by rw [e, es, Option.map_some, e1], h1⟩
theorem td_cs {K : PySem.W.Frag} {H : Hp} {x : V} {d : PyData} : ∀ {n : Nat}, TD K H n x d → (x = .non ∧ d = .none) ∨ (∃ b, x = .bl b ∧ d = .bool b) ∨ (∃ i, x = .int i ∧ d = .int i) ∨ (∃ z, x = .str z ∧ d = .str z) ∨
    (∃ a xs ds, x = .ref a ∧ H a = some (.lst xs) ∧ d = .list ds ∧ xs.length = ds.length ∧ ds.length ≤ 1000 ∧ ∀ (i : Nat) (u : V) (e : PyData), xs[i]? = some u → ds[i]? = some e → TD K H (n - 1) u e) ∨ (∃ a xs ds, x = .ref a ∧ SqT K H a xs ∧ d = .tuple ds ∧ xs.length = ds.length ∧ ds.length ≤ 1000) ∨
    ∃ a ps m, x = .ref a ∧ H a = some (.dK (mV ps m)) ∧ d = .dict (ps.map fun p : Nat => (.int (p : Int), .int (m p : Int))) := by
  have fl : ∀ {x : V} {d : PyData}, FlatD x d → (x = .non ∧ d = .none) ∨ (∃ b, x = .bl b ∧ d = .bool b) ∨ (∃ i, x = .int i ∧ d = .int i) ∨ (∃ z, x = .str z ∧ d = .str z) := fun h => by
    cases h
    · exact .inl ⟨rfl, rfl⟩
    · exact .inr (.inl ⟨_, rfl, rfl⟩)
    · exact .inr (.inr (.inl ⟨_, rfl, rfl⟩))
    · exact .inr (.inr (.inr ⟨_, rfl, rfl⟩))
  intro n h
  cases n with
  | zero =>
    rcases fl h with h | h | h | h
    · exact .inl h
    · exact .inr (.inl h)
    · exact .inr (.inr (.inl h))
    · exact .inr (.inr (.inr (.inl h)))
  | succ n =>
    rcases h with h | ⟨a, xs, ds, rfl, l, l1, t, c⟩ | ⟨a, ps, m, rfl, _, ha, rfl⟩
    · rcases fl h with h | h | h | h
      · exact .inl h
      · exact .inr (.inl h)
      · exact .inr (.inr (.inl h))
      · exact .inr (.inr (.inr (.inl h)))
    · rcases t with ⟨ha, rfl⟩ | ⟨ha, rfl⟩
      · exact .inr (.inr (.inr (.inr (.inl ⟨a, xs, ds, rfl, ha, rfl, l, l1, c⟩))))
      · exact .inr (.inr (.inr (.inr (.inr (.inl ⟨a, xs, ds, rfl, ha, rfl, l, l1⟩)))))
    · exact .inr (.inr (.inr (.inr (.inr (.inr ⟨a, ps, m, rfl, ha, rfl⟩)))))
theorem td_int {K : PySem.W.Frag} {H : Hp} {n : Nat} {x : V} {z : Int} (h : TD K H n x (.int z)) : x = .int z := by
  rcases (td_cs h) with ⟨rfl, e⟩ | ⟨b, rfl, e⟩ | ⟨i, rfl, e⟩ | ⟨z, rfl, e⟩ | ⟨a, xs, ds, rfl, ha, e, r⟩ | ⟨a, xs, ds, rfl, ha, e, _⟩ | ⟨a, ps, m, rfl, ha, e⟩
  · cases e
  · cases e
  · cases e
    rfl
  · cases e
  · cases e
  · cases e
  · cases e
theorem spanN_cnt {L : List Span} {d : PyData} (h : cntB d = false) : (spanN L d).isSome = false := by
  cases d with
  | int i =>
    unfold spanN
    have : ¬ i ≥ 0 := of_decide_eq_false h
    rw [Option.isSome_eq_false_iff, Option.isNone_iff_eq_none, List.find?_eq_none]
    intro s _ z
    have := of_decide_eq_true z
    omega
  | _ => rfl
theorem all_bl {K : PySem.W.Frag} {n : Nat} {c : Nat → Bool} {H : Hp} {D : Addr} (hR : H D = some (.lst ((List.range n).filterMap fun i => some (V.bl (c i))))) : SqL K H D (((List.range n).map c).map V.bl) ∧ ((List.range n).map c).all id = (List.range n).all c := by
  constructor
  · have e : ((List.range n).filterMap fun i => some (V.bl (c i))) = ((List.range n).map c).map V.bl := by
      rw [List.map_map, List.filterMap_eq_map']
      rfl
    rw [e] at hR
    exact SqL.of hR
  · rw [List.all_map]
    rfl
def gP (s : Span) : List V := [.int (s.f : Int), .int (s.l : Int)]
theorem ownB_list {es : List Ev} {p : Nat} {d : PyData} (h : ∀ ds, d ≠ .list ds) : ownB es p d = false := by
  unfold ownB
  split
  · next ds _ _ => exact absurd rfl (h ds)
  · rfl
theorem all_get {f : PyData → Bool} {ds : List PyData} : (List.range ds.length).all (fun i => f (ds.getD i .none)) = ds.all f := by
  rw [Bool.eq_iff_iff, List.all_eq_true, List.all_eq_true]
  constructor
  · intro h d hd
    obtain ⟨i, hi⟩ := List.mem_iff_getElem?.mp hd
    have := h i (List.mem_range.mpr (List.getElem?_eq_some_iff.mp hi).1)
    rw [List.getD_eq_getElem?_getD, hi] at this
    exact this
  · intro h i hi
    have hi := List.mem_range.mp hi
    rw [List.getD_eq_getElem?_getD, List.getElem?_eq_getElem hi]
    exact h _ (List.getElem_mem hi)
theorem td_ls {K : PySem.W.Frag} {H : Hp} {n : Nat} {x : V} {d : PyData} (h : TD K H n x d) : (∃ t, TyX K H x (.type t) ∧ kitB t "list" = some false ∧ ∀ ds, d ≠ .list ds) ∨ ∃ a xs ds, x = .ref a ∧ H a = some (.lst xs) ∧ d = .list ds ∧ xs.length = ds.length ∧ ds.length ≤ 1000 ∧ ∀ (i : Nat) (u : V) (e : PyData), xs[i]? = some u → ds[i]? = some e → TD K H (n - 1) u e := by
  rcases (td_cs h) with ⟨rfl, rfl⟩ | ⟨b, rfl, rfl⟩ | ⟨i, rfl, rfl⟩ | ⟨z, rfl, rfl⟩ | ⟨a, xs, ds, rfl, ha, rfl, r⟩ | ⟨a, xs, ds, rfl, ha, rfl, _⟩ | ⟨a, ps, m, rfl, ha, rfl⟩
  · exact .inl ⟨"NoneType", .base .non, by decide +kernel, fun _ z => nomatch z⟩
  · exact .inl ⟨"bool", .base (.bl b), by decide +kernel, fun _ z => nomatch z⟩
  · exact .inl ⟨"int", .base (.int i), by decide +kernel, fun _ z => nomatch z⟩
  · exact .inl ⟨"str", .base (.str z), by decide +kernel, fun _ z => nomatch z⟩
  · exact .inr ⟨a, xs, ds, rfl, ha, rfl, r⟩
  · exact .inl ⟨"tuple", sqT_ty ha, by decide +kernel, fun _ z => nomatch z⟩
  · exact .inl ⟨"dict", .base (.dK ha), by decide +kernel, fun _ z => nomatch z⟩
section
variable {P : Program} {w : World} {K : PySem.W.Frag} {mg : Str → Option Value} {base : Heap}
abbrev s_are_apart_lines : Stmt := top 41
abbrev N_are_apart_lines : List Str := ["life", "places", "value", "apart", "spans", "number", "first", "last", "one", "other"]
theorem sc_are_apart_lines : FnScope N_are_apart_lines ["life", "places", "value"] (defScope s_are_apart_lines) := ⟨rfl, rfl, rfl, by decide +kernel, rfl, by decide +kernel, by decide +kernel⟩
theorem ok_are_apart_lines {f : Addr} {fd : FuncData} (F : FnP K "are_apart_lines" s_are_apart_lines f fd) (Z : FreeS mg)
    {f_need_life_and_places : Addr} {d_need_life_and_places : FuncData} (g_need_life_and_places : mg "need_life_and_places" = some (.ref f_need_life_and_places)) (F_need_life_and_places : FnP K "need_life_and_places" s_need_life_and_places f_need_life_and_places d_need_life_and_places) (G_need_life_and_places : FnOk P w K mg base (L2.CX P w) 7 f_need_life_and_places d_need_life_and_places ["life", "places"] (spNeedLP K))
    {f_spans_apart : Addr} {d_spans_apart : FuncData} (g_spans_apart : mg "spans_apart" = some (.ref f_spans_apart)) (F_spans_apart : FnP K "spans_apart" s_spans_apart f_spans_apart d_spans_apart) (G_spans_apart : FnOk P w K mg base CX0 7 f_spans_apart d_spans_apart ["life", "places"] (spApart K))
    {f_spans_of : Addr} {d_spans_of : FuncData} (g_spans_of : mg "spans_of" = some (.ref f_spans_of)) (F_spans_of : FnP K "spans_of" s_spans_of f_spans_of d_spans_of) (G_spans_of : FnOk P w K mg base CX0 6 f_spans_of d_spans_of ["life", "places"] (spSpans K))
    {f_is_count : Addr} {d_is_count : FuncData} (g_is_count : mg "is_count" = some (.ref f_is_count)) (F_is_count : FnP K "is_count" s_is_count f_is_count d_is_count) (G_is_count : FnOk P w K mg base CX0 2 f_is_count d_is_count ["value"] (spCount K)) :
    FnOk P w K mg base (L2.CX P w) 8 f fd ["life", "places", "value"] (spAreApart K) := by
  have b_need_life_and_places : Binds K d_need_life_and_places ["life", "places"] [] := F_need_life_and_places.bindsN fun _ _ _ _ _ _ us hl => match us, hl with | [_, _], _ => rfl
  have b_spans_apart : Binds K d_spans_apart ["life", "places"] [] := F_spans_apart.bindsN fun _ _ _ _ _ _ us hl => match us, hl with | [_, _], _ => rfl
  have b_spans_of : Binds K d_spans_of ["life", "places"] [] := F_spans_of.bindsN fun _ _ _ _ _ _ us hl => match us, hl with | [_, _], _ => rfl
  have b_is_count : Binds K d_is_count ["value"] [] := F_is_count.bindsN fun _ _ _ _ _ _ us hl => match us, hl with | [_], _ => rfl
  refine F.ok sc_are_apart_lines (fun vs H Q E h => ?_) (fun cdv A outer s H vs Q E hr h => ?_)
  · rcases h with ⟨x, y, z, rfl, _⟩ | ⟨a, es, y, z, rfl, _⟩ | ⟨a, x, es, p, n, d, rfl, _⟩ <;> rfl
  · have hh := h
    clear h
    have hu : _ + 65 < cLine := Nat.lt_of_le_of_lt (Nat.add_le_add_left (by decide : 65 ≤ 200) _) (Nat.lt_of_le_of_lt (Nat.add_le_add_right (Nat.le_add_right _ _) _) hr.un)
    have hu0 := hu
    have hu := Nat.lt_of_le_of_lt (Nat.add_le_add_left (by decide : 1 ≤ 65) _) hu0
    have nd := sc_are_apart_lines.nd
    refine ⟨_, id (pss_cons (ps_expr (pe_call G_need_life_and_places (hr.mono (by decide)) rfl g_need_life_and_places F_need_life_and_places.kp b_need_life_and_places .nil (passes_call (takes_of rfl rfl rfl rfl) (fun _ _ _ _ h => h)) (pa_cons (pv 0) (pa_cons (pv 1) (pa_nil)))))
      (pss_cons (ps_set (i := 3) nd rfl (Or.inl rfl) (pe_call G_spans_apart (hr.mono (by decide)) rfl g_spans_apart F_spans_apart.kp b_spans_apart .nil pass0 (pa_cons (pv 0) (pa_cons (pv 1) (pa_nil)))))
      (pss_cons (ps_if (PW.pt (pw_or (pt_cmpR op_isN (pv 3) (pe_non) (nomark _)) (pw_or (pt_not (pt_val (pe_callB call_isi (by rfl) Z.isi (by decide +kernel) (pa_cons (pv 2) (pa_cons (pe_bltn (v := .ty "list") (by rfl) Z.tlist (by decide +kernel) rfl) pa_nil))))) (pw_or1 (pt_cmpR op_ne (pe_callB call_len_seq (by rfl) Z.len (by decide +kernel) (pa_cons (pv 2) (pa_nil))) (pe_callB call_len_seq (by rfl) Z.len (by decide +kernel) (pa_cons (pv 3) (pa_nil))) (nomark _)))))) (pss_one (ps_ret (pe_bl))) (pss_nil))
      (pss_cons (ps_set (i := 4) nd rfl (Or.inr rfl) (pe_dc (own := [("number", 5), ("first", 6), ("last", 7)]) (g := gTup K 3 (gCons (gName 5) (gCons (gName 6) (gCons (gName 7) (gNil))))) (tt := tYes) (tk := tVar 5) (tv := tTup (tCons (tVar 6) (tCons (tVar 7) (tNil)))) rfl nd (pi_list (pe_call G_spans_of (hr.mono (by decide)) rfl g_spans_of F_spans_of.kp b_spans_of .nil pass0 (pa_cons (pv 0) (pa_cons (pv 1) (pa_nil))))) (blkOk_by (own := [("number", 5), ("first", 6), ("last", 7)]) (N := N_are_apart_lines) (sc := defScope s_are_apart_lines) (by decide +kernel)) (fun _ _ _ _ _ => pg_tup rfl (pgs_cons (pg_name (i := 5) nd rfl (Or.inl rfl)) (pgs_cons (pg_name (i := 6) nd rfl (Or.inl rfl)) (pgs_cons (pg_name (i := 7) nd rfl (Or.inl rfl)) (pgs_nil))))) (fun _ _ _ _ _ => pts_nil) (fun _ _ _ _ _ => pv 5) (fun _ _ _ _ _ => pe_tup (pa_cons (pv 6) (pa_cons (pv 7) (pa_nil))))))
      (pss_cons (ps_if (pt_not (pt_val (pe_callB (cr_all rfl) (by rfl) Z.all (by decide +kernel) (pa_cons (pe_lc (own := [("number", 5)]) (g := gName 5) (tt := tYes) (te := tAndV (tCall (spCount K) [] E0 (tCons (tVar 5) (tNil))) (tDIn (tVar 5) (tVar 4))) (by rfl) nd (pi_list (pv 2))
          (blkOk_by (own := [("number", 5)]) (N := N_are_apart_lines) (sc := defScope s_are_apart_lines) (by decide +kernel)) (fun _ _ _ _ _ => pg_name (i := 5) nd rfl (Or.inl rfl)) (fun _ _ _ _ _ => pts_nil)
          (fun _ _ _ _ _ => pe_and (pe_call G_is_count (hr.mono (by decide)) rfl g_is_count F_is_count.kp b_is_count .nil pass0 (pa_cons (pv 5) (pa_nil))) (pe_one (pe_cmp (pc_din hu (pv 5) (pv 4)))))) (pa_nil))))) (pss_one (ps_ret (pe_bl))) (pss_nil))
      (pss_one (ps_ret (pe_callB (cr_all rfl) (by rfl) Z.all (by decide +kernel) (pa_cons (pe_lc (own := [("one", 8), ("other", 9)]) (g := gTup K 2 (gCons (gName 8) (gCons (gName 9) (gNil)))) (tt := tYes) (te := tOp (rI0 fun i j => .bl (decide (i < j))) (tOp (rIxT K) (tDGet (tVar 4) (tVar 8)) (tC (.int 1))) (tOp (rIxT K) (tDGet (tVar 4) (tVar 9)) (tC (.int 0)))) (by rfl) nd (pi_zip (by rfl) Z.zip (pa_cons (pv 2) (pa_cons (pe_slice sl_list (pv 2) (po_some (pe_int)) (po_none)) (pa_nil))))
          (blkOk_by (own := [("one", 8), ("other", 9)]) (N := N_are_apart_lines) (sc := defScope s_are_apart_lines) (by decide +kernel)) (fun _ _ _ _ _ => pg_tup rfl (pgs_cons (pg_name (i := 8) nd rfl (Or.inl rfl)) (pgs_cons (pg_name (i := 9) nd rfl (Or.inl rfl)) (pgs_nil)))) (fun _ _ _ _ _ => pts_nil)
          (fun _ _ _ _ _ => pe_cmpR op_lt (pe_ix ix_tup (pe_dget hu (pv 4) (pv 8) (fun _ _ => rfl)) (pe_int) (fun _ _ => rfl)) (pe_ix ix_tup (pe_dget hu (pv 4) (pv 9) (fun _ _ => rfl)) (pe_int) (fun _ _ => rfl)) (nomark _))) (pa_nil)))))))))), ?_⟩
    rcases hh with ⟨x, y, z, rfl, ho, k⟩ | ⟨a, es, y, z, rfl, hL, hV, hy, k⟩ | ⟨a, x, es, p, n, d, rfl, hL, hV, hp, hx, k⟩
    · exact ⟨_, rfl, _, rfl, .inl ⟨x, y, rfl, ho, k⟩⟩
    · exact ⟨_, rfl, _, rfl, .inr (.inl ⟨a, es, y, rfl, hL, hV, hy, k⟩)⟩
    have sl : (3000 : Nat) ≤ sizeLine := by decide
    have l200 := hV.len
    refine ⟨_, rfl, _, rfl, .inr (.inr ⟨a, es, (p : Int), rfl, hL, hV, by omega, fun H1 s1 => ?_⟩)⟩
    refine ⟨_, rfl, _, rfl, a, es, p, rfl, hL.same s1, l200, (fun hn H2 s2 => ?_), (fun c hc q H2 s2 hq hP => ?_)⟩
    · have e : ownB es p d = false := by unfold ownB; rw [hn]
      rw [e] at k
      refine ⟨_, rfl, rfl, _, rfl, iteT ?_⟩
      exact iteT (k _ (s1.trans s2))
    · refine ⟨_, rfl, rfl, _, rfl, iteF ?_⟩
      obtain ⟨sp, hsp, ec⟩ : ∃ sp, spansOf es p = some sp ∧ c = greedy 0 sp := by
        obtain ⟨sp, h1, h2⟩ := Option.map_eq_some_iff.mp hc
        exact ⟨sp, h1, h2.symm⟩
      have hx2 := hx.same (s1.trans s2)
      have s12 := s1.trans s2
      obtain ⟨zs, hzs, pzs⟩ := id hP
      have lzs := paired_len pzs
      have lc := cs_len hc
      rcases td_ls hx2 with ⟨t, ty, kb, nl⟩ | ⟨v, xs, ds, rfl, hv, rfl, lx, l1, kx⟩
      · have e : ownB es p d = false := ownB_list nl
        rw [e] at k
        exact ⟨_, rfl, x, .ty "list", .type t, .type "list", false, rfl, .ty _, ty, kit_ty kb, false, rfl, iteT (iteT (k _ s12))⟩
      · have eO : ownB es p (.list ds) = ownL c sp ds := by
          unfold ownB
          rw [hc, hsp]
        rw [eO] at k
        unfold ownL at k
        refine ⟨_, rfl, .ref v, .ty "list", .type "list", .type "list", true, rfl, .ty _, .base (.lst hv), kit_ty (by decide +kernel), true, rfl, iteF ?_⟩
        refine ⟨_, rfl, v, xs, rfl, .inl (SqL.of hv), _, rfl, q, zs, rfl, .inl (SqL.of hzs), rfl, _, rfl, ?_⟩
        by_cases el : ds.length = c.length
        rotate_left
        · rw [decide_eq_false el, Bool.false_and] at k
          refine itePos ?_ (k _ s12)
          rw [decide_eq_false (fun z => el (by have := V.int.inj z; omega))]
          rfl
        · rw [decide_eq_true el, Bool.true_and] at k
          refine iteNeg (by rw [decide_eq_true (show V.int (xs.length : Int) = V.int (zs.length : Int) by rw [lx, el, lzs])]; exact Bool.false_ne_true) ?_
          refine ⟨_, rfl, _, rfl, a, es, p, rfl, hL.same s12, l200, (fun hn => by rw [hsp] at hn; cases hn), (fun L' hL' q2 H3 s3 hq2 hP2 => ?_)⟩
          rw [hsp] at hL'
          obtain rfl := Option.some.inj hL'
          obtain ⟨us, hus, pus⟩ := id hP2
          have lus := paired_len pus
          have lsp := spans_len hsp
          obtain ⟨so, _, spw⟩ := spans_mem hsp
          refine ⟨q2, rfl, ⟨_, SqL.of hus⟩, fun D hD => ?_⟩
          have hv3 := s3 _ _ hv
          refine dc_walk (walk_list (K := K) (a := q2) (xs := us)) (fun i G => Same H3 G ∧ SpD gP G D (sp.take i))
            ⟨Same.updf hD, fun _ => .non, upd_same, fun s m => by simp at m⟩ (fun i G _ hh => SqL.of (hh.1 _ _ hus)) ?_ ?_
          · rintro i y G G' hi ⟨sG, hSp⟩ ⟨rfl, hy⟩
            obtain ⟨s, es1, t, rfl, ht⟩ := paired_get2 pus hy
            refine ⟨t, [_, _, _], rfl, .inl (.inl (sG _ _ ht)), rfl, _, [_, _], rfl, _, [_], rfl, _, [], rfl, rfl, ?_⟩
            refine ⟨rfl, _, rfl, _, rfl, _, rfl, (by show 2 ≤ sizeLine; omega), fun T hT => ?_⟩
            have sT := Same.updf (o := .tup [V.int (s.f : Int), V.int (s.l : Int)]) hT
            have ns : s.n ∉ (sp.take i).map Span.n := fun m => by
              obtain ⟨u, mu, e⟩ := List.mem_map.mp m
              obtain ⟨j, hj⟩ := List.mem_iff_getElem?.mp mu
              rw [List.getElem?_take] at hj
              split at hj
              · next lt =>
                obtain ⟨h1, h2⟩ := List.getElem?_eq_some_iff.mp hj
                obtain ⟨h3, h4⟩ := List.getElem?_eq_some_iff.mp es1
                have := (List.pairwise_iff_getElem.mp spw j i h1 h3 lt).1
                rw [h2, h4] at this
                omega
              · cases hj
            obtain ⟨kvs, k1, k2, k3⟩ := (hSp.same sT).add (T := T) (s := s) (by rw [upd_same]; rfl) ns
            refine ⟨kvs, ky s.n, rfl, k1, by rw [k2, List.length_take]; omega, fun c o e => ?_, ?_⟩
            · rw [upd_ne (ne_of_none e hD)]
              exact sT _ _ (sG _ _ e)
            · rw [List.take_succ, es1]
              exact k3
          · rintro G ⟨sG, hSp⟩
            rw [← lus, List.take_length] at hSp
            have hvG := sG _ _ hv3
            have kxG : ∀ (i : Nat) (u : V) (e : PyData), xs[i]? = some u → ds[i]? = some e → TD K G (n - 1) u e := fun i u e h1 h2 => (kx i u e h1 h2).same (s3.trans sG)
            have sHG : Same H G := (s12.trans s3).trans sG
            refine ⟨_, rfl, v, rfl, ⟨_, SqL.of hvG⟩, fun D2 hD2 => ?_⟩
            refine lc_sel (n := xs.length) (walk_list (K := K) (a := v) (xs := xs)) (fun i => some (V.bl (spanN sp (ds.getD i .none)).isSome)) (by omega) hD2 (fun G2 s => SqL.of (s _ _ hvG)) ?_ ?_
            · rintro i y G2 G3 Qy Qn hi sg ⟨rfl, hy⟩ ky_ kn
              have ed : ds[i]? = some (ds.getD i .none) := by
                rw [List.getD_eq_getElem?_getD, List.getElem?_eq_getElem (show i < ds.length by omega)]
                rfl
              have hd := (kxG i y _ hy ed).same sg
              obtain ⟨e, ee⟩ : ∃ e, e = ds.getD i PyData.none := ⟨_, rfl⟩
              rw [← ee] at hd ky_
              refine ⟨rfl, _, rfl, y, cntB e, rfl, CntV.td hd, _, rfl, ?_⟩
              cases cc : cntB e with
              | false => exact iteF (ky_ _ _ (Same.refl _) (by rw [spanN_cnt cc]))
              | true =>
                obtain ⟨z, rfl⟩ : ∃ z, e = .int z := by
                  cases e with
                  | int z => exact ⟨z, rfl⟩
                  | _ => cases cc
                obtain rfl := td_int hd
                obtain ⟨o, h1, h2, h3⟩ := (hSp.same sg).get (i := z)
                rw [← h2] at ky_
                exact iteT ⟨_, rfl, _, rfl, D, o, rfl, h1, ky_ _ _ (Same.refl _) rfl⟩
            · intro G2 sg hR
              obtain ⟨hB, eB⟩ := all_bl (K := K) hR
              have eA : ((List.range xs.length).map fun i => (spanN sp (ds.getD i .none)).isSome).all id = ds.all fun e => (spanN sp e).isSome := by
                rw [eB, lx]
                exact all_get (f := fun e => (spanN sp e).isSome)
              refine ⟨D2, _, rfl, hB, _, rfl, ?_⟩
              rw [eA]
              cases ca : ds.all fun e => (spanN sp e).isSome with
              | false =>
                rw [ca, Bool.false_and] at k
                exact iteT (k _ (sHG.trans sg))
              | true =>
                rw [ca, Bool.true_and] at k
                refine iteF ?_
                have hvG2 := sg _ _ hvG
                have all1 : ∀ i, (hi : i < ds.length) → ∃ z s, ds.getD i .none = .int z ∧ xs[i]? = some (.int z) ∧ spanN sp (.int z) = some s := fun i hi => by
                  have ed : ds[i]? = some (ds.getD i .none) := by
                    rw [List.getD_eq_getElem?_getD, List.getElem?_eq_getElem hi]
                    rfl
                  have q := List.all_eq_true.mp ca _ (List.mem_of_getElem? ed)
                  obtain ⟨s, es⟩ := Option.isSome_iff_exists.mp q
                  obtain ⟨y, ey⟩ : ∃ y, xs[i]? = some y := ⟨_, List.getElem?_eq_getElem (by omega)⟩
                  have hd := kxG i y _ ey ed
                  obtain ⟨e, ee⟩ : ∃ e, e = ds.getD i PyData.none := ⟨_, rfl⟩
                  rw [← ee] at hd es ⊢
                  cases e with
                  | int z =>
                    obtain rfl := td_int hd
                    exact ⟨z, s, rfl, ey, es⟩
                  | _ => cases es
                refine ⟨_, rfl, _, rfl, _, rfl, v, _, rfl, SqL.of hvG2, fun w2 hw2 => ?_⟩
                rw [cut_tl]
                have s7 := Same.updf (o := .lst (xs.drop 1)) hw2
                obtain ⟨G5, eG5⟩ : ∃ G5, G5 = upd G2 w2 (.lst (xs.drop 1)) := ⟨_, rfl⟩
                rw [← eG5] at s7 ⊢
                have hw5 : G5 w2 = some (.lst (xs.drop 1)) := by rw [eG5]; exact upd_same
                have hv5 := s7 _ _ hvG2
                refine ⟨v, w2, _, _, rfl, SqL.of hv5, SqL.of hw5, fun D3 hD3 => ?_⟩
                refine lc_sel (n := ds.length - 1) (walk_zip (K := K) (a := v) (b := w2) (xs := xs) (ys := xs.drop 1) (by rw [List.length_drop]; omega)) (fun i => some (V.bl (adjB (spanN sp (ds.getD i .none)) (spanN sp (ds.getD (i + 1) .none))))) (by omega) hD3 (fun G6 s => ⟨SqL.of (s _ _ hv5), SqL.of (s _ _ hw5)⟩) ?_ ?_
                · rintro i y G6 G7 Qy Qn hi s6 ⟨T, x1, x2, rfl, nT, rfl, g1, g2⟩ ky_ kn
                  dsimp only at g1 g2
                  obtain ⟨z1, s1', a1, a2, a3⟩ := all1 i (by omega)
                  obtain ⟨z2, s2', b1, b2, b3⟩ := all1 (i + 1) (by omega)
                  rw [a2] at g1
                  rw [List.getElem?_drop, Nat.add_comm 1 i, b2] at g2
                  obtain rfl := Option.some.inj g1
                  obtain rfl := Option.some.inj g2
                  rw [a1, b1, a3, b3] at ky_
                  have sT := Same.updf (o := .tup [V.int z1, V.int z2]) nT
                  have hSp7 := ((((hSp.same sg).same s7).same s6).same sT)
                  obtain ⟨o1, c1, _, c3⟩ := hSp7.get (i := z1)
                  obtain ⟨o2, d1, _, d3⟩ := hSp7.get (i := z2)
                  obtain ⟨T1, rfl, e1⟩ := c3 _ a3
                  obtain ⟨T2, rfl, e2⟩ := d3 _ b3
                  refine ⟨T, [_, _], rfl, .inl (.inl upd_same), rfl, _, [_], rfl, _, [], rfl, rfl, ?_⟩
                  refine ⟨rfl, _, rfl, _, rfl, D, _, rfl, c1, T1, _, 1, .int (s1'.l : Int), rfl, rfl, SqT.of e1, rfl, _, rfl, _, rfl, D, _, rfl, d1, T2, _, 0, .int (s2'.f : Int), rfl, rfl, SqT.of e2, rfl, _, _, rfl, rfl, ky_ _ _ sT ?_⟩
                  show some (V.bl (decide (s1'.l < s2'.f))) = some (V.bl (decide ((s1'.l : Int) < (s2'.f : Int))))
                  refine congrArg (fun b => some (V.bl b)) ?_
                  rw [Bool.eq_iff_iff, decide_eq_true_eq, decide_eq_true_eq]
                  omega
                · intro G6 s6 hR6
                  obtain ⟨hB6, eB6⟩ := all_bl (K := K) hR6
                  refine ⟨D3, _, rfl, hB6, ?_⟩
                  rw [eB6]
                  exact k _ (((sHG.trans sg).trans s7).trans s6)
end
end K36
set_option Elab.async false
set_option linter.all false
set_option maxRecDepth 100000
set_option maxHeartbeats 8000000
/-! Sizes of discs. -/
namespace K36
open PySem PySem.Spec PyProof.Rows L2 KB
def spTwoC (K : PySem.W.Frag) : Sp := fun vs H Q E => (∃ x y, vs = [x, y] ∧ No1 K H x ∧ Rs (cCnt K) x H E) ∨ (∃ (i : Int) (y : V), vs = [.int i, y] ∧ 1 ≤ i ∧ No1 K H y ∧ Rs (cCnt K) y H E) ∨ ∃ i j : Int, vs = [.int i, .int j] ∧ 1 ≤ i ∧ 1 ≤ j ∧ ∀ H', Same H H' → Q .non H'
def spTwoG (K : PySem.W.Frag) (G : Int → Int → Int) : Sp := fun vs H Q E => (∃ x y, vs = [x, y] ∧ No1 K H x ∧ Rs (cCnt K) x H E) ∨ (∃ (i : Int) (y : V), vs = [.int i, y] ∧ 1 ≤ i ∧ No1 K H y ∧ Rs (cCnt K) y H E) ∨ ∃ i j : Int, vs = [.int i, .int j] ∧ 1 ≤ i ∧ 1 ≤ j ∧ i ≤ 100000 ∧ j ≤ 100000 ∧ ∀ H', Same H H' → Q (.int (G i j)) H'
def spDiscC (K : PySem.W.Frag) : Sp := spTwoG K fun i j => 61 * i + 20 * j
def spMostP (K : PySem.W.Frag) : Sp := spTwoG K fun i j => max 0 ((i - 61 * j) / 20)
section
variable {P : Program} {w : World} {K : PySem.W.Frag} {mg : Str → Option Value} {base : Heap}
abbrev s_need_two_counts : Stmt := top 45
abbrev N_need_two_counts : List Str := ["one", "other", "number"]
theorem sc_need_two_counts : FnScope N_need_two_counts ["one", "other"] (defScope s_need_two_counts) := ⟨rfl, rfl, rfl, by decide +kernel, rfl, by decide +kernel, by decide +kernel⟩
theorem ok_need_two_counts {f : Addr} {fd : FuncData} (F : FnP K "need_two_counts" s_need_two_counts f fd) (Z : FreeS mg)
    {f_is_count_from_one : Addr} {d_is_count_from_one : FuncData} (g_is_count_from_one : mg "is_count_from_one" = some (.ref f_is_count_from_one)) (F_is_count_from_one : FnP K "is_count_from_one" s_is_count_from_one f_is_count_from_one d_is_count_from_one) (G_is_count_from_one : FnOk P w K mg base CX0 3 f_is_count_from_one d_is_count_from_one ["value"] (spFrom1 K)) (ER : ErrOk P w K mg base "InvalidCount" (cCnt K)) :
    FnOk P w K mg base (L2.CX P w) 4 f fd ["one", "other"] (spTwoC K) := by
  have b_is_count_from_one : Binds K d_is_count_from_one ["value"] [] := F_is_count_from_one.bindsN fun _ _ _ _ _ _ us hl => match us, hl with | [_], _ => rfl
  refine F.ok sc_need_two_counts (fun vs H Q E h => ?_) (fun cdv A outer s H vs Q E hr h => ?_)
  · rcases h with ⟨x, y, rfl, _⟩ | ⟨i, y, rfl, _⟩ | ⟨i, j, rfl, _⟩ <;> rfl
  · have hh := h
    clear h
    obtain ⟨⟨fI, fdI, T, F1, EB⟩, gC⟩ := ER
    have sl : (1000 : Nat) ≤ sizeLine := by decide
    have nd := sc_need_two_counts.nd
    refine ⟨_, id (pss_one (ps_for (passes_of rfl) rfl (pi_list (pe_lst (pa_cons (pv 0) (pa_cons (pv 1) (pa_nil))))) (pg_name (i := 2) nd rfl (Or.inl rfl))
        (pss_one (ps_if (pt_not (pt_val (pe_call G_is_count_from_one (hr.mono (by decide)) rfl g_is_count_from_one F_is_count_from_one.kp b_is_count_from_one .nil pass0 (pa_cons (pv 2) (pa_nil))))) (pss_one (ps_raise rfl (takes_of rfl rfl rfl rfl) (pmk_err T F1 EB (hr.mono (by decide)) gC (pv 2)))) (pss_nil))))), ?_⟩
    obtain ⟨u0, u1, m, rfl, h1, h2, h3⟩ : ∃ (u0 u1 : V) (m : Nat), vs = [u0, u1] ∧ (∀ (i : Nat) (u : V), [u0, u1][i]? = some u → i < m → ∃ j : Int, u = .int j ∧ 1 ≤ j) ∧ (∀ (i : Nat) (u : V), [u0, u1][i]? = some u → i = m → No1 K H u ∧ Rs (cCnt K) u H E) ∧ (2 ≤ m → ∀ H', Same H H' → Q .non H') := by
      rcases hh with ⟨x, y, rfl, hn, k⟩ | ⟨i, y, rfl, hi, hn, k⟩ | ⟨i, j, rfl, hi, hj, k⟩
      · refine ⟨x, y, 0, rfl, fun i u _ z => by omega, fun i u e z => ?_, fun z => by omega⟩
        subst z
        cases e
        exact ⟨hn, k⟩
      · refine ⟨.int i, y, 1, rfl, fun t u e z => ?_, fun t u e z => ?_, fun z => by omega⟩
        · obtain rfl : t = 0 := by omega
          cases e
          exact ⟨i, rfl, hi⟩
        · subst z
          cases e
          exact ⟨hn, k⟩
      · refine ⟨.int i, .int j, 2, rfl, fun t u e z => ?_, fun t u e z => ?_, fun _ => k⟩
        · rcases t with _ | _ | t
          · cases e
            exact ⟨i, rfl, hi⟩
          · cases e
            exact ⟨j, rfl, hj⟩
          · cases e
        · subst z
          cases e
    refine ⟨_, rfl, _, rfl, (by show 2 ≤ sizeLine; omega), fun L hL => ⟨L, rfl, ⟨_, SqL.of upd_same⟩, ?_⟩⟩
    have sL := Same.updf (o := .lst [u0, u1]) hL
    refine for_it (walk_list (K := K) (a := L) (xs := [u0, u1])) (fun i σ G => G = upd H L (.lst [u0, u1]) ∧ i ≤ m ∧ ∃ v2, σ = [some u0, some u1, v2])
      ⟨rfl, Nat.zero_le _, none, rfl⟩ (fun i σ G _ hh => by rw [hh.1]; exact SqL.of upd_same) ?_ ?_
    · rintro i x σ G G' hi ⟨rfl, hm, v2, rfl⟩ ⟨rfl, hv⟩
      rcases Nat.lt_or_ge i m with q | q
      · obtain ⟨j, rfl, hj⟩ := h1 i x hv q
        refine ⟨_, rfl, .inl ⟨j, rfl, _, rfl, ?_⟩⟩
        rw [decide_eq_true hj]
        exact iteF ⟨rfl, q, _, rfl⟩
      · obtain ⟨hn, k⟩ := h2 i x hv (by omega)
        have rz : ∀ d, upd H L (.lst [u0, u1]) d = none → E (.ref (cCnt K)) (some d) (upd (upd H L (.lst [u0, u1])) d (.xd [("value", x)])) := fun d hd => k d _ (sL.trans (Same.updf hd)) (none_back sL hd) upd_same
        rcases hn with hn | ⟨j, rfl, hj⟩
        · exact ⟨_, rfl, .inr ⟨x, rfl, hn.up sL, false, rfl, iteT ⟨_, rfl, raise_in rz⟩⟩⟩
        · refine ⟨_, rfl, .inl ⟨j, rfl, _, rfl, ?_⟩⟩
          rw [decide_eq_false (by omega)]
          exact iteT ⟨_, rfl, raise_in rz⟩
    · rintro σ G ⟨rfl, hm, v2, rfl⟩
      exact h3 hm _ sL
abbrev s_disc_cells : Stmt := top 46
abbrev N_disc_cells : List Str := ["pages", "places"]
theorem sc_disc_cells : FnScope N_disc_cells ["pages", "places"] (defScope s_disc_cells) := ⟨rfl, rfl, rfl, by decide +kernel, rfl, by decide +kernel, by decide +kernel⟩
theorem ok_disc_cells {f : Addr} {fd : FuncData} (F : FnP K "disc_cells" s_disc_cells f fd) (Z : FreeS mg)
    {f_need_two_counts : Addr} {d_need_two_counts : FuncData} (g_need_two_counts : mg "need_two_counts" = some (.ref f_need_two_counts)) (F_need_two_counts : FnP K "need_two_counts" s_need_two_counts f_need_two_counts d_need_two_counts) (G_need_two_counts : FnOk P w K mg base (L2.CX P w) 4 f_need_two_counts d_need_two_counts ["one", "other"] (spTwoC K)) (gP : ∃ t, mg "PAGE_CELLS" = some (.int 61 t)) (gQ : ∃ t, mg "PLACE_CELLS" = some (.int 20 t)) :
    FnOk P w K mg base (L2.CX P w) 5 f fd ["pages", "places"] (spDiscC K) := by
  have b_need_two_counts : Binds K d_need_two_counts ["one", "other"] [] := F_need_two_counts.bindsN fun _ _ _ _ _ _ us hl => match us, hl with | [_, _], _ => rfl
  refine F.ok sc_disc_cells (fun vs H Q E h => ?_) (fun cdv A outer s H vs Q E hr h => ?_)
  · rcases h with ⟨x, y, rfl, _⟩ | ⟨i, y, rfl, _⟩ | ⟨i, j, rfl, _⟩ <;> rfl
  · have hh := h
    clear h
    have nd := sc_disc_cells.nd
    refine ⟨_, id (pss_cons (ps_expr (pe_call G_need_two_counts (hr.mono (by decide)) rfl g_need_two_counts F_need_two_counts.kp b_need_two_counts .nil (passes_call (takes_of rfl rfl rfl rfl) (fun _ _ _ _ h => h)) (pa_cons (pv 0) (pa_cons (pv 1) (pa_nil)))))
      (pss_one (ps_ret (pe_op op_add (pe_op op_mul (pe_glob (v := .int 61) (by rfl) gP.choose_spec ⟨_, rfl⟩) (pv 0)) (pe_op op_mul (pe_glob (v := .int 20) (by rfl) gQ.choose_spec ⟨_, rfl⟩) (pv 1)))))), ?_⟩
    rcases hh with ⟨x, y, rfl, hn, k⟩ | ⟨i, y, rfl, hi, hn, k⟩ | ⟨i, j, rfl, hi, hj, li, lj, k⟩
    · exact ⟨_, rfl, _, rfl, .inl ⟨x, y, rfl, hn, k⟩⟩
    · exact ⟨_, rfl, _, rfl, .inr (.inl ⟨i, y, rfl, hi, hn, k⟩)⟩
    · refine ⟨_, rfl, _, rfl, .inr (.inr ⟨i, j, rfl, hi, hj, fun H1 s1 => ?_⟩)⟩
      refine ⟨_, rfl, _, _, rfl, rfl, .inl ⟨by omega, by omega⟩, _, rfl, _, _, rfl, rfl, .inl ⟨by omega, by omega⟩, _, _, rfl, rfl, k _ s1⟩
abbrev s_most_places : Stmt := top 47
abbrev N_most_places : List Str := ["cells", "pages"]
theorem sc_most_places : FnScope N_most_places ["cells", "pages"] (defScope s_most_places) := ⟨rfl, rfl, rfl, by decide +kernel, rfl, by decide +kernel, by decide +kernel⟩
theorem ok_most_places {f : Addr} {fd : FuncData} (F : FnP K "most_places" s_most_places f fd) (Z : FreeS mg)
    {f_need_two_counts : Addr} {d_need_two_counts : FuncData} (g_need_two_counts : mg "need_two_counts" = some (.ref f_need_two_counts)) (F_need_two_counts : FnP K "need_two_counts" s_need_two_counts f_need_two_counts d_need_two_counts) (G_need_two_counts : FnOk P w K mg base (L2.CX P w) 4 f_need_two_counts d_need_two_counts ["one", "other"] (spTwoC K)) (gP : ∃ t, mg "PAGE_CELLS" = some (.int 61 t)) (gQ : ∃ t, mg "PLACE_CELLS" = some (.int 20 t)) :
    FnOk P w K mg base (L2.CX P w) 5 f fd ["cells", "pages"] (spMostP K) := by
  have b_need_two_counts : Binds K d_need_two_counts ["one", "other"] [] := F_need_two_counts.bindsN fun _ _ _ _ _ _ us hl => match us, hl with | [_, _], _ => rfl
  refine F.ok sc_most_places (fun vs H Q E h => ?_) (fun cdv A outer s H vs Q E hr h => ?_)
  · rcases h with ⟨x, y, rfl, _⟩ | ⟨i, y, rfl, _⟩ | ⟨i, j, rfl, _⟩ <;> rfl
  · have hh := h
    clear h
    have nd := sc_most_places.nd
    refine ⟨_, id (pss_cons (ps_expr (pe_call G_need_two_counts (hr.mono (by decide)) rfl g_need_two_counts F_need_two_counts.kp b_need_two_counts .nil (passes_call (takes_of rfl rfl rfl rfl) (fun _ _ _ _ h => h)) (pa_cons (pv 0) (pa_cons (pv 1) (pa_nil)))))
      (pss_one (ps_ret (pe_callB (call_max2 rfl) (by rfl) Z.max (by decide +kernel) (pa_cons (pe_int) (pa_cons (pe_op op_fdiv (pe_op op_sub (pv 0) (pe_op op_mul (pe_glob (v := .int 61) (by rfl) gP.choose_spec ⟨_, rfl⟩) (pv 1))) (pe_glob (v := .int 20) (by rfl) gQ.choose_spec ⟨_, rfl⟩)) (pa_nil))))))), ?_⟩
    rcases hh with ⟨x, y, rfl, hn, k⟩ | ⟨i, y, rfl, hi, hn, k⟩ | ⟨i, j, rfl, hi, hj, li, lj, k⟩
    · exact ⟨_, rfl, _, rfl, .inl ⟨x, y, rfl, hn, k⟩⟩
    · exact ⟨_, rfl, _, rfl, .inr (.inl ⟨i, y, rfl, hi, hn, k⟩)⟩
    · refine ⟨_, rfl, _, rfl, .inr (.inr ⟨i, j, rfl, hi, hj, fun H1 s1 => ?_⟩)⟩
      have k1 : Q (.int (max 0 ((i - 61 * j) / 20))) H1 := k _ s1
      refine ⟨_, rfl, _, rfl, _, _, rfl, rfl, .inl ⟨by omega, by omega⟩, _, _, rfl, rfl, _, _, rfl, rfl, ⟨by decide, by decide⟩, _, _, rfl, ?_⟩
      have e : (if (i - 61 * j) / 20 > 0 then (i - 61 * j) / 20 else 0) = max 0 ((i - 61 * j) / 20) := by
        split <;> omega
      rw [← e] at k1
      exact k1
end
end K36
set_option Elab.async false
set_option linter.all false
set_option maxRecDepth 100000
set_option maxHeartbeats 8000000
namespace K36
open PySem PySem.Spec PyProof.Rows L2 KB
theorem refs_ne_purse {H : Hp} {q pu : Addr} {ts : List Addr} {N : Nat} (hP : Purse H pu N) (h : H q = some (.lst (ts.map V.ref))) : q ≠ pu := fun e => by
  obtain ⟨A, B, c, i, eP, _⟩ := hP
  rw [e, eP] at h
  cases ts with
  | nil => cases h
  | cons t r => cases h
theorem LifeAt.but {K : PySem.W.Frag} {H H' : Hp} {a pu : Addr} {es : List Ev} {N : Nat} (hP : Purse H pu N) (k : But pu H H') (h : LifeAt K H a es) : LifeAt K H' a es := by
  obtain ⟨A, B, c, i, eP, _⟩ := hP
  obtain ⟨ts, h1, h2, h3⟩ := h
  have na : a ≠ pu := fun e => by
    rw [e, eP] at h1
    cases ts with
    | nil => cases h1
    | cons t r => cases h1
  refine ⟨ts, k _ _ na h1, h2, fun j t e e1 e2 => ?_⟩
  have ht := h3 j t e e1 e2
  exact SqT_but k ht ⟨_, eP⟩
def spLife (K : PySem.W.Frag) : Sp := fun vs H Q _ => ∃ (pu : Addr) (mo N : Nat), vs = [.ref pu, .int (mo : Int)] ∧ mo ≤ 20 ∧ Purse H pu N ∧ N ≤ 2 ^ 40 ∧
  ∀ (q : Addr) (es : List Ev) (H' : Hp) (M : Nat), But pu H H' → H q = none → q ≠ pu → LifeAt K H' q es → Valid es → es.length ≤ mo → Purse H' pu M → M ≤ N + 100 → Q (.ref q) H'
section
variable {P : Program} {w : World} {K : PySem.W.Frag} {mg : Str → Option Value} {base : Heap}
abbrev s_life : Stmt := top 54
abbrev N_life : List Str := ["_law_purse_here", "_law_most", "_law_found", "_law_many", "_law_stands", "_law_turn", "_law_way"]
theorem sc_life : FnScope N_life ["_law_purse_here", "_law_most"] (defScope s_life) := ⟨rfl, rfl, rfl, by decide +kernel, rfl, by decide +kernel, by decide +kernel⟩
theorem ok_life {f : Addr} {fd : FuncData} (F : FnP K "_law_life" s_life f fd) (Z : FreeS mg)
    {f_draw : Addr} {d_draw : FuncData} (g_draw : mg "_law_draw" = some (.ref f_draw)) (F_draw : FnP K "_law_draw" s_draw f_draw d_draw) (G_draw : FnOk P w K mg base CX0 2 f_draw d_draw ["_law_purse_here", "_law_many"] spDraw) :
    FnOk P w K mg base CX0 3 f fd ["_law_purse_here", "_law_most"] (spLife K) := by
  have b_draw : Binds K d_draw ["_law_purse_here", "_law_many"] [] := F_draw.bindsN fun _ _ _ _ _ _ us hl => match us, hl with | [_, _], _ => rfl
  refine F.ok sc_life (fun vs H Q E h => ?_) (fun cdv A outer s H vs Q E hr h => ?_)
  · obtain ⟨pu, mo, N, rfl, _⟩ := h
    rfl
  · obtain ⟨pu, mo, N, rfl, hmo, hP, hN, k⟩ := h
    have nd := sc_life.nd
    refine ⟨_, PSs.nox (pss_cons (ps_par3 (i := 2) (j := 3) (l := 4) rfl nd rfl rfl rfl (by decide) (by decide) (by decide) rfl rfl rfl (pa_cons (pe_lst (pa_nil)) (pa_cons (pe_int) (pa_cons (pe_int) (pa_nil)))) rfl)
      (pss_cons (ps_for PassesOwn.never rfl (pi_range1 (by rfl) Z.range (pa_cons (pe_call G_draw (hr.mono (by decide)) rfl g_draw F_draw.kp b_draw .nil pass0 (pa_cons (pv 0) (pa_cons (pe_op op_add (pv 1) (pe_int)) (pa_nil)))) (pa_nil))) (pg_name (i := 5) nd rfl (Or.inl rfl))
        (pss_cons (ps_set (i := 6) nd rfl (Or.inl rfl) (pe_call G_draw (hr.mono (by decide)) rfl g_draw F_draw.kp b_draw .nil pass0 (pa_cons (pv 0) (pa_cons (pe_int) (pa_nil)))))
      (pss_one (ps_if (pt_cmpR op_lt (pv 6) (pe_int) (nomark _)) (pss_one (ps_par (i := 2) (j := 3) rfl nd rfl rfl (by decide) rfl rfl (pa_cons (pe_op op_cat (pv 2) (pe_lst (pa_cons (pe_tup (pa_cons (pe_str) (pa_nil))) (pa_nil)))) (pa_cons (pe_op op_add (pv 3) (pe_int)) (pa_nil))) rfl)) (pss_one (ps_if (pt_cmpR op_lt (pv 6) (pe_int) (nomark _)) (pss_cons (ps_set (i := 4) nd rfl (Or.inl rfl) (pe_op op_add (pv 4) (pe_call G_draw (hr.mono (by decide)) rfl g_draw F_draw.kp b_draw .nil pass0 (pa_cons (pv 0) (pa_cons (pe_op op_add (pe_op op_sub (pv 3) (pv 4)) (pe_int)) (pa_nil))))))
      (pss_one (ps_expr (pe_bm PySem.F.plainAttrs_list PySem.F.slot_list_append PySem.F.type_list_append mt_append (pv 2) (pa_cons (pe_tup (pa_cons (pe_str) (pa_cons (pv 4) (pa_nil)))) (pa_nil)))))) (pss_one (ps_expr (pe_bm PySem.F.plainAttrs_list PySem.F.slot_list_append PySem.F.type_list_append mt_append (pv 2) (pa_cons (pe_tup (pa_cons (pe_str) (pa_nil))) (pa_nil)))))))))))
      (pss_one (ps_ret (pv 2))))), ?_⟩
    refine ⟨(by show 0 ≤ sizeLine; decide), fun q0 hq0 => ⟨_, _, _, rfl, ?_⟩⟩
    have s0 : Same H (upd H q0 (.lst [])) := Same.updf hq0
    have mx : ∀ m : Int, 1 ≤ m → m < 100 → mixes m = 1 := fun m h1 h2 => mixes_one h1 (by omega)
    refine ⟨_, rfl, _, rfl, _, _, rfl, rfl, ?_⟩
    refine ⟨pu, (mo : Int) + 1, N, rfl, by omega, log_small (by omega) (by omega), hP.same s0, by rw [mx _ (by omega) (by omega)]; omega, by rw [mx _ (by omega) (by omega)]; decide, fun r H1 r0 r1 b1 P1 => ?_⟩
    rw [mx _ (by omega) (by omega)] at P1
    obtain ⟨n, rfl⟩ : ∃ n : Nat, r = n := ⟨r.toNat, by omega⟩
    have nq0 : q0 ≠ pu := fresh_ne hP hq0
    have tn : ((n : Int)).toNat = n := Int.toNat_natCast n
    refine ⟨(n : Int), rfl, by omega, by omega, ?_⟩
    rw [tn]
    refine for_range (lo := 0) (n := n) (fun i σ H2 => But pu H H2 ∧ (∃ M, Purse H2 pu M ∧ M ≤ N + 1 + 2 * i) ∧ ∃ (q : Addr) (es : List Ev) (v5 v6 : Option V) (W S : Int), H q = none ∧ LifeAt K H2 q es ∧ Valid es ∧ es.length = i ∧ W = ((stAt es es.length).w : Int) ∧ S = ((stAt es es.length).s : Int) ∧
        σ = [some (.ref pu), some (.int (mo : Int)), some (.ref q), some (.int W), some (.int S), v5, v6])
      ⟨(But.of s0).trans b1, ⟨N + 1, P1, by omega⟩, q0, [], none, none, 0, 0, hq0, ⟨[], b1 _ _ nq0 upd_same, rfl, fun i t e h => by simp at h⟩, Valid.nil, rfl, rfl, rfl, rfl⟩ ?_ ?_
    · rintro i σ H2 hi ⟨b2, ⟨M, P2, hM⟩, q, es, v5, v6, W, S, hq, hL, hV, hl, hW, hS, rfl⟩
      have od := hV.ord es.length (Nat.le_refl _)
      refine ⟨_, rfl, pu, 9, M, rfl, by decide, log_small (by decide) (by decide), P2, by rw [mx _ (by decide) (by decide)]; omega, by rw [mx _ (by decide) (by decide)]; decide, fun way H3 w0 w1 b3 P3 => ?_⟩
      rw [mx _ (by decide) (by decide)] at P3
      have hL3 := hL.but P2 b3
      obtain ⟨ts, hq3, lt, kt⟩ := id hL3
      have B3 := b2.trans b3
      have l60 : es.length < 200 := by omega
      have lsz : (ts.map V.ref).length < sizeLine := by
        rw [List.length_map]
        have : (2000 : Nat) ≤ sizeLine := by decide
        omega
      refine ⟨_, rfl, _, _, rfl, rfl, _, rfl, ?_⟩
      refine ite2 (fun c1 => ?_) (fun c1 => ?_)
      · -- a line
        refine ⟨_, rfl, (by show 1 ≤ sizeLine; decide), fun t ht => ⟨(by show 1 ≤ sizeLine; decide), fun l hl' => ?_⟩⟩
        have s4 : Same H3 (upd H3 t (.tup [.str "line"])) := Same.updf ht
        have s5 : Same (upd H3 t (.tup [.str "line"])) (upd (upd H3 t (.tup [.str "line"])) l (.lst [.ref t])) := Same.updf hl'
        have s45 := s4.trans s5
        refine ⟨q, l, _, _, rfl, rfl, s45 _ _ hq3, upd_same, by show (ts.map V.ref).length + 1 ≤ sizeLine; omega, fun q2 hq2 => ⟨_, rfl, _, _, rfl, rfl, _, _, rfl, ?_⟩⟩
        obtain ⟨H5, eH5⟩ : ∃ X, X = upd (upd H3 t (.tup [.str "line"])) l (.lst [.ref t]) := ⟨_, rfl⟩
        rw [← eH5] at s5 s45 hq2 ⊢
        have s6 : Same H5 (upd H5 q2 (.lst (ts.map V.ref ++ [.ref t]))) := Same.updf hq2
        have s36 := s45.trans s6
        have tt : (upd H5 q2 (.lst (ts.map V.ref ++ [.ref t]))) t = some (.tup Ev.line.v) := s6 _ _ (s5 _ _ upd_same)
        have b6 := B3.trans (But.of s36)
        have P6 := P3.same s36
        have n2 : q2 ≠ pu := fresh_ne (P3.same s45) hq2
        refine ⟨b6, ⟨M + 1, P6, by omega⟩, q2, es ++ [.line], _, _, _, _, (B3.trans (But.of s45)).none n2 hq2, LifeAt.snoc lt (fun j u e e1 e2 => SqT_up s36 (kt j u e e1 e2)) upd_same (SqT.of tt), hV.snoc l60 (fun m z => nomatch z), by rw [List.length_append, hl]; rfl, ?_, ?_, rfl⟩
        · rw [stAt_snoc, hW]; rfl
        · rw [stAt_snoc, hS]; rfl
      · refine ⟨_, rfl, _, _, rfl, rfl, _, rfl, ?_⟩
        have put : ∀ (e : Ev) (t : Addr) (H4 : Hp) (M4 : Nat), But pu H3 H4 → Purse H4 pu M4 → M4 ≤ N + 1 + 2 * (i + 1) → H4 t = none → (∀ m, e = .stand m → (stAt es es.length).s ≤ m ∧ m ≤ (stAt es es.length).w) → ∀ (S' : Int), S' = ((stAt (es ++ [e]) (es ++ [e]).length).s : Int) → W = ((stAt (es ++ [e]) (es ++ [e]).length).w : Int) → ∀ (a5 a6 : Option V),
            (But pu H (upd (upd H4 t (.tup e.v)) q (.lst (ts.map V.ref ++ [.ref t]))) ∧ (∃ M, Purse (upd (upd H4 t (.tup e.v)) q (.lst (ts.map V.ref ++ [.ref t]))) pu M ∧ M ≤ N + 1 + 2 * (i + 1)) ∧ ∃ (q' : Addr) (es' : List Ev) (v5 v6 : Option V) (W' S'' : Int), H q' = none ∧ LifeAt K (upd (upd H4 t (.tup e.v)) q (.lst (ts.map V.ref ++ [.ref t]))) q' es' ∧ Valid es' ∧ es'.length = i + 1 ∧
              W' = ((stAt es' es'.length).w : Int) ∧ S'' = ((stAt es' es'.length).s : Int) ∧ [some (V.ref pu), some (.int (mo : Int)), some (.ref q), some (.int W), some (.int S'), a5, a6] = [some (.ref pu), some (.int (mo : Int)), some (.ref q'), some (.int W'), some (.int S''), v5, v6]) := by
          intro e t H4 M4 b4 P4 l4 ht4 hv S' hS' hW' a5 a6
          have s5 : Same H4 (upd H4 t (.tup e.v)) := Same.updf ht4
          have nq : q ≠ pu := refs_ne_purse P3 hq3
          have q4 := b4 _ _ nq hq3
          have q5 := s5 _ _ q4
          have ntq : t ≠ q := fun z => by
            rw [z] at ht4
            rw [ht4] at q4
            cases q4
          have P5 := P4.same s5
          refine ⟨fun b o n e => ?_, ⟨M4, Purse.same' (by rw [upd_ne (Ne.symm nq)]) P5, l4⟩, q, es ++ [e], _, _, _, _, hq, LifeAt.snoc lt (fun j u f e1 e2 => ?_) upd_same ?_, hV.snoc l60 hv, by rw [List.length_append, hl]; rfl, hW', hS', rfl⟩
          · rw [upd_ne (ne_of_none e hq)]
            exact s5 _ _ (b4 _ _ n (B3 _ _ n e))
          · obtain ⟨A, B, c, i0, eP, _⟩ := P3.at_
            have h3 := SqT_up s5 (SqT_but b4 (kt j u f e1 e2) ⟨_, eP⟩)
            exact SqT_but (pu := q) (fun b o n e => by rw [upd_ne n]; exact e) h3 ⟨_, s5 _ _ q4⟩
          · exact SqT.of (by rw [upd_ne ntq]; exact upd_same)
        refine ite2 (fun c2 => ?_) (fun c2 => ?_)
        · -- a line that stands
          have m1 : 1 ≤ W - S + 1 := by omega
          have m2 : W - S + 1 < 100 := by omega
          refine ⟨_, rfl, _, rfl, _, rfl, _, rfl, _, _, rfl, rfl, _, _, rfl, rfl, ?_⟩
          refine ⟨pu, W - S + 1, M + 1, rfl, m1, log_small m1 (by omega), P3, by rw [mx _ m1 m2]; omega, by rw [mx _ m1 m2]; decide, fun r H4 r0 r1 b4 P4 => ⟨_, _, rfl, rfl, ?_⟩⟩
          rw [mx _ m1 m2] at P4
          obtain ⟨sn, hsn⟩ : ∃ sn : Nat, S + r = sn := ⟨(S + r).toNat, by omega⟩
          have nq : q ≠ pu := refs_ne_purse P3 hq3
          refine ⟨_, rfl, Or.inl ⟨rfl, _, SqL.of (b4 _ _ nq hq3)⟩, _, rfl, (by show 2 ≤ sizeLine; decide), fun t ht => ?_⟩
          have s5 : Same H4 (upd H4 t (.tup [.str "stand", .int (S + r)])) := Same.updf ht
          refine ⟨q, _, _, rfl, rfl, s5 _ _ (b4 _ _ nq hq3), lsz, ?_⟩
          have := put (.stand sn) t H4 (M + 1 + 1) b4 P4 (by omega) ht (fun m z => by cases z; omega) (S + r) (by rw [stAt_snoc, hsn]; rfl) (by rw [stAt_snoc, hW]; rfl) (some (.int (0 + (i : Int)))) (some (.int way))
          have ev : (Ev.stand sn).v = [.str "stand", .int (S + r)] := by rw [hsn]; rfl
          rw [ev] at this
          exact this
        · refine ⟨_, rfl, Or.inl ⟨rfl, _, SqL.of hq3⟩, (by show 1 ≤ sizeLine; decide), fun t ht => ?_⟩
          have s5 : Same H3 (upd H3 t (.tup [.str "root"])) := Same.updf ht
          refine ⟨q, _, _, rfl, rfl, s5 _ _ hq3, lsz, ?_⟩
          exact put .root t H3 (M + 1) (But.refl _ _) P3 (by omega) ht (fun m z => nomatch z) S (by rw [stAt_snoc, hS]; rfl) (by rw [stAt_snoc, hW]; rfl) (some (.int (0 + (i : Int)))) (some (.int way))
    · rintro σ H2 ⟨b2, ⟨M, P2, hM⟩, q, es, v5, v6, W, S, hq, hL, hV, hl, hW, hS, rfl⟩
      exact ⟨_, rfl, k q es H2 M b2 hq (fun e => by obtain ⟨ts, h1, _⟩ := id hL; exact refs_ne_purse P2 h1 e) hL hV (by omega) P2 (by omega)⟩
end
end K36
set_option Elab.async false
set_option linter.all false
set_option maxRecDepth 100000
set_option maxHeartbeats 4000000
/-! Calls of a computed function; calls by keywords alone, given from the last to the first. -/
namespace L2
open PySem PySem.Spec PyProof.Rows
theorem vals_rev : ∀ {vs : List V} {us : List Value}, Vals vs us → Vals vs.reverse us.reverse
  | _, _, .nil => .nil
  | _, _, .cons r t => by
    rw [List.reverse_cons, List.reverse_cons]
    exact (vals_rev t).append (.cons r .nil)
structure KB0 (fd : FuncData) (ps ks : List Str) : Prop where
  to : ∀ (s : Shared) (ws : List Value), ws.length = ps.length → BindsTo s fd ⟨[], ks.zip ws⟩ (ps.zip ws.reverse)
theorem FunD.kb0 {K : PySem.W.Frag} {x qual : Str} {params : Arguments} {body : List Stmt} {scope : Scope} {kws : List (Str × V)} {f : Addr} {fd : FuncData} {ps ks : List Str} (F : FunD K x qual params body scope [] kws f fd)
    (h : ∀ (kV doc pm : Value) (an : Option Addr) (cdv ct : Value) (ws : List Value), ws.length = ps.length → bindArgs (PySem.W.fnOf x qual params body scope .none kV doc pm an cdv ct) ⟨[], ks.zip ws⟩ = pure (ps.zip ws.reverse)) : KB0 fd ps ks := by
  obtain ⟨oc, od, dV, kV, doc, pm, an, cdv, ct, osl, rfl, lk, hcd, hD, hK⟩ := F.ex
  rcases hD with ⟨_, rfl⟩ | ⟨e, _⟩
  · exact ⟨fun s ws hl => .of_eq (h kV doc pm an cdv ct ws hl)⟩
  · exact absurd rfl e
section
variable {X : Cx} {CX : CXT} {k : Nat} {f : Addr} {fd : FuncData} {ps ks : List Str} {sp : Sp} {E : XK} {x : Str} {p pos : Pos} {e fe : Expr} {es : List Expr} {kws : List Keyword} {tf : TE} {t tk : TA}
theorem run_fnKR {pins : List (Addr × Obj)} {σ : St} {H : Hp} {s : Shared} {Q : VK} {ws : List Value} {zs : List V} (F : FnOk X.prog X.w X.K X.mg X.base CX k f fd ps sp) (hr : Room k X.A) (hb : KB0 fd ps ks) (hx : Passes CX X E)
    (I : Inv X pins σ H s) (rz : Vals zs ws) (h : sp zs.reverse H Q E) : wpAny (model X.prog X.w) X.A (call (.ref f) [] (ks.zip ws)) (EP X pins σ Q) X.xe s := by
  have r2 := vals_rev rz
  have hl : ws.length = ps.length := by rw [← List.length_reverse, ← r2.length]; exact F.len _ _ _ _ h
  refine wpAny_call (codeAny_mono (F.run X.A X.stack s H ⟨[], ks.zip ws⟩ ws.reverse zs.reverse Q E hr I.env0 (hb.to s ws hl) r2 h) fun r s' hq => ?_)
  cases r with
  | error e => exact hx pins σ H s e s' I hq
  | ok fl =>
    cases fl with
    | ret u => exact I.after hq
    | next => exact False.elim hq
    | brk => exact False.elim hq
    | cont => exact False.elim hq
def tCallKR (sp : Sp) (E : XK) (tk : TA) : TE := fun σ H Q => tk σ H fun zs H1 => sp zs.reverse H1 Q E
/-- f(k = v, ..) -/
theorem pe_callKR (F : FnOk X.prog X.w X.K X.mg X.base CX k f fd ps sp) (hr : Room k X.A) (hg : Gl X x) (hm : X.mg x = some (.ref f)) (hk : PySem.W.keepIn X.K (.ref f) = true) (hb : KB0 fd ps ks) (hx : Passes CX X E)
    (hkw : PK X kws tk) (hall : (backToKw pos (keywordEach kws X.env)).all (·.1.isSome) = true := by rfl) (hks : (backToKw pos (keywordEach kws X.env)).filterMap (·.1) = ks := by rfl)
    (hdb : (x == ("__debug__" : Str)) = false := by decide) (hpl : ((backTo pos (starEach [] X.env)).any (·.1) || (backToKw pos (keywordEach kws X.env)).any (·.1.isNone)) = false := by rfl) :
    PE X (.Call (.Name x p) [] kws pos) (tCallKR sp E tk) := by
  refine ⟨fun pins s σ H Q I h => ?_⟩
  refine wpAny_Call_Name_kw (ld_glob I hg hm ?_ hdb)
  refine PySem.W.callWith_KW0 (h₀ := X.base) I.ok.mod.kin hk hall ?_ hpl
  refine thn (hkw.run pos pins s σ H _ I h) fun ws s2 ⟨zs, H2, I2, rz, q2⟩ => ⟨I2.kIn, ?_⟩
  rw [hks]
  exact run_fnKR F hr hb hx I2 rz q2
/-- a function that may be called so -/
structure Cal (X : Cx) (E : XK) (f : Addr) (sp : Sp) : Prop where
  ex : ∃ CX k fd ps, FnOk X.prog X.w X.K X.mg X.base CX k f fd ps sp ∧ Room k X.A ∧ PySem.W.keepIn X.K (.ref f) = true ∧ Binds X.K fd ps [] ∧ Passes CX X E
structure CalR (X : Cx) (E : XK) (ks : List Str) (f : Addr) (sp : Sp) : Prop where
  ex : ∃ CX k fd ps, FnOk X.prog X.w X.K X.mg X.base CX k f fd ps sp ∧ Room k X.A ∧ PySem.W.keepIn X.K (.ref f) = true ∧ KB0 fd ps ks ∧ Passes CX X E
def tCallV (Fs : List (Addr × Sp)) (E : XK) (tf : TE) (t : TA) : TE := fun σ H Q => tf σ H fun x H1 => ∃ p ∈ Fs, x = .ref p.1 ∧ t σ H1 fun vs H2 => p.2 vs H2 Q E
theorem pe_callV {Fs : List (Addr × Sp)} (hf : PE X fe tf) (hF : ∀ p ∈ Fs, Cal X E p.1 p.2) (ha : PA X (e :: es) t)
    (he : starEach (e :: es) X.env = (false, eval e X.env) :: starEach es X.env := by rfl) (hpl : (backTo pos (starEach es X.env)).any (·.1) = false := by rfl)
    (ht : eval (.Call fe (e :: es) [] pos) X.env = (do
      let fv ← eval fe X.env
      callWith pos fv [] (backTo pos (starEach (e :: es) X.env)) (backToKw pos (keywordEach [] X.env))) := by rfl) :
    PE X (.Call fe (e :: es) [] pos) (tCallV Fs E tf t) := by
  refine ⟨fun pins s σ H Q I h => ?_⟩
  rw [ht]
  refine wpAny_bind (thn (hf.run pins s σ H _ I h) fun u s1 ⟨x, H1, I1, rx, p, hp, ex, q⟩ => ?_)
  subst ex
  obtain rfl : u = Value.ref p.1 := rx
  obtain ⟨CX, k, fd, ps, F, hr, hk, hb, hx⟩ := (hF p hp).ex
  refine PySem.W.callWith_K (h₀ := X.base) I.ok.mod.kin hk (thn (ha.run pos pins s1 σ H1 _ I1 q) fun us s2 ⟨vs, H2, I2, r, q2⟩ => ⟨I2.kIn, ?_⟩) he hpl
  exact run_fn F hr hb .nil hx I2 r (by rw [List.append_nil]; exact q2)
def tCallVR (Fs : List (Addr × Sp)) (E : XK) (tf : TE) (tk : TA) : TE := fun σ H Q => tf σ H fun x H1 => ∃ p ∈ Fs, x = .ref p.1 ∧ tk σ H1 fun zs H2 => p.2 zs.reverse H2 Q E
theorem pe_callVR {Fs : List (Addr × Sp)} (hf : PE X fe tf) (hF : ∀ p ∈ Fs, CalR X E ks p.1 p.2) (hkw : PK X kws tk)
    (hall : (backToKw pos (keywordEach kws X.env)).all (·.1.isSome) = true := by rfl) (hks : (backToKw pos (keywordEach kws X.env)).filterMap (·.1) = ks := by rfl)
    (hpl : ((backTo pos (starEach [] X.env)).any (·.1) || (backToKw pos (keywordEach kws X.env)).any (·.1.isNone)) = false := by rfl)
    (ht : eval (.Call fe [] kws pos) X.env = (do
      let fv ← eval fe X.env
      callWith pos fv [] (backTo pos (starEach [] X.env)) (backToKw pos (keywordEach kws X.env))) := by rfl) :
    PE X (.Call fe [] kws pos) (tCallVR Fs E tf tk) := by
  refine ⟨fun pins s σ H Q I h => ?_⟩
  rw [ht]
  refine wpAny_bind (thn (hf.run pins s σ H _ I h) fun u s1 ⟨x, H1, I1, rx, p, hp, ex, q⟩ => ?_)
  subst ex
  obtain rfl : u = Value.ref p.1 := rx
  obtain ⟨CX, k, fd, ps, F, hr, hk, hb, hx⟩ := (hF p hp).ex
  refine PySem.W.callWith_KW0 (h₀ := X.base) I.ok.mod.kin hk hall ?_ hpl
  refine thn (hkw.run pos pins s1 σ H1 _ I1 q) fun ws s2 ⟨zs, H2, I2, rz, q2⟩ => ⟨I2.kIn, ?_⟩
  rw [hks]
  exact run_fnKR F hr hb hx I2 rz q2
end
end L2
set_option Elab.async false
set_option linter.all false
set_option maxRecDepth 100000
set_option maxHeartbeats 8000000
/-! The doors. -/
namespace K36
open PySem PySem.Spec PyProof.Rows L2 KB
theorem itB {b c : Bool} {p q : Prop} (e : b = c) (h1 : c = true → p) (h0 : c = false → q) : if b = true then p else q := by
  subst e
  cases b with
  | false => exact iteF (h0 rfl)
  | true => exact iteT (h1 rfl)
def sp2 (K : PySem.W.Frag) : Nat → Sp
  | 0 => spFits K
  | 1 => spFirstF K
  | 2 => spRoots K
  | 3 => spApartL K
  | 4 => spGivenUp K
  | 5 => spStill K
  | 7 => spWithR K
  | 8 => spPlacesW K
  | 10 => spDiscC K
  | _ => spMostP K
/-- what stands behind a door -/
def doorS (K : PySem.W.Frag) (k : Nat) (xs : List V) : Hp → VK → XK → Prop := fun H Q E =>
  if k = 6 then ∃ x r, xs = x :: r ∧ spLeastP K [x] H Q E else if k = 9 then ∃ x y z r, xs = x :: y :: z :: r ∧ spAreApart K [x, y, z] H Q E else ∃ x y r, xs = x :: y :: r ∧ sp2 K k [x, y] H Q E
def spDoor (K : PySem.W.Frag) : Sp := fun vs H Q E => ∃ (k : Nat) (L : Addr) (xs : List V), vs = [.int (k : Int), .ref L] ∧ k < 12 ∧ H L = some (.lst xs) ∧ ∀ H', Same H H' → doorS K k xs H' Q E
section
variable {P : Program} {w : World} {K : PySem.W.Frag} {mg : Str → Option Value} {base : Heap}
abbrev s_door : Stmt := top 55
abbrev N_door : List Str := ["_law_door_here", "_law_some"]
theorem sc_door : FnScope N_door ["_law_door_here", "_law_some"] (defScope s_door) := ⟨rfl, rfl, rfl, by decide +kernel, rfl, by decide +kernel, by decide +kernel⟩
theorem ok_door {f : Addr} {fd : FuncData} (F : FnP K "_law_door" s_door f fd) (Z : FreeS mg)
    {f_are_apart_lines : Addr} {d_are_apart_lines : FuncData} (g_are_apart_lines : mg "are_apart_lines" = some (.ref f_are_apart_lines)) (F_are_apart_lines : FnP K "are_apart_lines" s_are_apart_lines f_are_apart_lines d_are_apart_lines) (G_are_apart_lines : FnOk P w K mg base (L2.CX P w) 8 f_are_apart_lines d_are_apart_lines ["life", "places", "value"] (spAreApart K))
    {f_disc_cells : Addr} {d_disc_cells : FuncData} (g_disc_cells : mg "disc_cells" = some (.ref f_disc_cells)) (F_disc_cells : FnP K "disc_cells" s_disc_cells f_disc_cells d_disc_cells) (G_disc_cells : FnOk P w K mg base (L2.CX P w) 5 f_disc_cells d_disc_cells ["pages", "places"] (spDiscC K))
    {f_most_places : Addr} {d_most_places : FuncData} (g_most_places : mg "most_places" = some (.ref f_most_places)) (F_most_places : FnP K "most_places" s_most_places f_most_places d_most_places) (G_most_places : FnOk P w K mg base (L2.CX P w) 5 f_most_places d_most_places ["cells", "pages"] (spMostP K))
    {f_least_places : Addr} {d_least_places : FuncData} (g_least_places : mg "least_places" = some (.ref f_least_places)) (F_least_places : FnP K "least_places" s_least_places f_least_places d_least_places) (G_least_places : FnOk P w K mg base (L2.CX P w) 7 f_least_places d_least_places ["life"] (spLeastP K))
    {f_with_roots : Addr} {d_with_roots : FuncData} (g_with_roots : mg "with_roots" = some (.ref f_with_roots)) (F_with_roots : FnP K "with_roots" s_with_roots f_with_roots d_with_roots) (G_with_roots : FnOk P w K mg base (L2.CX P w) 7 f_with_roots d_with_roots ["life", "positions"] (spWithR K))
    {f_places_with : Addr} {d_places_with : FuncData} (g_places_with : mg "places_with" = some (.ref f_places_with)) (F_places_with : FnP K "places_with" s_places_with f_places_with d_places_with) (G_places_with : FnOk P w K mg base (L2.CX P w) 9 f_places_with d_places_with ["life", "roots"] (spPlacesW K))
    {f_fits : Addr} {d_fits : FuncData} (g_fits : mg "fits" = some (.ref f_fits)) (F_fits : FnP K "fits" s_fits f_fits d_fits) (G_fits : FnOk P w K mg base (L2.CX P w) 8 f_fits d_fits ["life", "places"] (spFits K))
    {f_first_full : Addr} {d_first_full : FuncData} (g_first_full : mg "first_full" = some (.ref f_first_full)) (F_first_full : FnP K "first_full" s_first_full f_first_full d_first_full) (G_first_full : FnOk P w K mg base (L2.CX P w) 8 f_first_full d_first_full ["life", "places"] (spFirstF K))
    {f_roots_for : Addr} {d_roots_for : FuncData} (g_roots_for : mg "roots_for" = some (.ref f_roots_for)) (F_roots_for : FnP K "roots_for" s_roots_for f_roots_for d_roots_for) (G_roots_for : FnOk P w K mg base (L2.CX P w) 8 f_roots_for d_roots_for ["life", "places"] (spRoots K))
    {f_apart_lines : Addr} {d_apart_lines : FuncData} (g_apart_lines : mg "apart_lines" = some (.ref f_apart_lines)) (F_apart_lines : FnP K "apart_lines" s_apart_lines f_apart_lines d_apart_lines) (G_apart_lines : FnOk P w K mg base (L2.CX P w) 8 f_apart_lines d_apart_lines ["life", "places"] (spApartL K))
    {f_given_up : Addr} {d_given_up : FuncData} (g_given_up : mg "given_up" = some (.ref f_given_up)) (F_given_up : FnP K "given_up" s_given_up f_given_up d_given_up) (G_given_up : FnOk P w K mg base (L2.CX P w) 8 f_given_up d_given_up ["life", "moment"] (spGivenUp K))
    {f_still_needed : Addr} {d_still_needed : FuncData} (g_still_needed : mg "still_needed" = some (.ref f_still_needed)) (F_still_needed : FnP K "still_needed" s_still_needed f_still_needed d_still_needed) (G_still_needed : FnOk P w K mg base (L2.CX P w) 8 f_still_needed d_still_needed ["life", "moment"] (spStill K)) :
    FnOk P w K mg base (L2.CX P w) 10 f fd ["_law_door_here", "_law_some"] (spDoor K) := by
  have b_are_apart_lines : Binds K d_are_apart_lines ["life", "places", "value"] [] := F_are_apart_lines.bindsN fun _ _ _ _ _ _ us hl => match us, hl with | [_, _, _], _ => rfl
  have b_disc_cells : Binds K d_disc_cells ["pages", "places"] [] := F_disc_cells.bindsN fun _ _ _ _ _ _ us hl => match us, hl with | [_, _], _ => rfl
  have b_most_places : Binds K d_most_places ["cells", "pages"] [] := F_most_places.bindsN fun _ _ _ _ _ _ us hl => match us, hl with | [_, _], _ => rfl
  have b_least_places : Binds K d_least_places ["life"] [] := F_least_places.bindsN fun _ _ _ _ _ _ us hl => match us, hl with | [_], _ => rfl
  have b_with_roots : Binds K d_with_roots ["life", "positions"] [] := F_with_roots.bindsN fun _ _ _ _ _ _ us hl => match us, hl with | [_, _], _ => rfl
  have b_places_with : Binds K d_places_with ["life", "roots"] [] := F_places_with.bindsN fun _ _ _ _ _ _ us hl => match us, hl with | [_, _], _ => rfl
  have b_fits : Binds K d_fits ["life", "places"] [] := F_fits.bindsN fun _ _ _ _ _ _ us hl => match us, hl with | [_, _], _ => rfl
  have b_first_full : Binds K d_first_full ["life", "places"] [] := F_first_full.bindsN fun _ _ _ _ _ _ us hl => match us, hl with | [_, _], _ => rfl
  have b_roots_for : Binds K d_roots_for ["life", "places"] [] := F_roots_for.bindsN fun _ _ _ _ _ _ us hl => match us, hl with | [_, _], _ => rfl
  have b_apart_lines : Binds K d_apart_lines ["life", "places"] [] := F_apart_lines.bindsN fun _ _ _ _ _ _ us hl => match us, hl with | [_, _], _ => rfl
  have b_given_up : Binds K d_given_up ["life", "moment"] [] := F_given_up.bindsN fun _ _ _ _ _ _ us hl => match us, hl with | [_, _], _ => rfl
  have b_still_needed : Binds K d_still_needed ["life", "moment"] [] := F_still_needed.bindsN fun _ _ _ _ _ _ us hl => match us, hl with | [_, _], _ => rfl
  refine F.ok sc_door (fun vs H Q E h => ?_) (fun cdv A outer s H vs Q E hr h => ?_)
  · obtain ⟨k, L, xs, rfl, _⟩ := h
    rfl
  · obtain ⟨k, L, xs, rfl, hk, hL, kk⟩ := h
    have hF : ∀ p ∈ [(f_fits, (spFits K)), (f_first_full, (spFirstF K)), (f_roots_for, (spRoots K)), (f_apart_lines, (spApartL K)), (f_given_up, (spGivenUp K)), (f_still_needed, (spStill K))], Cal (cxOf (L2.CX P w) P w K mg base N_door "_law_door" (defScope s_door) f cdv A outer s H E) E p.1 p.2 := by
      intro p hp
      simp only [List.mem_cons, List.not_mem_nil, or_false] at hp
      rcases hp with rfl | rfl | rfl | rfl | rfl | rfl
      · exact ⟨_, _, _, _, G_fits, hr.mono (by decide), F_fits.kp, b_fits, (passes_call (takes_of rfl rfl rfl rfl) (fun _ _ _ _ h => h))⟩
      · exact ⟨_, _, _, _, G_first_full, hr.mono (by decide), F_first_full.kp, b_first_full, (passes_call (takes_of rfl rfl rfl rfl) (fun _ _ _ _ h => h))⟩
      · exact ⟨_, _, _, _, G_roots_for, hr.mono (by decide), F_roots_for.kp, b_roots_for, (passes_call (takes_of rfl rfl rfl rfl) (fun _ _ _ _ h => h))⟩
      · exact ⟨_, _, _, _, G_apart_lines, hr.mono (by decide), F_apart_lines.kp, b_apart_lines, (passes_call (takes_of rfl rfl rfl rfl) (fun _ _ _ _ h => h))⟩
      · exact ⟨_, _, _, _, G_given_up, hr.mono (by decide), F_given_up.kp, b_given_up, (passes_call (takes_of rfl rfl rfl rfl) (fun _ _ _ _ h => h))⟩
      · exact ⟨_, _, _, _, G_still_needed, hr.mono (by decide), F_still_needed.kp, b_still_needed, (passes_call (takes_of rfl rfl rfl rfl) (fun _ _ _ _ h => h))⟩
    have nd := sc_door.nd
    refine ⟨_, id (pss_cons (ps_if (pt_cmpR op_lt (pv 0) (pe_int) (nomark _)) (pss_one (ps_ret (pe_callV (Fs := [(f_fits, (spFits K)), (f_first_full, (spFirstF K)), (f_roots_for, (spRoots K)), (f_apart_lines, (spApartL K)), (f_given_up, (spGivenUp K)), (f_still_needed, (spStill K))]) (pe_ix ix_list (pe_lst (pa_cons (pe_glob (v := .ref f_fits) (by rfl) g_fits rfl) (pa_cons (pe_glob (v := .ref f_first_full) (by rfl) g_first_full rfl) (pa_cons (pe_glob (v := .ref f_roots_for) (by rfl) g_roots_for rfl) (pa_cons (pe_glob (v := .ref f_apart_lines) (by rfl) g_apart_lines rfl) (pa_cons (pe_glob (v := .ref f_given_up) (by rfl) g_given_up rfl) (pa_cons (pe_glob (v := .ref f_still_needed) (by rfl) g_still_needed rfl) (pa_nil)))))))) (pv 0) (fun _ _ => rfl)) hF (pa_cons (pe_ix ix_list (pv 1) pe_int (fun _ _ => rfl)) (pa_cons (pe_ix ix_list (pv 1) pe_int (fun _ _ => rfl)) pa_nil))))) (pss_nil))
      (pss_cons (ps_if (pt_cmpR op_lt (pv 0) (pe_int) (nomark _)) (pss_one (ps_ret (pe_ifExp (pt_cmpR op_eq (pv 0) (pe_int) (nomark _)) (pe_call G_least_places (hr.mono (by decide)) rfl g_least_places F_least_places.kp b_least_places .nil (passes_call (takes_of rfl rfl rfl rfl) (fun _ _ _ _ h => h)) (pa_cons (pe_ix ix_list (pv 1) (pe_int) (fun _ _ => rfl)) (pa_nil))) (pe_ifExp (pt_cmpR op_eq (pv 0) (pe_int) (nomark _)) (pe_call G_with_roots (hr.mono (by decide)) rfl g_with_roots F_with_roots.kp b_with_roots .nil (passes_call (takes_of rfl rfl rfl rfl) (fun _ _ _ _ h => h)) (pa_cons (pe_ix ix_list (pv 1) (pe_int) (fun _ _ => rfl)) (pa_cons (pe_ix ix_list (pv 1) (pe_int) (fun _ _ => rfl)) (pa_nil)))) (pe_call G_places_with (hr.mono (by decide)) rfl g_places_with F_places_with.kp b_places_with .nil (passes_call (takes_of rfl rfl rfl rfl) (fun _ _ _ _ h => h)) (pa_cons (pe_ix ix_list (pv 1) (pe_int) (fun _ _ => rfl)) (pa_cons (pe_ix ix_list (pv 1) (pe_int) (fun _ _ => rfl)) (pa_nil)))))))) (pss_nil))
      (pss_cons (ps_if (pt_cmpR op_eq (pv 0) (pe_int) (nomark _)) (pss_one (ps_ret (pe_call G_are_apart_lines (hr.mono (by decide)) rfl g_are_apart_lines F_are_apart_lines.kp b_are_apart_lines .nil (passes_call (takes_of rfl rfl rfl rfl) (fun _ _ _ _ h => h)) (pa_cons (pe_ix ix_list (pv 1) (pe_int) (fun _ _ => rfl)) (pa_cons (pe_ix ix_list (pv 1) (pe_int) (fun _ _ => rfl)) (pa_cons (pe_ix ix_list (pv 1) (pe_int) (fun _ _ => rfl)) (pa_nil))))))) (pss_nil))
      (pss_one (ps_ret (pe_ifExp (pt_cmpR op_eq (pv 0) (pe_int) (nomark _)) (pe_call G_disc_cells (hr.mono (by decide)) rfl g_disc_cells F_disc_cells.kp b_disc_cells .nil (passes_call (takes_of rfl rfl rfl rfl) (fun _ _ _ _ h => h)) (pa_cons (pe_ix ix_list (pv 1) (pe_int) (fun _ _ => rfl)) (pa_cons (pe_ix ix_list (pv 1) (pe_int) (fun _ _ => rfl)) (pa_nil)))) (pe_call G_most_places (hr.mono (by decide)) rfl g_most_places F_most_places.kp b_most_places .nil (passes_call (takes_of rfl rfl rfl rfl) (fun _ _ _ _ h => h)) (pa_cons (pe_ix ix_list (pv 1) (pe_int) (fun _ _ => rfl)) (pa_cons (pe_ix ix_list (pv 1) (pe_int) (fun _ _ => rfl)) (pa_nil)))))))))), ?_⟩
    have sl : (100 : Nat) ≤ sizeLine := by decide
    have two : k ≠ 6 → k ≠ 9 → ∃ x y r, xs = x :: y :: r ∧ ∀ H', Same H H' → sp2 K k [x, y] H' Q E := fun n6 n9 => by
      have e : ∀ H', doorS K k xs H' Q E = ∃ x y r, xs = x :: y :: r ∧ sp2 K k [x, y] H' Q E := fun H' => by
        unfold doorS
        rw [if_neg n6, if_neg n9]
      obtain ⟨x, y, r, rfl, _⟩ := (e H) ▸ kk H (Same.refl _)
      refine ⟨x, y, r, rfl, fun H' s' => ?_⟩
      obtain ⟨x', y', r', e2, q⟩ := (e H') ▸ kk H' s'
      cases e2
      exact q
    have cs : k = 0 ∨ k = 1 ∨ k = 2 ∨ k = 3 ∨ k = 4 ∨ k = 5 ∨ k = 6 ∨ k = 7 ∨ k = 8 ∨ k = 9 ∨ k = 10 ∨ k = 11 := by omega
    rcases cs with rfl | rfl | rfl | rfl | rfl | rfl | rfl | rfl | rfl | rfl | rfl | rfl
    · obtain ⟨x, y, r, rfl, q⟩ := two (by decide) (by decide)
      refine ⟨_, rfl, _, _, rfl, rfl, _, rfl, itB (c := true) (by decide) (fun _ => ?_) (fun z => by cases z)⟩
      refine ⟨(by show 6 ≤ sizeLine; omega), fun G hG => ?_⟩
      have sG := Same.updf (o := .lst [.ref f_fits, .ref f_first_full, .ref f_roots_for, .ref f_apart_lines, .ref f_given_up, .ref f_still_needed]) hG
      refine ⟨_, rfl, G, _, 0, .ref f_fits, rfl, rfl, SqL.of upd_same, atI_nat (j := 0) rfl, (f_fits, spFits K), .head _, rfl, _, rfl, L, _, 0, x, rfl, rfl, SqL.of (sG _ _ hL), atI_nat (j := 0) rfl, _, rfl, L, _, 1, y, rfl, rfl, SqL.of (sG _ _ hL), atI_nat (j := 1) rfl, q _ sG⟩
    · obtain ⟨x, y, r, rfl, q⟩ := two (by decide) (by decide)
      refine ⟨_, rfl, _, _, rfl, rfl, _, rfl, itB (c := true) (by decide) (fun _ => ?_) (fun z => by cases z)⟩
      refine ⟨(by show 6 ≤ sizeLine; omega), fun G hG => ?_⟩
      have sG := Same.updf (o := .lst [.ref f_fits, .ref f_first_full, .ref f_roots_for, .ref f_apart_lines, .ref f_given_up, .ref f_still_needed]) hG
      refine ⟨_, rfl, G, _, 1, .ref f_first_full, rfl, rfl, SqL.of upd_same, atI_nat (j := 1) rfl, (f_first_full, spFirstF K), .tail _ (.head _), rfl, _, rfl, L, _, 0, x, rfl, rfl, SqL.of (sG _ _ hL), atI_nat (j := 0) rfl, _, rfl, L, _, 1, y, rfl, rfl, SqL.of (sG _ _ hL), atI_nat (j := 1) rfl, q _ sG⟩
    · obtain ⟨x, y, r, rfl, q⟩ := two (by decide) (by decide)
      refine ⟨_, rfl, _, _, rfl, rfl, _, rfl, itB (c := true) (by decide) (fun _ => ?_) (fun z => by cases z)⟩
      refine ⟨(by show 6 ≤ sizeLine; omega), fun G hG => ?_⟩
      have sG := Same.updf (o := .lst [.ref f_fits, .ref f_first_full, .ref f_roots_for, .ref f_apart_lines, .ref f_given_up, .ref f_still_needed]) hG
      refine ⟨_, rfl, G, _, 2, .ref f_roots_for, rfl, rfl, SqL.of upd_same, atI_nat (j := 2) rfl, (f_roots_for, spRoots K), .tail _ (.tail _ (.head _)), rfl, _, rfl, L, _, 0, x, rfl, rfl, SqL.of (sG _ _ hL), atI_nat (j := 0) rfl, _, rfl, L, _, 1, y, rfl, rfl, SqL.of (sG _ _ hL), atI_nat (j := 1) rfl, q _ sG⟩
    · obtain ⟨x, y, r, rfl, q⟩ := two (by decide) (by decide)
      refine ⟨_, rfl, _, _, rfl, rfl, _, rfl, itB (c := true) (by decide) (fun _ => ?_) (fun z => by cases z)⟩
      refine ⟨(by show 6 ≤ sizeLine; omega), fun G hG => ?_⟩
      have sG := Same.updf (o := .lst [.ref f_fits, .ref f_first_full, .ref f_roots_for, .ref f_apart_lines, .ref f_given_up, .ref f_still_needed]) hG
      refine ⟨_, rfl, G, _, 3, .ref f_apart_lines, rfl, rfl, SqL.of upd_same, atI_nat (j := 3) rfl, (f_apart_lines, spApartL K), .tail _ (.tail _ (.tail _ (.head _))), rfl, _, rfl, L, _, 0, x, rfl, rfl, SqL.of (sG _ _ hL), atI_nat (j := 0) rfl, _, rfl, L, _, 1, y, rfl, rfl, SqL.of (sG _ _ hL), atI_nat (j := 1) rfl, q _ sG⟩
    · obtain ⟨x, y, r, rfl, q⟩ := two (by decide) (by decide)
      refine ⟨_, rfl, _, _, rfl, rfl, _, rfl, itB (c := true) (by decide) (fun _ => ?_) (fun z => by cases z)⟩
      refine ⟨(by show 6 ≤ sizeLine; omega), fun G hG => ?_⟩
      have sG := Same.updf (o := .lst [.ref f_fits, .ref f_first_full, .ref f_roots_for, .ref f_apart_lines, .ref f_given_up, .ref f_still_needed]) hG
      refine ⟨_, rfl, G, _, 4, .ref f_given_up, rfl, rfl, SqL.of upd_same, atI_nat (j := 4) rfl, (f_given_up, spGivenUp K), .tail _ (.tail _ (.tail _ (.tail _ (.head _)))), rfl, _, rfl, L, _, 0, x, rfl, rfl, SqL.of (sG _ _ hL), atI_nat (j := 0) rfl, _, rfl, L, _, 1, y, rfl, rfl, SqL.of (sG _ _ hL), atI_nat (j := 1) rfl, q _ sG⟩
    · obtain ⟨x, y, r, rfl, q⟩ := two (by decide) (by decide)
      refine ⟨_, rfl, _, _, rfl, rfl, _, rfl, itB (c := true) (by decide) (fun _ => ?_) (fun z => by cases z)⟩
      refine ⟨(by show 6 ≤ sizeLine; omega), fun G hG => ?_⟩
      have sG := Same.updf (o := .lst [.ref f_fits, .ref f_first_full, .ref f_roots_for, .ref f_apart_lines, .ref f_given_up, .ref f_still_needed]) hG
      refine ⟨_, rfl, G, _, 5, .ref f_still_needed, rfl, rfl, SqL.of upd_same, atI_nat (j := 5) rfl, (f_still_needed, spStill K), .tail _ (.tail _ (.tail _ (.tail _ (.tail _ (.head _))))), rfl, _, rfl, L, _, 0, x, rfl, rfl, SqL.of (sG _ _ hL), atI_nat (j := 0) rfl, _, rfl, L, _, 1, y, rfl, rfl, SqL.of (sG _ _ hL), atI_nat (j := 1) rfl, q _ sG⟩
    · have kk := kk H (Same.refl _)
      unfold doorS at kk
      rw [if_pos rfl] at kk
      obtain ⟨x, r, rfl, q⟩ := kk
      refine ⟨_, rfl, _, _, rfl, rfl, _, rfl, itB (c := false) (by decide) (fun z => by cases z) (fun _ => ?_)⟩
      refine ⟨_, rfl, _, _, rfl, rfl, _, rfl, itB (c := true) (by decide) (fun _ => ?_) (fun z => by cases z)⟩
      refine ⟨_, rfl, rfl, _, rfl, itB (c := true) (by decide) (fun _ => ?_) (fun z => by cases z)⟩
      exact ⟨_, rfl, L, _, 0, x, rfl, rfl, SqL.of hL, atI_nat (j := 0) rfl, q⟩
    · obtain ⟨x, y, r, rfl, q⟩ := two (by decide) (by decide)
      refine ⟨_, rfl, _, _, rfl, rfl, _, rfl, itB (c := false) (by decide) (fun z => by cases z) (fun _ => ?_)⟩
      refine ⟨_, rfl, _, _, rfl, rfl, _, rfl, itB (c := true) (by decide) (fun _ => ?_) (fun z => by cases z)⟩
      refine ⟨_, rfl, rfl, _, rfl, itB (c := false) (by decide) (fun z => by cases z) (fun _ => ?_)⟩
      refine ⟨_, rfl, rfl, _, rfl, itB (c := true) (by decide) (fun _ => ?_) (fun z => by cases z)⟩
      exact ⟨_, rfl, L, _, 0, x, rfl, rfl, SqL.of hL, atI_nat (j := 0) rfl, _, rfl, L, _, 1, y, rfl, rfl, SqL.of hL, atI_nat (j := 1) rfl, q _ (Same.refl _)⟩
    · obtain ⟨x, y, r, rfl, q⟩ := two (by decide) (by decide)
      refine ⟨_, rfl, _, _, rfl, rfl, _, rfl, itB (c := false) (by decide) (fun z => by cases z) (fun _ => ?_)⟩
      refine ⟨_, rfl, _, _, rfl, rfl, _, rfl, itB (c := true) (by decide) (fun _ => ?_) (fun z => by cases z)⟩
      refine ⟨_, rfl, rfl, _, rfl, itB (c := false) (by decide) (fun z => by cases z) (fun _ => ?_)⟩
      refine ⟨_, rfl, rfl, _, rfl, itB (c := false) (by decide) (fun z => by cases z) (fun _ => ?_)⟩
      exact ⟨_, rfl, L, _, 0, x, rfl, rfl, SqL.of hL, atI_nat (j := 0) rfl, _, rfl, L, _, 1, y, rfl, rfl, SqL.of hL, atI_nat (j := 1) rfl, q _ (Same.refl _)⟩
    · have kk := kk H (Same.refl _)
      unfold doorS at kk
      rw [if_neg (by decide), if_pos rfl] at kk
      obtain ⟨x, y, z, r, rfl, q⟩ := kk
      refine ⟨_, rfl, _, _, rfl, rfl, _, rfl, itB (c := false) (by decide) (fun z => by cases z) (fun _ => ?_)⟩
      refine ⟨_, rfl, _, _, rfl, rfl, _, rfl, itB (c := false) (by decide) (fun z => by cases z) (fun _ => ?_)⟩
      refine ⟨_, rfl, rfl, _, rfl, itB (c := true) (by decide) (fun _ => ?_) (fun z => by cases z)⟩
      exact ⟨_, rfl, L, _, 0, x, rfl, rfl, SqL.of hL, atI_nat (j := 0) rfl, _, rfl, L, _, 1, y, rfl, rfl, SqL.of hL, atI_nat (j := 1) rfl, _, rfl, L, _, 2, z, rfl, rfl, SqL.of hL, atI_nat (j := 2) rfl, q⟩
    · obtain ⟨x, y, r, rfl, q⟩ := two (by decide) (by decide)
      refine ⟨_, rfl, _, _, rfl, rfl, _, rfl, itB (c := false) (by decide) (fun z => by cases z) (fun _ => ?_)⟩
      refine ⟨_, rfl, _, _, rfl, rfl, _, rfl, itB (c := false) (by decide) (fun z => by cases z) (fun _ => ?_)⟩
      refine ⟨_, rfl, rfl, _, rfl, itB (c := false) (by decide) (fun z => by cases z) (fun _ => ?_)⟩
      refine ⟨_, rfl, rfl, _, rfl, itB (c := true) (by decide) (fun _ => ?_) (fun z => by cases z)⟩
      exact ⟨_, rfl, L, _, 0, x, rfl, rfl, SqL.of hL, atI_nat (j := 0) rfl, _, rfl, L, _, 1, y, rfl, rfl, SqL.of hL, atI_nat (j := 1) rfl, q _ (Same.refl _)⟩
    · obtain ⟨x, y, r, rfl, q⟩ := two (by decide) (by decide)
      refine ⟨_, rfl, _, _, rfl, rfl, _, rfl, itB (c := false) (by decide) (fun z => by cases z) (fun _ => ?_)⟩
      refine ⟨_, rfl, _, _, rfl, rfl, _, rfl, itB (c := false) (by decide) (fun z => by cases z) (fun _ => ?_)⟩
      refine ⟨_, rfl, rfl, _, rfl, itB (c := false) (by decide) (fun z => by cases z) (fun _ => ?_)⟩
      refine ⟨_, rfl, rfl, _, rfl, itB (c := false) (by decide) (fun z => by cases z) (fun _ => ?_)⟩
      exact ⟨_, rfl, L, _, 0, x, rfl, rfl, SqL.of hL, atI_nat (j := 0) rfl, _, rfl, L, _, 1, y, rfl, rfl, SqL.of hL, atI_nat (j := 1) rfl, q _ (Same.refl _)⟩
end
end K36
set_option Elab.async false
set_option linter.all false
set_option maxRecDepth 100000
set_option maxHeartbeats 8000000
/-! The doors, by the names of their parameters. -/
namespace K36
open PySem PySem.Spec PyProof.Rows L2 KB
def spByName (K : PySem.W.Frag) : Sp := spDoor K
section
variable {P : Program} {w : World} {K : PySem.W.Frag} {mg : Str → Option Value} {base : Heap}
abbrev s_by_name : Stmt := top 56
abbrev N_by_name : List Str := ["_law_door_here", "_law_some"]
theorem sc_by_name : FnScope N_by_name ["_law_door_here", "_law_some"] (defScope s_by_name) := ⟨rfl, rfl, rfl, by decide +kernel, rfl, by decide +kernel, by decide +kernel⟩
theorem ok_by_name {f : Addr} {fd : FuncData} (F : FnP K "_law_by_name" s_by_name f fd) (Z : FreeS mg)
    {f_disc_cells : Addr} {d_disc_cells : FuncData} (g_disc_cells : mg "disc_cells" = some (.ref f_disc_cells)) (F_disc_cells : FnP K "disc_cells" s_disc_cells f_disc_cells d_disc_cells) (G_disc_cells : FnOk P w K mg base (L2.CX P w) 5 f_disc_cells d_disc_cells ["pages", "places"] (spDiscC K))
    {f_most_places : Addr} {d_most_places : FuncData} (g_most_places : mg "most_places" = some (.ref f_most_places)) (F_most_places : FnP K "most_places" s_most_places f_most_places d_most_places) (G_most_places : FnOk P w K mg base (L2.CX P w) 5 f_most_places d_most_places ["cells", "pages"] (spMostP K))
    {f_least_places : Addr} {d_least_places : FuncData} (g_least_places : mg "least_places" = some (.ref f_least_places)) (F_least_places : FnP K "least_places" s_least_places f_least_places d_least_places) (G_least_places : FnOk P w K mg base (L2.CX P w) 7 f_least_places d_least_places ["life"] (spLeastP K))
    {f_with_roots : Addr} {d_with_roots : FuncData} (g_with_roots : mg "with_roots" = some (.ref f_with_roots)) (F_with_roots : FnP K "with_roots" s_with_roots f_with_roots d_with_roots) (G_with_roots : FnOk P w K mg base (L2.CX P w) 7 f_with_roots d_with_roots ["life", "positions"] (spWithR K))
    {f_places_with : Addr} {d_places_with : FuncData} (g_places_with : mg "places_with" = some (.ref f_places_with)) (F_places_with : FnP K "places_with" s_places_with f_places_with d_places_with) (G_places_with : FnOk P w K mg base (L2.CX P w) 9 f_places_with d_places_with ["life", "roots"] (spPlacesW K))
    {f_are_apart_lines : Addr} {d_are_apart_lines : FuncData} (g_are_apart_lines : mg "are_apart_lines" = some (.ref f_are_apart_lines)) (F_are_apart_lines : FnP K "are_apart_lines" s_are_apart_lines f_are_apart_lines d_are_apart_lines) (G_are_apart_lines : FnOk P w K mg base (L2.CX P w) 8 f_are_apart_lines d_are_apart_lines ["life", "places", "value"] (spAreApart K))
    {f_fits : Addr} {d_fits : FuncData} (g_fits : mg "fits" = some (.ref f_fits)) (F_fits : FnP K "fits" s_fits f_fits d_fits) (G_fits : FnOk P w K mg base (L2.CX P w) 8 f_fits d_fits ["life", "places"] (spFits K))
    {f_first_full : Addr} {d_first_full : FuncData} (g_first_full : mg "first_full" = some (.ref f_first_full)) (F_first_full : FnP K "first_full" s_first_full f_first_full d_first_full) (G_first_full : FnOk P w K mg base (L2.CX P w) 8 f_first_full d_first_full ["life", "places"] (spFirstF K))
    {f_roots_for : Addr} {d_roots_for : FuncData} (g_roots_for : mg "roots_for" = some (.ref f_roots_for)) (F_roots_for : FnP K "roots_for" s_roots_for f_roots_for d_roots_for) (G_roots_for : FnOk P w K mg base (L2.CX P w) 8 f_roots_for d_roots_for ["life", "places"] (spRoots K))
    {f_apart_lines : Addr} {d_apart_lines : FuncData} (g_apart_lines : mg "apart_lines" = some (.ref f_apart_lines)) (F_apart_lines : FnP K "apart_lines" s_apart_lines f_apart_lines d_apart_lines) (G_apart_lines : FnOk P w K mg base (L2.CX P w) 8 f_apart_lines d_apart_lines ["life", "places"] (spApartL K))
    {f_given_up : Addr} {d_given_up : FuncData} (g_given_up : mg "given_up" = some (.ref f_given_up)) (F_given_up : FnP K "given_up" s_given_up f_given_up d_given_up) (G_given_up : FnOk P w K mg base (L2.CX P w) 8 f_given_up d_given_up ["life", "moment"] (spGivenUp K))
    {f_still_needed : Addr} {d_still_needed : FuncData} (g_still_needed : mg "still_needed" = some (.ref f_still_needed)) (F_still_needed : FnP K "still_needed" s_still_needed f_still_needed d_still_needed) (G_still_needed : FnOk P w K mg base (L2.CX P w) 8 f_still_needed d_still_needed ["life", "moment"] (spStill K)) :
    FnOk P w K mg base (L2.CX P w) 10 f fd ["_law_door_here", "_law_some"] (spByName K) := by
  have b_disc_cells : Binds K d_disc_cells ["pages", "places"] [] := F_disc_cells.bindsN fun _ _ _ _ _ _ us hl => match us, hl with | [_, _], _ => rfl
  have b_most_places : Binds K d_most_places ["cells", "pages"] [] := F_most_places.bindsN fun _ _ _ _ _ _ us hl => match us, hl with | [_, _], _ => rfl
  have b_least_places : Binds K d_least_places ["life"] [] := F_least_places.bindsN fun _ _ _ _ _ _ us hl => match us, hl with | [_], _ => rfl
  have b_with_roots : Binds K d_with_roots ["life", "positions"] [] := F_with_roots.bindsN fun _ _ _ _ _ _ us hl => match us, hl with | [_, _], _ => rfl
  have b_places_with : Binds K d_places_with ["life", "roots"] [] := F_places_with.bindsN fun _ _ _ _ _ _ us hl => match us, hl with | [_, _], _ => rfl
  have b_are_apart_lines : Binds K d_are_apart_lines ["life", "places", "value"] [] := F_are_apart_lines.bindsN fun _ _ _ _ _ _ us hl => match us, hl with | [_, _, _], _ => rfl
  have b_fits : Binds K d_fits ["life", "places"] [] := F_fits.bindsN fun _ _ _ _ _ _ us hl => match us, hl with | [_, _], _ => rfl
  have b_first_full : Binds K d_first_full ["life", "places"] [] := F_first_full.bindsN fun _ _ _ _ _ _ us hl => match us, hl with | [_, _], _ => rfl
  have b_roots_for : Binds K d_roots_for ["life", "places"] [] := F_roots_for.bindsN fun _ _ _ _ _ _ us hl => match us, hl with | [_, _], _ => rfl
  have b_apart_lines : Binds K d_apart_lines ["life", "places"] [] := F_apart_lines.bindsN fun _ _ _ _ _ _ us hl => match us, hl with | [_, _], _ => rfl
  have b_given_up : Binds K d_given_up ["life", "moment"] [] := F_given_up.bindsN fun _ _ _ _ _ _ us hl => match us, hl with | [_, _], _ => rfl
  have b_still_needed : Binds K d_still_needed ["life", "moment"] [] := F_still_needed.bindsN fun _ _ _ _ _ _ us hl => match us, hl with | [_, _], _ => rfl
  refine F.ok sc_by_name (fun vs H Q E h => ?_) (fun cdv A outer s H vs Q E hr h => ?_)
  · obtain ⟨k, L, xs, rfl, _⟩ := h
    rfl
  · obtain ⟨k, L, xs, rfl, hk, hL, kk⟩ := h
    have kb_fits : KB0 d_fits ["life", "places"] ["places", "life"] := F_fits.kb0 fun _ _ _ _ _ _ ws hl => match ws, hl with | [_, _], _ => rfl
    have kb_first_full : KB0 d_first_full ["life", "places"] ["places", "life"] := F_first_full.kb0 fun _ _ _ _ _ _ ws hl => match ws, hl with | [_, _], _ => rfl
    have kb_roots_for : KB0 d_roots_for ["life", "places"] ["places", "life"] := F_roots_for.kb0 fun _ _ _ _ _ _ ws hl => match ws, hl with | [_, _], _ => rfl
    have kb_apart_lines : KB0 d_apart_lines ["life", "places"] ["places", "life"] := F_apart_lines.kb0 fun _ _ _ _ _ _ ws hl => match ws, hl with | [_, _], _ => rfl
    have kb_given_up : KB0 d_given_up ["life", "moment"] ["moment", "life"] := F_given_up.kb0 fun _ _ _ _ _ _ ws hl => match ws, hl with | [_, _], _ => rfl
    have kb_still_needed : KB0 d_still_needed ["life", "moment"] ["moment", "life"] := F_still_needed.kb0 fun _ _ _ _ _ _ ws hl => match ws, hl with | [_, _], _ => rfl
    have kb_least_places : KB0 d_least_places ["life"] ["life"] := F_least_places.kb0 fun _ _ _ _ _ _ ws hl => match ws, hl with | [_], _ => rfl
    have kb_with_roots : KB0 d_with_roots ["life", "positions"] ["positions", "life"] := F_with_roots.kb0 fun _ _ _ _ _ _ ws hl => match ws, hl with | [_, _], _ => rfl
    have kb_places_with : KB0 d_places_with ["life", "roots"] ["roots", "life"] := F_places_with.kb0 fun _ _ _ _ _ _ ws hl => match ws, hl with | [_, _], _ => rfl
    have kb_are_apart_lines : KB0 d_are_apart_lines ["life", "places", "value"] ["value", "places", "life"] := F_are_apart_lines.kb0 fun _ _ _ _ _ _ ws hl => match ws, hl with | [_, _, _], _ => rfl
    have kb_disc_cells : KB0 d_disc_cells ["pages", "places"] ["places", "pages"] := F_disc_cells.kb0 fun _ _ _ _ _ _ ws hl => match ws, hl with | [_, _], _ => rfl
    have kb_most_places : KB0 d_most_places ["cells", "pages"] ["pages", "cells"] := F_most_places.kb0 fun _ _ _ _ _ _ ws hl => match ws, hl with | [_, _], _ => rfl
    have hF4 : ∀ p ∈ [(f_fits, (spFits K)), (f_first_full, (spFirstF K)), (f_roots_for, (spRoots K)), (f_apart_lines, (spApartL K))], CalR (cxOf (L2.CX P w) P w K mg base N_by_name "_law_by_name" (defScope s_by_name) f cdv A outer s H E) E ["places", "life"] p.1 p.2 := by
      intro p hp
      simp only [List.mem_cons, List.not_mem_nil, or_false] at hp
      rcases hp with rfl | rfl | rfl | rfl
      · exact ⟨_, _, _, _, G_fits, hr.mono (by decide), F_fits.kp, kb_fits, (passes_call (takes_of rfl rfl rfl rfl) (fun _ _ _ _ h => h))⟩
      · exact ⟨_, _, _, _, G_first_full, hr.mono (by decide), F_first_full.kp, kb_first_full, (passes_call (takes_of rfl rfl rfl rfl) (fun _ _ _ _ h => h))⟩
      · exact ⟨_, _, _, _, G_roots_for, hr.mono (by decide), F_roots_for.kp, kb_roots_for, (passes_call (takes_of rfl rfl rfl rfl) (fun _ _ _ _ h => h))⟩
      · exact ⟨_, _, _, _, G_apart_lines, hr.mono (by decide), F_apart_lines.kp, kb_apart_lines, (passes_call (takes_of rfl rfl rfl rfl) (fun _ _ _ _ h => h))⟩
    have hF2 : ∀ p ∈ [(f_given_up, (spGivenUp K)), (f_still_needed, (spStill K))], CalR (cxOf (L2.CX P w) P w K mg base N_by_name "_law_by_name" (defScope s_by_name) f cdv A outer s H E) E ["moment", "life"] p.1 p.2 := by
      intro p hp
      simp only [List.mem_cons, List.not_mem_nil, or_false] at hp
      rcases hp with rfl | rfl
      · exact ⟨_, _, _, _, G_given_up, hr.mono (by decide), F_given_up.kp, kb_given_up, (passes_call (takes_of rfl rfl rfl rfl) (fun _ _ _ _ h => h))⟩
      · exact ⟨_, _, _, _, G_still_needed, hr.mono (by decide), F_still_needed.kp, kb_still_needed, (passes_call (takes_of rfl rfl rfl rfl) (fun _ _ _ _ h => h))⟩
    have nd := sc_by_name.nd
    refine ⟨_, id (pss_cons (ps_if (pt_cmpR op_lt (pv 0) (pe_int) (nomark _)) (pss_one (ps_ret (pe_callVR (ks := ["places", "life"]) (Fs := [(f_fits, (spFits K)), (f_first_full, (spFirstF K)), (f_roots_for, (spRoots K)), (f_apart_lines, (spApartL K))]) (pe_ix ix_list (pe_lst (pa_cons (pe_glob (v := .ref f_fits) (by rfl) g_fits rfl) (pa_cons (pe_glob (v := .ref f_first_full) (by rfl) g_first_full rfl) (pa_cons (pe_glob (v := .ref f_roots_for) (by rfl) g_roots_for rfl) (pa_cons (pe_glob (v := .ref f_apart_lines) (by rfl) g_apart_lines rfl) (pa_nil)))))) (pv 0) (fun _ _ => rfl)) hF4 (pk_cons (pe_ix ix_list (pv 1) pe_int (fun _ _ => rfl)) (pk_cons (pe_ix ix_list (pv 1) pe_int (fun _ _ => rfl)) (pk_nil)))))) (pss_nil))
      (pss_cons (ps_if (pt_cmpR op_lt (pv 0) (pe_int) (nomark _)) (pss_one (ps_ret (pe_callVR (ks := ["moment", "life"]) (Fs := [(f_given_up, (spGivenUp K)), (f_still_needed, (spStill K))]) (pe_ix ix_list (pe_lst (pa_cons (pe_glob (v := .ref f_given_up) (by rfl) g_given_up rfl) (pa_cons (pe_glob (v := .ref f_still_needed) (by rfl) g_still_needed rfl) (pa_nil)))) (pe_op op_sub (pv 0) pe_int) (fun _ _ => rfl)) hF2 (pk_cons (pe_ix ix_list (pv 1) pe_int (fun _ _ => rfl)) (pk_cons (pe_ix ix_list (pv 1) pe_int (fun _ _ => rfl)) (pk_nil)))))) (pss_nil))
      (pss_cons (ps_if (pt_cmpR op_lt (pv 0) (pe_int) (nomark _)) (pss_one (ps_ret (pe_ifExp (pt_cmpR op_eq (pv 0) (pe_int) (nomark _)) (pe_callKR G_least_places (hr.mono (by decide)) rfl g_least_places F_least_places.kp kb_least_places (passes_call (takes_of rfl rfl rfl rfl) (fun _ _ _ _ h => h)) (pk_cons (pe_ix ix_list (pv 1) pe_int (fun _ _ => rfl)) (pk_nil))) (pe_callKR G_with_roots (hr.mono (by decide)) rfl g_with_roots F_with_roots.kp kb_with_roots (passes_call (takes_of rfl rfl rfl rfl) (fun _ _ _ _ h => h)) (pk_cons (pe_ix ix_list (pv 1) pe_int (fun _ _ => rfl)) (pk_cons (pe_ix ix_list (pv 1) pe_int (fun _ _ => rfl)) (pk_nil))))))) (pss_nil))
      (pss_cons (ps_if (pt_cmpR op_lt (pv 0) (pe_int) (nomark _)) (pss_one (ps_ret (pe_ifExp (pt_cmpR op_eq (pv 0) (pe_int) (nomark _)) (pe_callKR G_places_with (hr.mono (by decide)) rfl g_places_with F_places_with.kp kb_places_with (passes_call (takes_of rfl rfl rfl rfl) (fun _ _ _ _ h => h)) (pk_cons (pe_ix ix_list (pv 1) pe_int (fun _ _ => rfl)) (pk_cons (pe_ix ix_list (pv 1) pe_int (fun _ _ => rfl)) (pk_nil)))) (pe_callKR G_are_apart_lines (hr.mono (by decide)) rfl g_are_apart_lines F_are_apart_lines.kp kb_are_apart_lines (passes_call (takes_of rfl rfl rfl rfl) (fun _ _ _ _ h => h)) (pk_cons (pe_ix ix_list (pv 1) pe_int (fun _ _ => rfl)) (pk_cons (pe_ix ix_list (pv 1) pe_int (fun _ _ => rfl)) (pk_cons (pe_ix ix_list (pv 1) pe_int (fun _ _ => rfl)) (pk_nil)))))))) (pss_nil))
      (pss_one (ps_ret (pe_ifExp (pt_cmpR op_eq (pv 0) (pe_int) (nomark _)) (pe_callKR G_disc_cells (hr.mono (by decide)) rfl g_disc_cells F_disc_cells.kp kb_disc_cells (passes_call (takes_of rfl rfl rfl rfl) (fun _ _ _ _ h => h)) (pk_cons (pe_ix ix_list (pv 1) pe_int (fun _ _ => rfl)) (pk_cons (pe_ix ix_list (pv 1) pe_int (fun _ _ => rfl)) (pk_nil)))) (pe_callKR G_most_places (hr.mono (by decide)) rfl g_most_places F_most_places.kp kb_most_places (passes_call (takes_of rfl rfl rfl rfl) (fun _ _ _ _ h => h)) (pk_cons (pe_ix ix_list (pv 1) pe_int (fun _ _ => rfl)) (pk_cons (pe_ix ix_list (pv 1) pe_int (fun _ _ => rfl)) (pk_nil))))))))))), ?_⟩
    have sl : (100 : Nat) ≤ sizeLine := by decide
    have two : k ≠ 6 → k ≠ 9 → ∃ x y r, xs = x :: y :: r ∧ ∀ H', Same H H' → sp2 K k [x, y] H' Q E := fun n6 n9 => by
      have e : ∀ H', doorS K k xs H' Q E = ∃ x y r, xs = x :: y :: r ∧ sp2 K k [x, y] H' Q E := fun H' => by
        unfold doorS
        rw [if_neg n6, if_neg n9]
      obtain ⟨x, y, r, rfl, _⟩ := (e H) ▸ kk H (Same.refl _)
      refine ⟨x, y, r, rfl, fun H' s' => ?_⟩
      obtain ⟨x', y', r', e2, q⟩ := (e H') ▸ kk H' s'
      cases e2
      exact q
    have cs : k = 0 ∨ k = 1 ∨ k = 2 ∨ k = 3 ∨ k = 4 ∨ k = 5 ∨ k = 6 ∨ k = 7 ∨ k = 8 ∨ k = 9 ∨ k = 10 ∨ k = 11 := by omega
    rcases cs with rfl | rfl | rfl | rfl | rfl | rfl | rfl | rfl | rfl | rfl | rfl | rfl
    · obtain ⟨x, y, r, rfl, q⟩ := two (by decide) (by decide)
      refine ⟨_, rfl, _, _, rfl, rfl, _, rfl, itB (c := true) (by decide) (fun _ => ?_) (fun z => by cases z)⟩
      refine ⟨(by show 4 ≤ sizeLine; omega), fun G hG => ?_⟩
      have sG := Same.updf (o := .lst [.ref f_fits, .ref f_first_full, .ref f_roots_for, .ref f_apart_lines]) hG
      exact ⟨_, rfl, G, _, 0, .ref f_fits, rfl, rfl, SqL.of upd_same, atI_nat (j := 0) rfl, (f_fits, spFits K), .head _, rfl, _, rfl, L, _, 1, y, rfl, rfl, SqL.of (sG _ _ hL), atI_nat (j := 1) rfl, _, rfl, L, _, 0, x, rfl, rfl, SqL.of (sG _ _ hL), atI_nat (j := 0) rfl, q _ sG⟩
    · obtain ⟨x, y, r, rfl, q⟩ := two (by decide) (by decide)
      refine ⟨_, rfl, _, _, rfl, rfl, _, rfl, itB (c := true) (by decide) (fun _ => ?_) (fun z => by cases z)⟩
      refine ⟨(by show 4 ≤ sizeLine; omega), fun G hG => ?_⟩
      have sG := Same.updf (o := .lst [.ref f_fits, .ref f_first_full, .ref f_roots_for, .ref f_apart_lines]) hG
      exact ⟨_, rfl, G, _, 1, .ref f_first_full, rfl, rfl, SqL.of upd_same, atI_nat (j := 1) rfl, (f_first_full, spFirstF K), .tail _ (.head _), rfl, _, rfl, L, _, 1, y, rfl, rfl, SqL.of (sG _ _ hL), atI_nat (j := 1) rfl, _, rfl, L, _, 0, x, rfl, rfl, SqL.of (sG _ _ hL), atI_nat (j := 0) rfl, q _ sG⟩
    · obtain ⟨x, y, r, rfl, q⟩ := two (by decide) (by decide)
      refine ⟨_, rfl, _, _, rfl, rfl, _, rfl, itB (c := true) (by decide) (fun _ => ?_) (fun z => by cases z)⟩
      refine ⟨(by show 4 ≤ sizeLine; omega), fun G hG => ?_⟩
      have sG := Same.updf (o := .lst [.ref f_fits, .ref f_first_full, .ref f_roots_for, .ref f_apart_lines]) hG
      exact ⟨_, rfl, G, _, 2, .ref f_roots_for, rfl, rfl, SqL.of upd_same, atI_nat (j := 2) rfl, (f_roots_for, spRoots K), .tail _ (.tail _ (.head _)), rfl, _, rfl, L, _, 1, y, rfl, rfl, SqL.of (sG _ _ hL), atI_nat (j := 1) rfl, _, rfl, L, _, 0, x, rfl, rfl, SqL.of (sG _ _ hL), atI_nat (j := 0) rfl, q _ sG⟩
    · obtain ⟨x, y, r, rfl, q⟩ := two (by decide) (by decide)
      refine ⟨_, rfl, _, _, rfl, rfl, _, rfl, itB (c := true) (by decide) (fun _ => ?_) (fun z => by cases z)⟩
      refine ⟨(by show 4 ≤ sizeLine; omega), fun G hG => ?_⟩
      have sG := Same.updf (o := .lst [.ref f_fits, .ref f_first_full, .ref f_roots_for, .ref f_apart_lines]) hG
      exact ⟨_, rfl, G, _, 3, .ref f_apart_lines, rfl, rfl, SqL.of upd_same, atI_nat (j := 3) rfl, (f_apart_lines, spApartL K), .tail _ (.tail _ (.tail _ (.head _))), rfl, _, rfl, L, _, 1, y, rfl, rfl, SqL.of (sG _ _ hL), atI_nat (j := 1) rfl, _, rfl, L, _, 0, x, rfl, rfl, SqL.of (sG _ _ hL), atI_nat (j := 0) rfl, q _ sG⟩
    · obtain ⟨x, y, r, rfl, q⟩ := two (by decide) (by decide)
      refine ⟨_, rfl, _, _, rfl, rfl, _, rfl, itB (c := false) (by decide) (fun z => by cases z) (fun _ => ?_)⟩
      refine ⟨_, rfl, _, _, rfl, rfl, _, rfl, itB (c := true) (by decide) (fun _ => ?_) (fun z => by cases z)⟩
      refine ⟨(by show 2 ≤ sizeLine; omega), fun G hG => ?_⟩
      have sG := Same.updf (o := .lst [.ref f_given_up, .ref f_still_needed]) hG
      exact ⟨_, rfl, _, _, rfl, rfl, G, _, 0, .ref f_given_up, rfl, rfl, SqL.of upd_same, atI_nat (j := 0) rfl, (f_given_up, spGivenUp K), .head _, rfl, _, rfl, L, _, 1, y, rfl, rfl, SqL.of (sG _ _ hL), atI_nat (j := 1) rfl, _, rfl, L, _, 0, x, rfl, rfl, SqL.of (sG _ _ hL), atI_nat (j := 0) rfl, q _ sG⟩
    · obtain ⟨x, y, r, rfl, q⟩ := two (by decide) (by decide)
      refine ⟨_, rfl, _, _, rfl, rfl, _, rfl, itB (c := false) (by decide) (fun z => by cases z) (fun _ => ?_)⟩
      refine ⟨_, rfl, _, _, rfl, rfl, _, rfl, itB (c := true) (by decide) (fun _ => ?_) (fun z => by cases z)⟩
      refine ⟨(by show 2 ≤ sizeLine; omega), fun G hG => ?_⟩
      have sG := Same.updf (o := .lst [.ref f_given_up, .ref f_still_needed]) hG
      exact ⟨_, rfl, _, _, rfl, rfl, G, _, 1, .ref f_still_needed, rfl, rfl, SqL.of upd_same, atI_nat (j := 1) rfl, (f_still_needed, spStill K), .tail _ (.head _), rfl, _, rfl, L, _, 1, y, rfl, rfl, SqL.of (sG _ _ hL), atI_nat (j := 1) rfl, _, rfl, L, _, 0, x, rfl, rfl, SqL.of (sG _ _ hL), atI_nat (j := 0) rfl, q _ sG⟩
    · have kk := kk H (Same.refl _)
      unfold doorS at kk
      rw [if_pos rfl] at kk
      obtain ⟨x, r, rfl, q⟩ := kk
      refine ⟨_, rfl, _, _, rfl, rfl, _, rfl, itB (c := false) (by decide) (fun z => by cases z) (fun _ => ?_)⟩
      refine ⟨_, rfl, _, _, rfl, rfl, _, rfl, itB (c := false) (by decide) (fun z => by cases z) (fun _ => ?_)⟩
      refine ⟨_, rfl, _, _, rfl, rfl, _, rfl, itB (c := true) (by decide) (fun _ => ?_) (fun z => by cases z)⟩
      refine ⟨_, rfl, rfl, _, rfl, itB (c := true) (by decide) (fun _ => ?_) (fun z => by cases z)⟩
      exact ⟨_, rfl, L, _, 0, x, rfl, rfl, SqL.of (hL), atI_nat (j := 0) rfl, q⟩
    · obtain ⟨x, y, r, rfl, q⟩ := two (by decide) (by decide)
      refine ⟨_, rfl, _, _, rfl, rfl, _, rfl, itB (c := false) (by decide) (fun z => by cases z) (fun _ => ?_)⟩
      refine ⟨_, rfl, _, _, rfl, rfl, _, rfl, itB (c := false) (by decide) (fun z => by cases z) (fun _ => ?_)⟩
      refine ⟨_, rfl, _, _, rfl, rfl, _, rfl, itB (c := true) (by decide) (fun _ => ?_) (fun z => by cases z)⟩
      refine ⟨_, rfl, rfl, _, rfl, itB (c := false) (by decide) (fun z => by cases z) (fun _ => ?_)⟩
      exact ⟨_, rfl, L, _, 1, y, rfl, rfl, SqL.of (hL), atI_nat (j := 1) rfl, _, rfl, L, _, 0, x, rfl, rfl, SqL.of (hL), atI_nat (j := 0) rfl, q _ (Same.refl _)⟩
    · obtain ⟨x, y, r, rfl, q⟩ := two (by decide) (by decide)
      refine ⟨_, rfl, _, _, rfl, rfl, _, rfl, itB (c := false) (by decide) (fun z => by cases z) (fun _ => ?_)⟩
      refine ⟨_, rfl, _, _, rfl, rfl, _, rfl, itB (c := false) (by decide) (fun z => by cases z) (fun _ => ?_)⟩
      refine ⟨_, rfl, _, _, rfl, rfl, _, rfl, itB (c := false) (by decide) (fun z => by cases z) (fun _ => ?_)⟩
      refine ⟨_, rfl, _, _, rfl, rfl, _, rfl, itB (c := true) (by decide) (fun _ => ?_) (fun z => by cases z)⟩
      refine ⟨_, rfl, rfl, _, rfl, itB (c := true) (by decide) (fun _ => ?_) (fun z => by cases z)⟩
      exact ⟨_, rfl, L, _, 1, y, rfl, rfl, SqL.of (hL), atI_nat (j := 1) rfl, _, rfl, L, _, 0, x, rfl, rfl, SqL.of (hL), atI_nat (j := 0) rfl, q _ (Same.refl _)⟩
    · have kk := kk H (Same.refl _)
      unfold doorS at kk
      rw [if_neg (by decide), if_pos rfl] at kk
      obtain ⟨x, y, z, r, rfl, q⟩ := kk
      refine ⟨_, rfl, _, _, rfl, rfl, _, rfl, itB (c := false) (by decide) (fun z => by cases z) (fun _ => ?_)⟩
      refine ⟨_, rfl, _, _, rfl, rfl, _, rfl, itB (c := false) (by decide) (fun z => by cases z) (fun _ => ?_)⟩
      refine ⟨_, rfl, _, _, rfl, rfl, _, rfl, itB (c := false) (by decide) (fun z => by cases z) (fun _ => ?_)⟩
      refine ⟨_, rfl, _, _, rfl, rfl, _, rfl, itB (c := true) (by decide) (fun _ => ?_) (fun z => by cases z)⟩
      refine ⟨_, rfl, rfl, _, rfl, itB (c := false) (by decide) (fun z => by cases z) (fun _ => ?_)⟩
      exact ⟨_, rfl, L, _, 2, z, rfl, rfl, SqL.of (hL), atI_nat (j := 2) rfl, _, rfl, L, _, 1, y, rfl, rfl, SqL.of (hL), atI_nat (j := 1) rfl, _, rfl, L, _, 0, x, rfl, rfl, SqL.of (hL), atI_nat (j := 0) rfl, q⟩
    · obtain ⟨x, y, r, rfl, q⟩ := two (by decide) (by decide)
      refine ⟨_, rfl, _, _, rfl, rfl, _, rfl, itB (c := false) (by decide) (fun z => by cases z) (fun _ => ?_)⟩
      refine ⟨_, rfl, _, _, rfl, rfl, _, rfl, itB (c := false) (by decide) (fun z => by cases z) (fun _ => ?_)⟩
      refine ⟨_, rfl, _, _, rfl, rfl, _, rfl, itB (c := false) (by decide) (fun z => by cases z) (fun _ => ?_)⟩
      refine ⟨_, rfl, _, _, rfl, rfl, _, rfl, itB (c := false) (by decide) (fun z => by cases z) (fun _ => ?_)⟩
      refine ⟨_, rfl, rfl, _, rfl, itB (c := true) (by decide) (fun _ => ?_) (fun z => by cases z)⟩
      exact ⟨_, rfl, L, _, 1, y, rfl, rfl, SqL.of (hL), atI_nat (j := 1) rfl, _, rfl, L, _, 0, x, rfl, rfl, SqL.of (hL), atI_nat (j := 0) rfl, q _ (Same.refl _)⟩
    · obtain ⟨x, y, r, rfl, q⟩ := two (by decide) (by decide)
      refine ⟨_, rfl, _, _, rfl, rfl, _, rfl, itB (c := false) (by decide) (fun z => by cases z) (fun _ => ?_)⟩
      refine ⟨_, rfl, _, _, rfl, rfl, _, rfl, itB (c := false) (by decide) (fun z => by cases z) (fun _ => ?_)⟩
      refine ⟨_, rfl, _, _, rfl, rfl, _, rfl, itB (c := false) (by decide) (fun z => by cases z) (fun _ => ?_)⟩
      refine ⟨_, rfl, _, _, rfl, rfl, _, rfl, itB (c := false) (by decide) (fun z => by cases z) (fun _ => ?_)⟩
      refine ⟨_, rfl, rfl, _, rfl, itB (c := false) (by decide) (fun z => by cases z) (fun _ => ?_)⟩
      exact ⟨_, rfl, L, _, 1, y, rfl, rfl, SqL.of (hL), atI_nat (j := 1) rfl, _, rfl, L, _, 0, x, rfl, rfl, SqL.of (hL), atI_nat (j := 0) rfl, q _ (Same.refl _)⟩
end
end K36
set_option Elab.async false
set_option linter.all false
set_option maxRecDepth 100000
set_option maxHeartbeats 8000000
/-! What word an error has. -/
namespace K36
open PySem PySem.Spec PyProof.Rows L2 KB
def clsOf (K : PySem.W.Frag) : Nat → Addr
  | 0 => cRun K
  | 1 => cCnt K
  | 2 => cMom K
  | _ => cFul K
def wordOf : Nat → Str
  | 0 => "run"
  | 1 => "count"
  | 2 => "moment"
  | _ => "full"
/-- what is read of the classes of errors -/
structure ExW (K : PySem.W.Frag) (mg : Str → Option Value) : Prop where
  T : ∀ e, e < 4 → ∃ fI, ErrC K (clsOf K e) fI
  kit : ∀ e j, e < 4 → j < 4 → PySem.W.kitOne K (.ref (clsOf K e)) (.ref (clsOf K j)) = some (decide (e = j))
  kv : ∀ e, e < 4 → PySem.W.kitOne K (.ref (clsOf K e)) (.type "ValueError") = some true
  kS : ∀ e, e < 4 → PySem.W.exmOne K (.ref (clsOf K e)) (.ref (cS K)) = some true
  gRun : mg "InvalidRun" = some (.ref (cRun K))
  gCnt : mg "InvalidCount" = some (.ref (cCnt K))
  gMom : mg "InvalidMoment" = some (.ref (cMom K))
  gFul : mg "Full" = some (.ref (cFul K))
  gS : mg "StoreError" = some (.ref (cS K))
def spWord (K : PySem.W.Frag) : Sp := fun vs H Q _ => ∃ (x v : V) (e : Nat), vs = [x] ∧ e < 4 ∧ Kept H (clsOf K e) v x ∧ ∀ H', Same H H' → Q (.str (wordOf e)) H'
section
variable {P : Program} {w : World} {K : PySem.W.Frag} {mg : Str → Option Value} {base : Heap}
abbrev s_word_of : Stmt := top 57
abbrev N_word_of : List Str := ["_law_error", "_law_kinds"]
theorem sc_word_of : FnScope N_word_of ["_law_error"] (defScope s_word_of) := ⟨rfl, rfl, rfl, by decide +kernel, rfl, by decide +kernel, by decide +kernel⟩
theorem ok_word_of {f : Addr} {fd : FuncData} (F : FnP K "_law_word_of" s_word_of f fd) (Z : FreeS mg) (W : ExW K mg) :
    FnOk P w K mg base CX0 1 f fd ["_law_error"] (spWord K) := by
  refine F.ok sc_word_of (fun vs H Q E h => ?_) (fun cdv A outer s H vs Q E hr h => ?_)
  · obtain ⟨x, v, e, rfl, _⟩ := h
    rfl
  · obtain ⟨x, v, e, rfl, he, hk, k⟩ := h
    have hu : (A.deeper (envOfC "_law_word_of" (defScope s_word_of) s.heap.objs.size f cdv)).units + 65 < cLine := by
      have := hr.un
      omega
    have sl : (100 : Nat) ≤ sizeLine := by decide
    obtain ⟨fI, T⟩ := W.T e he
    have nd := sc_word_of.nd
    refine ⟨_, PSs.nox (pss_cons (ps_set (i := 1) nd rfl (Or.inl rfl) (pe_lst (pa_cons (pe_callB call_isK (by rfl) Z.isi (by decide +kernel) (pa_cons (pv 0) (pa_cons (pe_glob (v := .ref (cRun K)) (by rfl) W.gRun rfl) pa_nil))) (pa_cons (pe_callB call_isK (by rfl) Z.isi (by decide +kernel) (pa_cons (pv 0) (pa_cons (pe_glob (v := .ref (cCnt K)) (by rfl) W.gCnt rfl) pa_nil))) (pa_cons (pe_callB call_isK (by rfl) Z.isi (by decide +kernel) (pa_cons (pv 0) (pa_cons (pe_glob (v := .ref (cMom K)) (by rfl) W.gMom rfl) pa_nil))) (pa_cons (pe_callB call_isK (by rfl) Z.isi (by decide +kernel) (pa_cons (pv 0) (pa_cons (pe_glob (v := .ref (cFul K)) (by rfl) W.gFul rfl) pa_nil))) (pa_nil)))))))
      (pss_one (ps_ret (pe_ifExp (pt_cmpR op_eq (pe_bm PySem.F.plainAttrs_list PySem.F.slot_list_count PySem.F.type_list_count (mt_countD hu) (pv 1) (pa_cons pe_bl pa_nil)) (pe_int) (nomark _)) (pe_ix ix_list (pe_lst (pa_cons (pe_str) (pa_cons (pe_str) (pa_cons (pe_str) (pa_cons (pe_str) (pa_nil)))))) (pe_bm PySem.F.plainAttrs_list PySem.F.slot_list_index PySem.F.type_list_index (mt_indexD hu) (pv 1) (pa_cons pe_bl pa_nil)) (fun _ _ => rfl)) (pe_str))))), ?_⟩
    have isi : ∀ j, j < 4 → PySem.W.kitOne K (.ref (clsOf K e)) (.ref (clsOf K j)) = some (decide (e = j)) := fun j hj => W.kit e j he hj
    refine ⟨_, rfl, x, _, v, _, _, decide (e = 0), rfl, hk, T.xc, ClsV.own (clsOf K 0), isi 0 (by decide), ?_⟩
    refine ⟨_, rfl, x, _, v, _, _, decide (e = 1), rfl, hk, T.xc, ClsV.own (clsOf K 1), isi 1 (by decide), ?_⟩
    refine ⟨_, rfl, x, _, v, _, _, decide (e = 2), rfl, hk, T.xc, ClsV.own (clsOf K 2), isi 2 (by decide), ?_⟩
    refine ⟨_, rfl, x, _, v, _, _, decide (e = 3), rfl, hk, T.xc, ClsV.own (clsOf K 3), isi 3 (by decide), ?_⟩
    refine ⟨(by show 4 ≤ sizeLine; omega), fun L hL => ?_⟩
    have sL := Same.updf (o := .lst [.bl (decide (e = 0)), .bl (decide (e = 1)), .bl (decide (e = 2)), .bl (decide (e = 3))]) hL
    have eL : upd H L (.lst [.bl (decide (e = 0)), .bl (decide (e = 1)), .bl (decide (e = 2)), .bl (decide (e = 3))]) L = some (.lst [.bl (decide (e = 0)), .bl (decide (e = 1)), .bl (decide (e = 2)), .bl (decide (e = 3))]) := upd_same
    generalize upd H L (.lst [.bl (decide (e = 0)), .bl (decide (e = 1)), .bl (decide (e = 2)), .bl (decide (e = 3))]) = G at sL eL ⊢
    have kk := k
    have dl : Dp K G (.ref L) (.list [.bool (decide (e = 0)), .bool (decide (e = 1)), .bool (decide (e = 2)), .bool (decide (e = 3))]) := .lst (SqL.of eL) (.cons (.bl _) (.cons (.bl _) (.cons (.bl _) (.cons (.bl _) .nil))))
    refine ⟨_, rfl, .inl ⟨rfl, _, SqL.of eL⟩, ?_⟩
    have e4 : e = 0 ∨ e = 1 ∨ e = 2 ∨ e = 3 := by omega
    rcases e4 with rfl | rfl | rfl | rfl
    · refine ⟨L, _, .bool true, _, rfl, rfl, dl, .bl true, by decide +kernel, by decide +kernel, ?_⟩
      refine ⟨rfl, _, rfl, itB (c := true) (by decide +kernel) (fun _ => ?_) (fun z => by cases z)⟩
      refine ⟨(by show 4 ≤ sizeLine; omega), fun F hF => ?_⟩
      have sF := Same.updf (o := .lst [.str "run", .str "count", .str "moment", .str "full"]) hF
      refine ⟨_, rfl, .inl ⟨rfl, _, SqL.of (sF _ _ eL)⟩, L, .bl true, .bool true, _, 0, .bool true, rfl, rfl, .lst (SqL.of (sF _ _ eL)) (.cons (.bl _) (.cons (.bl _) (.cons (.bl _) (.cons (.bl _) .nil)))), .bl true, by decide +kernel, by decide +kernel, rfl, by decide +kernel, ?_, ?_⟩
      · intro m z hm hz
        match m, hm, hz with
        | m, hm, _ => exact absurd hm (Nat.not_lt_zero m)
      · exact ⟨F, _, 0, .str (wordOf 0), rfl, rfl, SqL.of upd_same, rfl, k _ (sL.trans sF)⟩
    · refine ⟨L, _, .bool true, _, rfl, rfl, dl, .bl true, by decide +kernel, by decide +kernel, ?_⟩
      refine ⟨rfl, _, rfl, itB (c := true) (by decide +kernel) (fun _ => ?_) (fun z => by cases z)⟩
      refine ⟨(by show 4 ≤ sizeLine; omega), fun F hF => ?_⟩
      have sF := Same.updf (o := .lst [.str "run", .str "count", .str "moment", .str "full"]) hF
      refine ⟨_, rfl, .inl ⟨rfl, _, SqL.of (sF _ _ eL)⟩, L, .bl true, .bool true, _, 1, .bool true, rfl, rfl, .lst (SqL.of (sF _ _ eL)) (.cons (.bl _) (.cons (.bl _) (.cons (.bl _) (.cons (.bl _) .nil)))), .bl true, by decide +kernel, by decide +kernel, rfl, by decide +kernel, ?_, ?_⟩
      · intro m z hm hz
        match m, hm, hz with
        | 0, _, hz => cases hz; decide +kernel
      · exact ⟨F, _, 1, .str (wordOf 1), rfl, rfl, SqL.of upd_same, rfl, k _ (sL.trans sF)⟩
    · refine ⟨L, _, .bool true, _, rfl, rfl, dl, .bl true, by decide +kernel, by decide +kernel, ?_⟩
      refine ⟨rfl, _, rfl, itB (c := true) (by decide +kernel) (fun _ => ?_) (fun z => by cases z)⟩
      refine ⟨(by show 4 ≤ sizeLine; omega), fun F hF => ?_⟩
      have sF := Same.updf (o := .lst [.str "run", .str "count", .str "moment", .str "full"]) hF
      refine ⟨_, rfl, .inl ⟨rfl, _, SqL.of (sF _ _ eL)⟩, L, .bl true, .bool true, _, 2, .bool true, rfl, rfl, .lst (SqL.of (sF _ _ eL)) (.cons (.bl _) (.cons (.bl _) (.cons (.bl _) (.cons (.bl _) .nil)))), .bl true, by decide +kernel, by decide +kernel, rfl, by decide +kernel, ?_, ?_⟩
      · intro m z hm hz
        match m, hm, hz with
        | 0, _, hz => cases hz; decide +kernel
        | 1, _, hz => cases hz; decide +kernel
      · exact ⟨F, _, 2, .str (wordOf 2), rfl, rfl, SqL.of upd_same, rfl, k _ (sL.trans sF)⟩
    · refine ⟨L, _, .bool true, _, rfl, rfl, dl, .bl true, by decide +kernel, by decide +kernel, ?_⟩
      refine ⟨rfl, _, rfl, itB (c := true) (by decide +kernel) (fun _ => ?_) (fun z => by cases z)⟩
      refine ⟨(by show 4 ≤ sizeLine; omega), fun F hF => ?_⟩
      have sF := Same.updf (o := .lst [.str "run", .str "count", .str "moment", .str "full"]) hF
      refine ⟨_, rfl, .inl ⟨rfl, _, SqL.of (sF _ _ eL)⟩, L, .bl true, .bool true, _, 3, .bool true, rfl, rfl, .lst (SqL.of (sF _ _ eL)) (.cons (.bl _) (.cons (.bl _) (.cons (.bl _) (.cons (.bl _) .nil)))), .bl true, by decide +kernel, by decide +kernel, rfl, by decide +kernel, ?_, ?_⟩
      · intro m z hm hz
        match m, hm, hz with
        | 0, _, hz => cases hz; decide +kernel
        | 1, _, hz => cases hz; decide +kernel
        | 2, _, hz => cases hz; decide +kernel
      · exact ⟨F, _, 3, .str (wordOf 3), rfl, rfl, SqL.of upd_same, rfl, k _ (sL.trans sF)⟩
end
end K36
set_option Elab.async false
set_option linter.all false
set_option maxRecDepth 100000
set_option maxHeartbeats 8000000
/-! The very thing that was handed in. -/
namespace K36
open PySem PySem.Spec PyProof.Rows L2 KB
def VeryK (K : PySem.W.Frag) (H : Hp) (x : V) : Prop :=
  (∃ a xs, x = .ref a ∧ H a = some (.lst xs) ∧ xs.length < sizeLine) ∨ (∃ a, x = .ref a ∧ H a = some (.dK [])) ∨ ∃ t, TyX K H x (.type t) ∧ kitB t "list" = some false ∧ kitB t "dict" = some false
theorem VeryK.of {K : PySem.W.Frag} {H : Hp} {n : Nat} {x : V} {d : PyData} (h : TD K H n x d) (nd : ∀ p r, d ≠ .dict (p :: r)) : VeryK K H x := by
  have flat : FlatD x d → VeryK K H x := fun h => by
    obtain ⟨t, ty, k1, k2, k3, _⟩ := FlatD.ty (K := K) (H := H) h
    exact .inr (.inr ⟨t, ty, k1, k3⟩)
  cases n with
  | zero => exact flat h
  | succ n =>
    rcases h with h | ⟨a, xs, ds, rfl, e2, e3, e4, _⟩ | ⟨a, ps, m, rfl, _, ha, ed⟩
    · exact flat h
    · rcases e4 with ⟨h, rfl⟩ | ⟨h, rfl⟩
      · exact .inl ⟨a, xs, rfl, h, by have : (1000 : Nat) < sizeLine := by decide
                                      omega⟩
      · exact .inr (.inr ⟨"tuple", sqT_ty h, by decide +kernel, by decide +kernel⟩)
    · cases ps with
      | nil => exact .inr (.inl ⟨a, rfl, ha⟩)
      | cons p ps => exact absurd ed (nd _ _)
def spVery (K : PySem.W.Frag) : Sp := fun vs H Q _ => ∃ (x : V) (d : PyData), vs = [x, x] ∧ TD K H 9 x d ∧ VeryK K H x ∧ ∀ H', Same H H' → Q (.bl true) H'
theorem cut_last (xs : List V) (y : V) : cutV (xs ++ [y]) (some (-1)) none = [y] := by
  unfold cutV
  have h1 : HT.sIx (xs ++ [y]).length 0 (some (-1)) = xs.length := by
    unfold HT.sIx
    simp only [List.length_append, List.length_cons, List.length_nil]
    rw [if_pos (by omega)]
    omega
  have h2 : HT.sIx (xs ++ [y]).length (xs ++ [y]).length none = xs.length + 1 := by
    unfold HT.sIx
    simp
  rw [h1, h2, List.drop_left, Nat.add_sub_cancel_left]
  rfl
section
variable {P : Program} {w : World} {K : PySem.W.Frag} {mg : Str → Option Value} {base : Heap}
abbrev s_is_very : Stmt := top 53
abbrev N_is_very : List Str := ["_law_mine", "_law_theirs", "_law_is_same"]
theorem sc_is_very : FnScope N_is_very ["_law_mine", "_law_theirs"] (defScope s_is_very) := ⟨rfl, rfl, rfl, by decide +kernel, rfl, by decide +kernel, by decide +kernel⟩
theorem ok_is_very {f : Addr} {fd : FuncData} (F : FnP K "_law_is_very" s_is_very f fd) (Z : FreeS mg)
    {f_exact : Addr} {d_exact : FuncData} (g_exact : mg "_law_exact" = some (.ref f_exact)) (F_exact : FnP K "_law_exact" s_exact f_exact d_exact) (GA_exact : ∀ n : Nat, FnOk P w K mg base CX0 (n + 1) f_exact d_exact ["_law_mine", "_law_theirs"] (spExactD K n)) :
    FnOk P w K mg base CX0 11 f fd ["_law_mine", "_law_theirs"] (spVery K) := by
  have b_exact : Binds K d_exact ["_law_mine", "_law_theirs"] [] := F_exact.bindsN fun _ _ _ _ _ _ us hl => match us, hl with | [_, _], _ => rfl
  refine F.ok sc_is_very (fun vs H Q E h => ?_) (fun cdv A outer s H vs Q E hr h => ?_)
  · obtain ⟨x, d, rfl, _⟩ := h
    rfl
  · obtain ⟨x, d, rfl, hx, hv, k⟩ := h
    have hu : (A.deeper (envOfC "_law_is_very" (defScope s_is_very) s.heap.objs.size f cdv)).units + 65 < cLine := by
      have := hr.un
      omega
    have hu1 : (A.deeper (envOfC "_law_is_very" (defScope s_is_very) s.heap.objs.size f cdv)).units + 1 < cLine := by omega
    have la : kitB "list" "list" = some true := by decide +kernel
    have dl : kitB "dict" "list" = some false := by decide +kernel
    have da : kitB "dict" "dict" = some true := by decide +kernel
    have nd := sc_is_very.nd
    refine ⟨_, PSs.nox (pss_cons (ps_if (pt_not (pt_val (pe_call (GA_exact 9) (hr.mono (by decide)) rfl g_exact F_exact.kp b_exact .nil pass0 (pa_cons (pv 0) (pa_cons (pv 1) (pa_nil)))))) (pss_one (ps_ret (pe_bl))) (pss_nil))
      (pss_cons (ps_if (pt_val (pe_callB call_isi (by rfl) Z.isi (by decide +kernel) (pa_cons (pv 1) (pa_cons (pe_bltn (v := .ty "list") (by rfl) Z.tlist (by decide +kernel) rfl) pa_nil)))) (pss_cons (ps_expr (pe_bm PySem.F.plainAttrs_list PySem.F.slot_list_append PySem.F.type_list_append mt_append (pv 1) (pa_cons (pe_str) (pa_nil))))
      (pss_cons (ps_set (i := 2) nd rfl (Or.inl rfl) (pe_cmpR (op_eqD (Nat.lt_of_succ_lt hu)) (pe_slice sl_list (pv 0) (po_some (pe_un un_neg (pe_int))) (po_none)) (pe_lst (pa_cons (pe_str) (pa_nil))) (nomark _)))
      (pss_cons (ps_expr (pe_bm0 PySem.F.plainAttrs_list PySem.F.slot_list_pop PySem.F.type_list_pop mt_pop (pv 1)))
      (pss_one (ps_ret (pv 2)))))) (pss_nil))
      (pss_cons (ps_if (pt_val (pe_callB call_isi (by rfl) Z.isi (by decide +kernel) (pa_cons (pv 1) (pa_cons (pe_bltn (v := .ty "dict") (by rfl) Z.tdict (by decide +kernel) rfl) pa_nil)))) (pss_cons (ps_dput hu1 (pv 1) (pe_str) (pe_int) rfl)
      (pss_cons (ps_set (i := 2) nd rfl (Or.inl rfl) (pe_cmp (pc_din hu1 (pe_str) (pv 0))))
      (pss_cons (ps_expr (pe_dpop1 (pv 1) pe_str ⟨rfl, rfl, rfl, rfl⟩))
      (pss_one (ps_ret (pv 2)))))) (pss_nil))
      (pss_one (ps_ret (pe_bl)))))), ?_⟩
    refine ⟨_, rfl, _, rfl, x, x, d, rfl, hx, hx, fun H0 s0 => ⟨true, rfl, itB (c := false) rfl (fun z => by cases z) (fun _ => ?_)⟩⟩
    rcases hv with ⟨a, xs, rfl, ha, hl⟩ | ⟨a, rfl, ha⟩ | ⟨t, ty, k1, k3⟩
    · have ha0 := s0 _ _ ha
      refine ⟨_, rfl, .ref a, .ty "list", .type "list", .type "list", true, rfl, .ty _, .base (.lst ha0), kit_ty la, true, rfl, itB (c := true) rfl (fun _ => ?_) (fun z => by cases z)⟩
      refine ⟨_, rfl, .inl ⟨rfl, _, SqL.of ha0⟩, a, xs, .str "Told", rfl, rfl, ha0, hl, ?_⟩
      have e1 : upd H0 a (.lst (xs ++ [.str "Told"])) a = some (.lst (xs ++ [.str "Told"])) := upd_same
      have o1 : ∀ b, b ≠ a → upd H0 a (.lst (xs ++ [.str "Told"])) b = H0 b := fun b hb => upd_ne hb
      generalize upd H0 a (.lst (xs ++ [.str "Told"])) = H1 at e1 o1 ⊢
      refine ⟨_, rfl, _, rfl, _, rfl, a, _, rfl, SqL.of e1, fun p hp => ?_⟩
      rw [cut_last]
      have s2 := Same.updf (o := .lst [.str "Told"]) hp
      have e2 : upd H1 p (.lst [.str "Told"]) p = some (.lst [.str "Told"]) := upd_same
      generalize upd H1 p (.lst [.str "Told"]) = H2 at s2 e2 ⊢
      refine ⟨(by show 1 ≤ sizeLine; decide), fun q hq => ?_⟩
      have s3 := Same.updf (o := .lst [.str "Told"]) hq
      have e3 : upd H2 q (.lst [.str "Told"]) q = some (.lst [.str "Told"]) := upd_same
      generalize upd H2 q (.lst [.str "Told"]) = H3 at s3 e3 ⊢
      refine ⟨.list [.str "Told"], .list [.str "Told"], .lst (SqL.of (s3 _ _ e2)) (.cons (.str _) .nil), .lst (SqL.of e3) (.cons (.str _) .nil), by decide +kernel, by decide +kernel, ?_⟩
      have ha3 := s3 _ _ (s2 _ _ e1)
      refine ⟨_, rfl, .inl ⟨rfl, _, SqL.of ha3⟩, a, _, .str "Told", rfl, rfl, ha3, ?_, ?_⟩
      · rw [List.length_append]
        show (xs ++ [V.str "Told"])[xs.length + 1 - 1]? = _
        rw [Nat.add_sub_cancel, List.getElem?_append_right (Nat.le_refl _), Nat.sub_self]
        rfl
      · rw [List.dropLast_concat]
        refine ⟨_, rfl, k _ fun b o hb => ?_⟩
        by_cases hba : b = a
        · subst hba
          rw [ha] at hb
          cases hb
          exact upd_same
        · rw [upd_ne hba]
          exact s3 _ _ (s2 _ _ ((o1 b hba).trans (s0 _ _ hb)))
    · have ha0 := s0 _ _ ha
      refine ⟨_, rfl, .ref a, .ty "list", .type "dict", .type "list", false, rfl, .ty _, .base (.dK ha0), kit_ty dl, false, rfl, itB (c := false) rfl (fun z => by cases z) (fun _ => ?_)⟩
      refine ⟨_, rfl, .ref a, .ty "dict", .type "dict", .type "dict", true, rfl, .ty _, .base (.dK ha0), kit_ty da, true, rfl, itB (c := true) rfl (fun _ => ?_) (fun z => by cases z)⟩
      refine ⟨_, rfl, a, _, rfl, DPut.k (k := .inr "Told") ha0 (by show 0 < sizeLine; decide), ?_⟩
      have e1 : upd H0 a (.dK (putK [] (.inr "Told") (.int 0))) a = some (.dK [(.inr "Told", .int 0)]) := upd_same
      have o1 : ∀ b, b ≠ a → upd H0 a (.dK (putK [] (.inr "Told") (.int 0))) b = H0 b := fun b hb => upd_ne hb
      generalize upd H0 a (.dK (putK [] (.inr "Told") (.int 0))) = H1 at e1 o1 ⊢
      refine ⟨_, rfl, a, _, rfl, DGet.k (k := .inr "Told") e1, ?_⟩
      refine ⟨_, rfl, a, rfl, .inl ⟨_, .inl e1⟩, [(.inr "Told", .int 0)], .inr "Told", .int 0, e1, rfl, by decide, ?_⟩
      refine ⟨_, rfl, k _ fun b o hb => ?_⟩
      by_cases hba : b = a
      · subst hba
        rw [ha] at hb
        cases hb
        exact upd_same
      · rw [upd_ne hba, o1 b hba]
        exact s0 _ _ hb
    · have ty := TyX_up s0 ty
      refine ⟨_, rfl, x, .ty "list", .type t, .type "list", false, rfl, .ty _, ty, kit_ty k1, false, rfl, itB (c := false) rfl (fun z => by cases z) (fun _ => ?_)⟩
      refine ⟨_, rfl, x, .ty "dict", .type t, .type "dict", false, rfl, .ty _, ty, kit_ty k3, false, rfl, itB (c := false) rfl (fun z => by cases z) (fun _ => ?_)⟩
      exact k _ s0
end
end K36
set_option Elab.async false
set_option linter.all false
set_option maxRecDepth 100000
set_option maxHeartbeats 8000000
/-! A door that falls: the error, its word, the very thing that it holds. -/
namespace K36
open PySem PySem.Spec PyProof.Rows L2 KB
theorem VeryK.same {K : PySem.W.Frag} {H H' : Hp} {x : V} (h : VeryK K H x) (k : Same H H') : VeryK K H' x := by
  rcases h with ⟨a, xs, e, h, l⟩ | ⟨a, e, h⟩ | ⟨t, ty, k1, k3⟩
  · exact .inl ⟨a, xs, e, k _ _ h, l⟩
  · exact .inr (.inl ⟨a, e, k _ _ h⟩)
  · exact .inr (.inr ⟨t, TyX_up k ty, k1, k3⟩)
/-- the door raises the class, and the error holds v -/
def Fails (K : PySem.W.Frag) (C : Addr) (v : V) (k : Nat) (xs : List V) (H : Hp) : Prop := ∀ H' (Q : VK) (E : XK), Same H H' → Rs C v H' E → doorS K k xs H' Q E
def spFalls (K : PySem.W.Frag) : Sp := fun vs H Q _ => ∃ (k L e : Nat) (xs : List V) (v : V) (d : PyData), vs = [.int (k : Int), .ref L, .str (wordOf e), v] ∧ k < 12 ∧ e < 4 ∧ H L = some (.lst xs) ∧ TD K H 9 v d ∧ VeryK K H v ∧ Fails K (clsOf K e) v k xs H ∧ ∀ H', Same H H' → Q (.bl true) H'
section
variable {P : Program} {w : World} {K : PySem.W.Frag} {mg : Str → Option Value} {base : Heap}
abbrev s_falls : Stmt := top 58
abbrev N_falls : List Str := ["_law_door_here", "_law_some", "_law_word", "_law_odd", "_law_caught", "_law_error"]
theorem sc_falls : FnScope N_falls ["_law_door_here", "_law_some", "_law_word", "_law_odd"] (defScope s_falls) := ⟨rfl, rfl, rfl, by decide +kernel, rfl, by decide +kernel, by decide +kernel⟩
theorem ok_falls {f : Addr} {fd : FuncData} (F : FnP K "_law_falls" s_falls f fd) (Z : FreeS mg)
    {f_is_very : Addr} {d_is_very : FuncData} (g_is_very : mg "_law_is_very" = some (.ref f_is_very)) (F_is_very : FnP K "_law_is_very" s_is_very f_is_very d_is_very) (G_is_very : FnOk P w K mg base CX0 11 f_is_very d_is_very ["_law_mine", "_law_theirs"] (spVery K))
    {f_door : Addr} {d_door : FuncData} (g_door : mg "_law_door" = some (.ref f_door)) (F_door : FnP K "_law_door" s_door f_door d_door) (G_door : FnOk P w K mg base (L2.CX P w) 10 f_door d_door ["_law_door_here", "_law_some"] (spDoor K))
    {f_word_of : Addr} {d_word_of : FuncData} (g_word_of : mg "_law_word_of" = some (.ref f_word_of)) (F_word_of : FnP K "_law_word_of" s_word_of f_word_of d_word_of) (G_word_of : FnOk P w K mg base CX0 1 f_word_of d_word_of ["_law_error"] (spWord K)) (W : ExW K mg) :
    FnOk P w K mg base CX0 12 f fd ["_law_door_here", "_law_some", "_law_word", "_law_odd"] (spFalls K) := by
  have b_is_very : Binds K d_is_very ["_law_mine", "_law_theirs"] [] := F_is_very.bindsN fun _ _ _ _ _ _ us hl => match us, hl with | [_, _], _ => rfl
  have b_door : Binds K d_door ["_law_door_here", "_law_some"] [] := F_door.bindsN fun _ _ _ _ _ _ us hl => match us, hl with | [_, _], _ => rfl
  have b_word_of : Binds K d_word_of ["_law_error"] [] := F_word_of.bindsN fun _ _ _ _ _ _ us hl => match us, hl with | [_], _ => rfl
  refine F.ok sc_falls (fun vs H Q E h => ?_) (fun cdv A outer s H vs Q E hr h => ?_)
  · obtain ⟨k, L, e, xs, v, d, rfl, _⟩ := h
    rfl
  · obtain ⟨k, L, e, xs, v, d, rfl, hk, he, hL, td, hv, hf, kq⟩ := h
    obtain ⟨fI, T⟩ := W.T e he
    have nd := sc_falls.nd
    refine ⟨_, PSs.nox (pss_cons (ps_set (i := 4) nd rfl (Or.inl rfl) (pe_non))
      (pss_cons (ps_try_keep (i := 5) rfl rfl rfl nd rfl rfl ⟨rfl, by decide, .inl W.gS⟩ takes0 (fun W pn xe tk _ => pss_one (ps_expr (pe_callS G_door (hr.mono (by decide)) rfl g_door F_door.kp b_door (fun σ => passAt tk σ) (pa_cons (pv 0) (pa_cons (pv 1) pa_nil))))) (fun a oe cls d pn hz hf => pss_one (ps_set (i := 4) nd rfl (Or.inl rfl) (pv 5))))
      (pss_cons (ps_if (PW.pt (pw_or (pt_cmpR op_isN (pv 4) (pe_non) (nomark _)) (pw_or (pt_not (pt_val (pe_callB call_isK (by rfl) Z.isi (by decide +kernel) (pa_cons (pv 4) (pa_cons (pe_bltn (v := .ty "ValueError") (by rfl) Z.verr (by decide +kernel) rfl) pa_nil))))) (pw_or1 (pt_cmpR op_ne (pe_call G_word_of (hr.mono (by decide)) rfl g_word_of F_word_of.kp b_word_of .nil pass0 (pa_cons (pv 4) (pa_nil))) (pv 2) (nomark _)))))) (pss_one (ps_ret (pe_bl))) (pss_nil))
      (pss_one (ps_ret (pe_call G_is_very (hr.mono (by decide)) rfl g_is_very F_is_very.kp b_is_very .nil pass0 (pa_cons (pe_keptVal (pv 4)) (pa_cons (pv 3) (pa_nil))))))))), ?_⟩
    refine ⟨_, rfl, _, rfl, k, L, xs, rfl, hk, hL, fun H1 s1 => hf H1 _ _ s1 fun d' G sG hn hdd => ?_⟩
    refine ⟨true, W.kS e he, (fun z => nomatch z), fun _ a ha => ⟨_, rfl, ?_⟩⟩
    have sE := Same.updf (o := ExK (.ref (clsOf K e)) (some d') a) ha
    have kp : Kept (upd G a (ExK (.ref (clsOf K e)) (some d') a)) (clsOf K e) v (.ref a) := ⟨a, d', rfl, upd_same, sE _ _ hdd⟩
    have s3 : Same H (upd G a (ExK (.ref (clsOf K e)) (some d') a)) := (s1.trans sG).trans sE
    generalize hG : upd G a (ExK (.ref (clsOf K e)) (some d') a) = G1 at sE kp s3
    refine ⟨_, rfl, rfl, _, rfl, itB (c := false) rfl (fun z => by cases z) (fun _ => ?_)⟩
    rw [hG]
    refine ⟨_, rfl, .ref a, _, v, .ty "ValueError", .type "ValueError", true, rfl, kp, T.xc, .ty _, W.kv e he, true, rfl, itB (c := false) rfl (fun z => by cases z) (fun _ => ?_)⟩
    refine ⟨_, rfl, .ref a, v, e, rfl, he, kp, fun G2 s4 => ⟨_, rfl, rfl, _, rfl, itB (c := false) (by simp) (fun z => by cases z) (fun _ => ?_)⟩⟩
    refine ⟨_, rfl, clsOf K e, fI, v, kp.same s4, T, _, rfl, v, d, rfl, td.same (s3.trans s4), hv.same (s3.trans s4), fun G3 s5 => kq _ ((s3.trans s4).trans s5)⟩
end
end K36
set_option Elab.async false
set_option linter.all false
set_option maxRecDepth 100000
set_option maxHeartbeats 8000000
/-! Displays of data, as they are written; what is no life. -/
namespace K36
open PySem PySem.Spec PyProof.Rows L2 KB
section
variable {K : PySem.W.Frag} {σ : L2.St} {Pre : Hp → Prop}
def Stab (Pre : Hp → Prop) : Prop := ∀ H H', Same H H' → Pre H → Pre H'
def Lit (K : PySem.W.Frag) (σ : L2.St) (Pre : Hp → Prop) (n : Nat) (te : TE) (d : PyData) : Prop := ∀ H (Q : VK), Pre H → (∀ v H', Same H H' → TD K H' n v d → Q v H') → te σ H Q
def LitA (K : PySem.W.Frag) (σ : L2.St) (Pre : Hp → Prop) (n : Nat) (ta : TA) (ds : List PyData) : Prop := ∀ H (Q : List V → Hp → Prop), Pre H →
  (∀ vs H', Same H H' → vs.length = ds.length → (∀ (i : Nat) (u : V) (e : PyData), vs[i]? = some u → ds[i]? = some e → TD K H' n u e) → Q vs H') → ta σ H Q
theorem Lit.flat {v : V} {d : PyData} {n : Nat} (h : FlatD v d) : Lit K σ Pre n (tC v) d := fun H Q _ k => k v H (Same.refl _) (TD.flat h)
theorem Lit.non {n : Nat} : Lit K σ Pre n (tC .non) .none := Lit.flat .non
theorem Lit.bl {b : Bool} {n : Nat} : Lit K σ Pre n (tC (.bl b)) (.bool b) := Lit.flat (.bl b)
theorem Lit.int {i : Int} {n : Nat} : Lit K σ Pre n (tC (.int i)) (.int i) := Lit.flat (.int i)
theorem Lit.str {x : Str} {n : Nat} : Lit K σ Pre n (tC (.str x)) (.str x) := Lit.flat (.str x)
theorem Lit.neg {i : Int} {n : Nat} : Lit K σ Pre n (tUn (rU fun i => V.int (-i)) (tC (.int i))) (.int (-i)) := fun H Q _ k => ⟨i, rfl, k _ H (Same.refl _) (TD.flat (.int _))⟩
theorem LitA.nil {n : Nat} : LitA K σ Pre n tNil [] := fun H Q _ k => k [] H (Same.refl _) rfl fun i u e h => by simp at h
theorem LitA.cons (st : Stab Pre) {n : Nat} {te : TE} {ta : TA} {d : PyData} {ds : List PyData} (h : Lit K σ Pre n te d) (t : LitA K σ Pre n ta ds) : LitA K σ Pre n (tCons te ta) (d :: ds) := fun H Q p k => by
  refine h H _ p fun v H1 s1 td => ?_
  refine t H1 _ (st _ _ s1 p) fun vs H2 s2 l c => ?_
  refine k _ H2 (s1.trans s2) (by rw [List.length_cons, List.length_cons, l]) fun i u e h1 h2 => ?_
  cases i with
  | zero =>
    cases h1
    cases h2
    exact td.same s2
  | succ i => exact c i u e h1 h2
theorem Lit.lst {n : Nat} {ta : TA} {ds : List PyData} (h : LitA K σ Pre n ta ds) (l : ds.length ≤ 1000 := by exact Nat.le_of_ble_eq_true rfl) : Lit K σ Pre (n + 1) (tLst ta) (.list ds) := fun H Q p k => by
  have sl : (1000 : Nat) ≤ sizeLine := by decide
  refine h H _ p fun vs H1 s1 l1 c => ⟨by omega, fun L hL => ?_⟩
  have s2 := Same.updf (o := .lst vs) hL
  exact k _ _ (s1.trans s2) (TD.lst upd_same l1 l fun i u e h1 h2 => (c i u e h1 h2).same s2)
theorem Lit.tup {n : Nat} {ta : TA} {ds : List PyData} (h : LitA K σ Pre n ta ds) (l : ds.length ≤ 1000 := by exact Nat.le_of_ble_eq_true rfl) : Lit K σ Pre (n + 1) (tTup ta) (.tuple ds) := fun H Q p k => by
  have sl : (1000 : Nat) ≤ sizeLine := by decide
  refine h H _ p fun vs H1 s1 l1 c => ⟨by omega, fun L hL => ?_⟩
  have s2 := Same.updf (o := .tup vs) hL
  exact k _ _ (s1.trans s2) (.inr (.inl ⟨L, vs, ds, rfl, l1, l, .inr ⟨SqT.of upd_same, rfl⟩, fun i u e h1 h2 => (c i u e h1 h2).same s2⟩))
theorem Lit.dict0 {n : Nat} : Lit K σ Pre (n + 2) tDNewK (.dict []) := fun H Q p k D hD => by
  have s2 := Same.updf (o := .dK []) hD
  exact k _ _ s2 (TD.dct (ps := []) (m := fun _ => 0) upd_same (Nat.zero_le _) List.nodup_nil)
/-- an expression for x + [..] -/
theorem Lit.cat {n i : Nat} {ta : TA} {ds es : List PyData} {a : Addr} (hv : σ[i]? = some (some (.ref a))) (st : Stab Pre) (hp : ∀ H, Pre H → ∃ xs, H a = some (.lst xs) ∧ xs.length = es.length ∧ ∀ (i : Nat) (u : V) (e : PyData), xs[i]? = some u → es[i]? = some e → TD K H n u e)
    (h : LitA K σ Pre n ta ds) (l : es.length + ds.length ≤ 1000) : Lit K σ Pre (n + 1) (tOp rCat (tVar i) (tLst ta)) (.list (es ++ ds)) := fun H Q p k => by
  have sl : (1000 : Nat) ≤ sizeLine := by decide
  refine ⟨_, hv, h H _ p fun vs H1 s1 l1 c => ⟨by omega, fun L hL => ?_⟩⟩
  have s2 := Same.updf (o := .lst vs) hL
  obtain ⟨xs, h1, h2, h3⟩ := hp _ (st _ _ (s1.trans s2) p)
  refine ⟨a, L, xs, vs, rfl, rfl, h1, upd_same, by omega, fun q hq => ?_⟩
  have s3 := Same.updf (o := .lst (xs ++ vs)) hq
  refine k _ _ ((s1.trans s2).trans s3) (TD.lst upd_same (by rw [List.length_append, List.length_append, h2, l1]) (by rw [List.length_append]; exact l) fun j u e g1 g2 => ?_)
  by_cases hj : j < xs.length
  · rw [List.getElem?_append_left hj] at g1
    rw [List.getElem?_append_left (by omega)] at g2
    exact (h3 j u e g1 g2).same s3
  · rw [List.getElem?_append_right (by omega)] at g1
    rw [List.getElem?_append_right (by omega)] at g2
    rw [h2] at g1
    exact ((c _ u e g1 g2).same s2).same s3
end
/-- data that is no life -/
def oddD : PyData → Bool
  | .list ds => !lifeB ds && ds.all SeqAt.shaped && decide (ds.length ≤ 1000)
  | .dict (_ :: _) => false
  | _ => true
def OddK (K : PySem.W.Frag) (H : Hp) (v : V) : Prop := ∃ d, TD K H 9 v d ∧ oddD d = true
theorem OddK.same {K : PySem.W.Frag} {H H' : Hp} {v : V} (k : Same H H') : OddK K H v → OddK K H' v := fun ⟨d, h, o⟩ => ⟨d, h.same k, o⟩
theorem OddK.oddL {K : PySem.W.Frag} {H : Hp} {v : V} : OddK K H v → OddL K H v := by
  rintro ⟨d, h, o⟩
  rcases h with h | ⟨a, xs, ds, rfl, e2, e3, e4, c⟩ | ⟨a, ps, m, rfl, _, ha, rfl⟩
  · obtain ⟨t, ty, k1, _⟩ := FlatD.ty (K := K) (H := H) h
    exact .inl ⟨t, ty, k1⟩
  · rcases e4 with ⟨h, rfl⟩ | ⟨h, rfl⟩
    · unfold oddD at o
      rw [Bool.and_eq_true, Bool.and_eq_true, List.all_eq_true, Bool.not_eq_true'] at o
      exact .inr ⟨a, xs, ds, 8, rfl, h, e2, e3, c, o.1.2, o.1.1⟩
    · exact .inl ⟨"tuple", sqT_ty h, by decide +kernel⟩
  · exact .inl ⟨"dict", .base (.dK ha), by decide +kernel⟩
theorem OddK.very {K : PySem.W.Frag} {H : Hp} {v : V} : OddK K H v → VeryK K H v := by
  rintro ⟨d, h, o⟩
  exact VeryK.of h fun p r e => by
    rw [e] at o
    cases o
theorem stAt_end (es : List Ev) (r : List PyData) (hV : Valid es) : ∀ i, i ≤ es.length → walkB ((stAt es i).w : Int) ((stAt es i).s : Int) ((es.drop i).map Ev.d ++ r) = walkB ((stE es).w : Int) ((stE es).s : Int) r := by
  intro i hi
  obtain ⟨k, hk⟩ : ∃ k, k = es.length - i := ⟨_, rfl⟩
  induction k generalizing i with
  | zero =>
    rw [List.drop_of_length_le (by omega)]
    obtain rfl : i = es.length := by omega
    rfl
  | succ k ih =>
    have hlt : i < es.length := by omega
    have ee := List.getElem?_eq_getElem hlt
    have es1 := stAt_succ ee
    have ihh := ih (i + 1) (by omega) (by omega)
    rw [List.drop_eq_getElem_cons hlt, List.map_cons]
    cases q : es[i] with
    | line =>
      rw [q] at es1
      rw [es1] at ihh
      exact ihh
    | root =>
      rw [q] at es1
      rw [es1] at ihh
      exact ihh
    | stand n =>
      rw [q] at es1 ee
      have vo := hV.ok i n ee
      rw [es1] at ihh
      have e1 : PyData.eqv (Ev.stand n).d Ev.line.d = false := by rw [eqv_line]; rfl
      have e2 : PyData.eqv (Ev.stand n).d Ev.root.d = false := by rw [eqv_root]; rfl
      show (if PyData.eqv (Ev.stand n).d Ev.line.d = true then _ else _) = _
      rw [e1, if_neg Bool.false_ne_true, e2, if_neg Bool.false_ne_true]
      show (decide (((stAt es i).s : Int) ≤ (n : Int)) && (decide ((n : Int) ≤ ((stAt es i).w : Int)) && _)) = _
      rw [decide_eq_true (by omega), decide_eq_true (by omega)]
      exact ihh
theorem walk_end {es : List Ev} (hV : Valid es) (r : List PyData) : walkB 0 0 (es.map Ev.d ++ r) = walkB ((stE es).w : Int) ((stE es).s : Int) r := by
  have := stAt_end es r hV 0 (Nat.zero_le _)
  rw [stAt_zero] at this
  exact this
theorem lifeB_end {es : List Ev} (hV : Valid es) (r : List PyData) : lifeB (es.map Ev.d ++ r) = (r.all evB && walkB ((stE es).w : Int) ((stE es).s : Int) r) := by
  unfold lifeB
  rw [walk_end hV, List.all_append]
  have : (es.map Ev.d).all evB = true := by
    rw [List.all_eq_true]
    intro d hd
    obtain ⟨e, _, rfl⟩ := List.mem_map.mp hd
    exact evB_ev e
  rw [this, Bool.true_and]
theorem odd_end {es : List Ev} (hV : Valid es) (l : es.length ≤ 200) (r : List PyData) (lr : r.length ≤ 100) (sh : r.all SeqAt.shaped = true) (h : (r.all evB && walkB ((stE es).w : Int) ((stE es).s : Int) r) = false) : oddD (.list (es.map Ev.d ++ r)) = true := by
  show (!lifeB _ && List.all _ SeqAt.shaped && decide (_ ≤ 1000)) = true
  rw [lifeB_end hV, h, List.all_append, sh, decide_eq_true (by rw [List.length_append, List.length_map]; omega)]
  have : (es.map Ev.d).all SeqAt.shaped = true := by
    rw [List.all_eq_true]
    intro d hd
    obtain ⟨e, _, rfl⟩ := List.mem_map.mp hd
    exact shaped_ev e
  rw [this]
  rfl
theorem odd_stand {es : List Ev} (hV : Valid es) (l : es.length ≤ 200) (w : Nat) (hw : w = (stE es).w) : oddD (.list (es.map Ev.d ++ [.tuple [.str "stand", .int ((w : Int) + 1)]])) = true := by
  refine odd_end hV l _ (Nat.le_of_ble_eq_true rfl) (by simp [SeqAt.shaped, PyData.depth, PyData.depthAll, PyData.canLay0, PyData.canLayAll0] <;> decide +kernel) ?_
  subst hw
  have e1 : PyData.eqv (.tuple [.str "stand", .int (((stE es).w : Int) + 1)]) Ev.line.d = false := rfl
  have e2 : PyData.eqv (.tuple [.str "stand", .int (((stE es).w : Int) + 1)]) Ev.root.d = false := rfl
  have e3 : walkB ((stE es).w : Int) ((stE es).s : Int) [.tuple [.str "stand", .int (((stE es).w : Int) + 1)]] = false := by
    unfold walkB
    rw [e1, if_neg Bool.false_ne_true, e2, if_neg Bool.false_ne_true]
    show (decide (((stE es).s : Int) ≤ _) && (decide (((stE es).w : Int) + 1 ≤ ((stE es).w : Int)) && _)) = false
    rw [decide_eq_false (by omega : ¬ ((stE es).w : Int) + 1 ≤ ((stE es).w : Int)), Bool.false_and, Bool.and_false]
  rw [e3, Bool.and_false]
theorem odd_line {es : List Ev} (hV : Valid es) (l : es.length ≤ 200) (w : Nat) (hw : w = (stE es).w) : oddD (.list (es.map Ev.d ++ [.tuple [.str "line"], .tuple [.str "stand", .int ((w : Int) + 2)]])) = true := by
  refine odd_end hV l _ (Nat.le_of_ble_eq_true rfl) (by simp [SeqAt.shaped, PyData.depth, PyData.depthAll, PyData.canLay0, PyData.canLayAll0] <;> decide +kernel) ?_
  subst hw
  have e1 : PyData.eqv (.tuple [.str "stand", .int (((stE es).w : Int) + 2)]) Ev.line.d = false := rfl
  have e2 : PyData.eqv (.tuple [.str "stand", .int (((stE es).w : Int) + 2)]) Ev.root.d = false := rfl
  have e0 : PyData.eqv (.tuple [.str "line"]) Ev.line.d = true := rfl
  have e3 : walkB ((stE es).w : Int) ((stE es).s : Int) [.tuple [.str "line"], .tuple [.str "stand", .int (((stE es).w : Int) + 2)]] = false := by
    unfold walkB
    rw [e0, if_pos rfl]
    unfold walkB
    rw [e1, if_neg Bool.false_ne_true, e2, if_neg Bool.false_ne_true]
    show (decide (((stE es).s : Int) ≤ _) && (decide (((stE es).w : Int) + 2 ≤ ((stE es).w : Int) + 1) && _)) = false
    rw [decide_eq_false (by omega : ¬ ((stE es).w : Int) + 2 ≤ ((stE es).w : Int) + 1), Bool.false_and, Bool.and_false]
  rw [e3, Bool.and_false]
theorem odd_none {es : List Ev} (hV : Valid es) (l : es.length ≤ 200) : oddD (.list (es.map Ev.d ++ [.none])) = true := by
  refine odd_end hV l _ (Nat.le_of_ble_eq_true rfl) rfl ?_
  rfl
theorem odd_self (es : List Ev) : oddD (.list [.list (es.map Ev.d)]) = true := by
  show (!lifeB _ && List.all _ SeqAt.shaped && decide (_ ≤ 1000)) = true
  have h1 : lifeB [.list (es.map Ev.d)] = false := rfl
  rw [h1, List.all_cons, List.all_nil, shaped_life]
  rfl
/-- a door that needs a life falls at what is none -/
theorem odd_fails {K : PySem.W.Frag} {H : Hp} {v : V} {k : Nat} {xs : List V} (h : OddL K H v) (hk : k < 10) (hx : (∃ y z r, xs = v :: y :: z :: r) ∨ k ≠ 9 ∧ (∃ y r, xs = v :: y :: r) ∨ k = 6 ∧ ∃ r, xs = v :: r) : Fails K (cRun K) v k xs H := by
  intro H' Q E s r
  have ho := h.same s
  unfold doorS
  by_cases h6 : k = 6
  · rw [if_pos h6]
    rcases hx with ⟨y, z, q, rfl⟩ | ⟨_, y, q, rfl⟩ | ⟨_, q, rfl⟩ <;> exact ⟨_, _, rfl, .inl ⟨_, rfl, ho, r⟩⟩
  · rw [if_neg h6]
    by_cases h9 : k = 9
    · rw [if_pos h9]
      rcases hx with ⟨y, z, q, rfl⟩ | ⟨n9, _⟩ | ⟨n6, _⟩
      · exact ⟨_, _, _, _, rfl, .inl ⟨_, _, _, rfl, ho, r⟩⟩
      · exact absurd h9 n9
      · exact absurd n6 h6
    · rw [if_neg h9]
      obtain ⟨y, q, rfl⟩ : ∃ y q, xs = v :: y :: q := by
        rcases hx with ⟨y, z, q, e⟩ | ⟨_, y, q, e⟩ | ⟨n6, _⟩
        · exact ⟨_, _, e⟩
        · exact ⟨_, _, e⟩
        · exact absurd n6 h6
      refine ⟨_, _, _, rfl, ?_⟩
      clear hx h
      have cs : k = 0 ∨ k = 1 ∨ k = 2 ∨ k = 3 ∨ k = 4 ∨ k = 5 ∨ k = 7 ∨ k = 8 := by omega
      rcases cs with rfl | rfl | rfl | rfl | rfl | rfl | rfl | rfl <;> exact .inl ⟨_, _, rfl, ho, r⟩
end K36
set_option Elab.async false
set_option linter.all false
set_option maxRecDepth 100000
set_option maxHeartbeats 4000000
/-! Comprehensions whose items are drawn: each turn changes the purse. -/
namespace KB
open PySem PySem.Spec PyProof.Rows L2
theorem off_some {H : Hp} {D b : Addr} {o : HO} (h : KB.off H D b = some o) : b ≠ D ∧ H b = some o := by
  unfold KB.off at h
  split at h
  · cases h
  · exact ⟨by assumption, h⟩
theorem off_but {pu : Addr} {H H' : Hp} (k : But pu H H') : Same (KB.off H pu) (KB.off H' pu) := fun b o e => by
  obtain ⟨n, e2⟩ := off_some e
  rw [KB.off_at n]
  exact k _ _ n e2
/-- what stands but for the purse and the new list -/
def off2 (H : Hp) (D pu : Addr) : Hp := KB.off (KB.off H D) pu
theorem off2_some {H : Hp} {D pu b : Addr} {o : HO} (h : off2 H D pu b = some o) : b ≠ D ∧ b ≠ pu ∧ H b = some o := by
  obtain ⟨n, h⟩ := off_some h
  obtain ⟨n2, h⟩ := off_some h
  exact ⟨n2, n, h⟩
theorem off2_at {H : Hp} {D pu b : Addr} {o : HO} (n : b ≠ D) (n2 : b ≠ pu) (h : H b = some o) : off2 H D pu b = some o := by
  unfold off2
  rw [KB.off_at n2, KB.off_at n]
  exact h
theorem off2_but {H H' : Hp} {D pu : Addr} (k : But pu H H') : Same (off2 H D pu) (off2 H' D pu) := fun b o e => by
  obtain ⟨n, n2, e⟩ := off2_some e
  exact off2_at n n2 (k _ _ n2 e)
theorem off2_le {H : Hp} {D pu : Addr} : Same (off2 H D pu) (KB.off H pu) := fun b o e => by
  obtain ⟨n, n2, e⟩ := off2_some e
  rw [KB.off_at n2]
  exact e
theorem off2_upd {H : Hp} {D pu : Addr} {o : HO} : Same (off2 H D pu) (off2 (L2.upd H D o) D pu) := fun b o e => by
  obtain ⟨n, n2, e⟩ := off2_some e
  exact off2_at n n2 (by rw [upd_ne n]; exact e)
theorem lc_but {J : It} {n : Nat} {G : Hp → Prop} {Y : Nat → Hp → V → Hp → Prop} (w : Walk J n G Y) {g : TG} {tt : TT} {te : TE} {vs : List Nat} {σ : L2.St} {H1 : Hp} {D pu : Addr} {Qd : Hp → Prop} {N cost : Nat} (R : Nat → V → Hp → Prop)
    (hR : ∀ i y H H', Same H H' → R i y H → R i y H') (hn : n ≤ 100000) (hP : Purse H1 pu N) (hD : H1 D = none) (hG : ∀ H, But pu H1 H → G H)
    (hs : ∀ i x H H' (Qy : V → Hp → Prop) (Qn : Hp → Prop), i < n → But pu H1 H → Purse H pu (N + cost * i) → (∃ acc, H D = some (.lst acc)) → Y i H x H' → (∀ y H4, But pu H H4 → Purse H4 pu (N + cost * (i + 1)) → R i y (off2 H4 D pu) → Qy y H4) →
      g x (wipe σ vs) H' fun σ2 H2 => wipe σ2 vs = wipe σ vs ∧ tt σ2 H2 fun b H3 => if b = true then te σ2 H3 Qy else Qn H3)
    (hd : ∀ H ys, But pu H1 H → Purse H pu (N + cost * n) → H D = some (.lst ys) → Paired (fun i y => R i y (off2 H D pu)) (List.range n) ys → Qd H) :
    ∃ W : Nat → Nat → Hp → Prop, (∃ m, W 0 m (L2.upd H1 D (.lst []))) ∧ ∀ i m H, W i m H →
      (J.stop i H ∧ Qd H) ∨ (J.go i H ∧ ∃ Nx : Hp → Prop, (∀ H', Nx H' → ∃ m', m' < m ∧ W (i + 1) m' H') ∧ ∀ x H', J.yld i H x H' → g x (wipe σ vs) H' fun σ2 H2 => wipe σ2 vs = wipe σ vs ∧ tt σ2 H2 fun b H3 =>
        if b = true then te σ2 H3 fun y H4 => ∃ acc, H4 D = some (.lst acc) ∧ acc.length < sizeLine ∧ Nx (L2.upd H4 D (.lst (acc ++ [y]))) else Nx H3) := by
  have nD : D ≠ pu := fresh_ne hP hD
  refine lc_it w (fun i H => But pu H1 H ∧ Purse H pu (N + cost * i) ∧ ∃ ys, H D = some (.lst ys) ∧ ys.length = i ∧ Paired (fun i y => R i y (off2 H D pu)) (List.range i) ys)
    ⟨But.of (Same.updf hD), hP.same' (upd_ne nD.symm), [], upd_same, rfl, .nil⟩ (fun i H _ h => hG H h.1) (fun i x H H' hi hPv hy => ?_) (fun H h => ?_)
  · obtain ⟨b1, PM, ys, hD', ly, py⟩ := hPv
    refine hs i x H H' _ _ hi b1 PM ⟨ys, hD'⟩ hy (fun y H4 b4 P4 r => ?_)
    have l2 : (100000 : Nat) < sizeLine := by decide
    refine ⟨ys, b4 _ _ nD hD', by omega, fun b o nb eb => ?_, P4.same' (upd_ne nD.symm), ys ++ [y], upd_same, by rw [List.length_append, ly]; rfl, ?_⟩
    · rw [upd_ne (ne_of_none eb hD)]
      exact b4 _ _ nb (b1 _ _ nb eb)
    · rw [List.range_succ]
      exact paired_snoc (paired_mono (fun i y h => hR i y _ _ ((off2_but b4).trans off2_upd) h) py) (hR _ _ _ _ off2_upd r)
  · obtain ⟨b1, PM, ys, hD', ly, py⟩ := h
    exact hd H ys b1 PM hD' py
end KB
set_option Elab.async false
set_option linter.all false
set_option maxRecDepth 100000
set_option maxHeartbeats 8000000
/-! Doors to be tried, as they are written. -/
namespace K36
open PySem PySem.Spec PyProof.Rows L2 KB
section
variable {K : PySem.W.Frag}
theorem Fails.same {C : Addr} {v : V} {k : Nat} {xs : List V} {H H' : Hp} (h : Fails K C v k xs H) (s : Same H H') : Fails K C v k xs H' := fun G Q E s2 r => h G Q E (s.trans s2) r
/-- a pair of a door and what is handed to it -/
def Dr (K : PySem.W.Frag) (C : Addr) (v : V) (H : Hp) (t : V) : Prop := ∃ (T : Addr) (k : Nat) (L : Addr) (xs : List V), t = .ref T ∧ H T = some (.tup [.int (k : Int), .ref L]) ∧ k < 12 ∧ H L = some (.lst xs) ∧ Fails K C v k xs H
theorem Dr.same {C : Addr} {v t : V} {H H' : Hp} (s : Same H H') : Dr K C v H t → Dr K C v H' t := fun ⟨T, k, L, xs, e, h1, h2, h3, h4⟩ => ⟨T, k, L, xs, e, s _ _ h1, h2, s _ _ h3, h4.same s⟩
theorem off_from {H H' : Hp} {D : Addr} (hD : H D = none) (s : Same H H') : Same H (KB.off H' D) := fun b o e => by
  rw [off_at (ne_of_none e hD)]
  exact s _ _ e
theorem off_to {H : Hp} {D : Addr} : Same (KB.off H D) H := fun b o e => (off_some e).2
theorem lc_doors {C : Addr} {v x y : V} {ks : List Nat} {Tp D : Addr} {H1 : Hp} {σ : L2.St} {j : Nat} {ta : TA} {Qd : Hp → Prop} (hk : ∀ k ∈ ks, k < 12 ∧ Fails K C v k [x, y] H1) (hn : ks.length ≤ 1000) (hT : H1 Tp = some (.tup (ks.map fun k : Nat => V.int (k : Int)))) (hD : H1 D = none)
    (hw : ∀ u, wipe ((wipe σ [j]).set j u) [j] = wipe σ [j]) (hg : ∀ u, ((wipe σ [j]).set j (some u))[j]? = some (some u)) (ha : ∀ u H (Q : List V → Hp → Prop), Q [x, y] H → ta ((wipe σ [j]).set j (some u)) H Q)
    (hd : ∀ H ys, Same H1 H → H D = some (.lst ys) → ys.length = ks.length → (∀ t ∈ ys, Dr K C v H t) → Qd H) :
    ∃ W : Nat → Nat → Hp → Prop, (∃ m, W 0 m (upd H1 D (.lst []))) ∧ ∀ i m H, W i m H →
      ((Itt K Tp).stop i H ∧ Qd H) ∨ ((Itt K Tp).go i H ∧ ∃ Nx : Hp → Prop, (∀ H', Nx H' → ∃ m', m' < m ∧ W (i + 1) m' H') ∧ ∀ x H', (Itt K Tp).yld i H x H' → gName j x (wipe σ [j]) H' fun σ2 H2 => wipe σ2 [j] = wipe σ [j] ∧ tYes σ2 H2 fun b H3 =>
        if b = true then tTup (tCons (tVar j) (tCons (tLst ta) tNil)) σ2 H3 fun y H4 => ∃ acc, H4 D = some (.lst acc) ∧ acc.length < sizeLine ∧ Nx (upd H4 D (.lst (acc ++ [y]))) else Nx H3) := by
  have sl : (100 : Nat) ≤ sizeLine := by decide
  refine lc_rel (n := ks.length) (by have := walk_tup (K := K) (a := Tp) (xs := ks.map fun k : Nat => V.int (k : Int)); rw [List.length_map] at this; exact this) (fun _ => true) (fun i t G => Dr K C v G t) (fun i t G G' s h => h.same s) (by omega) hD (fun G s => SqT.of (s _ _ hT)) ?_ ?_
  · rintro i u G G' Qy Qn hi s ⟨acc, hacc⟩ ⟨rfl, hx⟩ ky kn
    rw [List.getElem?_map, List.getElem?_eq_getElem hi] at hx
    obtain rfl := Option.some.inj hx
    refine ⟨hw _, ?_⟩
    unfold tYes
    dsimp only
    rw [if_pos rfl]
    refine ⟨_, hg _, ha _ _ _ ⟨by show 2 ≤ sizeLine; omega, fun L hL => ⟨by show 2 ≤ sizeLine; omega, fun T hT2 => ky _ _ rfl ((Same.updf hL).trans (Same.updf hT2)) ?_⟩⟩⟩
    have nL : L ≠ D := fun z => by rw [z, hacc] at hL; cases hL
    have nLT : L ≠ T := fun z => by rw [← z, upd_same] at hT2; cases hT2
    have nT : T ≠ D := fun z => by rw [z, upd_ne (Ne.symm nL), hacc] at hT2; cases hT2
    refine ⟨T, ks[i], L, _, rfl, by rw [off_at nT, upd_same], (hk _ (List.getElem_mem hi)).1, by rw [off_at nL, upd_ne nLT, upd_same], (hk _ (List.getElem_mem hi)).2.same (off_from hD (s.trans ((Same.updf hL).trans (Same.updf hT2))))⟩
  · intro H ys s hH p
    have lp := paired_len p
    rw [List.length_filter_eq_length_iff.mpr (fun _ _ => rfl), List.length_range] at lp
    refine hd H ys s hH lp.symm fun t ht => ?_
    obtain ⟨i, hi⟩ := List.getElem?_of_mem ht
    obtain ⟨j, _, h⟩ := paired_get2 p hi
    exact Dr.same off_to h
end
end K36
set_option Elab.async false
set_option linter.all false
set_option maxRecDepth 100000
set_option maxHeartbeats 8000000
/-! All that is no life falls at every door. -/
namespace K36
open PySem PySem.Spec PyProof.Rows L2 KB
section
variable {K : PySem.W.Frag} {σ : L2.St} {Pre : Hp → Prop}
theorem Lit.tupOf {n i : Nat} {es : List PyData} {a : Addr} (hv : σ[i]? = some (some (.ref a))) (hp : ∀ H, Pre H → ∃ xs, H a = some (.lst xs) ∧ xs.length = es.length ∧ ∀ (i : Nat) (u : V) (e : PyData), xs[i]? = some u → es[i]? = some e → TD K H n u e) (l : es.length ≤ 1000) :
    Lit K σ Pre (n + 1) (tCB (fun xs H Q => ∃ p ys, xs = [.ref p] ∧ ((SqL K H p ys ∧ ∀ l, H l = none → Q (.ref l) (upd H l (.tup ys))) ∨ (SqT K H p ys ∧ Q (.ref p) H))) (tCons (tVar i) tNil)) (.tuple es) := fun H Q p k => by
  obtain ⟨xs, h1, h2, h3⟩ := hp H p
  refine ⟨_, hv, a, xs, rfl, .inl ⟨SqL.of h1, fun q hq => ?_⟩⟩
  have s2 := Same.updf (o := .tup xs) hq
  exact k _ _ s2 (.inr (.inl ⟨q, xs, es, rfl, h2, l, .inr ⟨SqT.of upd_same, rfl⟩, fun i u e e1 e2 => (h3 i u e e1 e2).same s2⟩))
theorem Lit.var {n i : Nat} {x : V} {d : PyData} (hv : σ[i]? = some (some x)) (h : ∀ H, Pre H → TD K H n x d) : Lit K σ Pre n (tVar i) d := fun H Q p k => ⟨_, hv, k _ _ (Same.refl _) (h H p)⟩
theorem Lit.add {n i : Nat} {x y : Int} (hv : σ[i]? = some (some (.int x))) : Lit K σ Pre n (tOp (rI0 fun i j => .int (i + j)) (tVar i) (tC (.int y))) (.int (x + y)) := fun H Q p k => ⟨_, hv, _, _, rfl, rfl, k _ _ (Same.refl _) (TD.flat (.int _))⟩
end
def Odds (K : PySem.W.Frag) (H : Hp) (O : Addr) (n : Nat) : Prop := ∃ xs, H O = some (.lst xs) ∧ xs.length ≤ n ∧ ∀ x ∈ xs, OddK K H x
theorem odds_of {K : PySem.W.Frag} {H : Hp} {vs : List V} {ds : List PyData} (l : vs.length = ds.length) (c : ∀ (i : Nat) (u : V) (e : PyData), vs[i]? = some u → ds[i]? = some e → TD K H 9 u e) (o : ∀ d ∈ ds, oddD d = true) : ∀ u ∈ vs, OddK K H u := fun u hu => by
  obtain ⟨i, hi⟩ := List.getElem?_of_mem hu
  have hl := (List.getElem?_eq_some_iff.mp hi).1
  have e := List.getElem?_eq_getElem (l := ds) (i := i) (by omega)
  exact ⟨_, c i u _ hi e, o _ (List.getElem_mem _)⟩
theorem norm {te : TE} {g : TG} {b : TS} {D : Ends} {σ σ' : L2.St} {G : Hp} (e : σ = σ') (h : tSeq (tAsg te g) b D σ' G) : tSeq (tAsg te g) b D σ G := e ▸ h
section
variable {K : PySem.W.Frag} {σ : L2.St} {Pre : Hp → Prop}
theorem seq_odds {ta : TA} {ds : List PyData} {i : Nat} {b : TS} {D : Ends} {H : Hp} (hlit : LitA K σ Pre 9 ta ds) (p : Pre H) (o : ∀ d ∈ ds, oddD d = true) (l : ds.length ≤ 100)
    (k : ∀ O G, Same H G → Odds K G O 100 → b D (σ.set i (some (.ref O))) G) : tSeq (tAsg (tLst ta) (gName i)) b D σ H := by
  have sl : (3000 : Nat) ≤ sizeLine := by decide
  refine hlit H _ p fun vs H2 s2 l2 c2 => ⟨by omega, fun L hL => ?_⟩
  have sL := Same.updf (o := .lst vs) hL
  exact k L _ (s2.trans sL) ⟨vs, upd_same, by omega, fun x hx => (odds_of l2 c2 o x hx).same sL⟩
theorem seq_more {ta : TA} {ds : List PyData} {i n : Nat} {b : TS} {D : Ends} {H : Hp} {O : Addr} (hv : σ[i]? = some (some (.ref O))) (od : Odds K H O n) (hn : n ≤ 500) (hlit : LitA K σ Pre 9 ta ds) (p : Pre H) (o : ∀ d ∈ ds, oddD d = true) (l : ds.length ≤ 100)
    (k : ∀ O' G, Same H G → Odds K G O' (n + 100) → b D (σ.set i (some (.ref O'))) G) : tSeq (tAsg (tOp rCat (tVar i) (tLst ta)) (gName i)) b D σ H := by
  have sl : (3000 : Nat) ≤ sizeLine := by decide
  obtain ⟨xs, hx, lx, ox⟩ := od
  refine ⟨_, hv, hlit H _ p fun vs H2 s2 l2 c2 => ⟨by omega, fun L hL => ?_⟩⟩
  have sL := Same.updf (o := .lst vs) hL
  refine ⟨O, L, xs, vs, rfl, rfl, sL _ _ (s2 _ _ hx), upd_same, by omega, fun q hq => ?_⟩
  have sq := Same.updf (o := .lst (xs ++ vs)) hq
  refine k q _ ((s2.trans sL).trans sq) ⟨_, upd_same, by rw [List.length_append]; omega, fun x hx => ?_⟩
  rcases List.mem_append.mp hx with h | h
  · exact (ox x h).same ((s2.trans sL).trans sq)
  · exact ((odds_of l2 c2 o x h).same sL).same sq
end
def spLivesF (K : PySem.W.Frag) : Sp := fun vs H Q _ => ∃ (a : Addr) (es : List Ev), vs = [.ref a] ∧ LifeAt K H a es ∧ Valid es ∧ es.length ≤ 100 ∧ ∀ H', Same H H' → Q (.bl true) H'
section
variable {P : Program} {w : World} {K : PySem.W.Frag} {mg : Str → Option Value} {base : Heap}
abbrev s_lives_fall : Stmt := top 59
abbrev N_lives_fall : List Str := ["_law_life_here", "_law_lines", "_law_odds", "_law_odd", "_law_some", "_law_event", "_law_door_here", "_law_rest"]
theorem sc_lives_fall : FnScope N_lives_fall ["_law_life_here"] (defScope s_lives_fall) := ⟨rfl, rfl, rfl, by decide +kernel, rfl, by decide +kernel, by decide +kernel⟩
theorem ok_lives_fall {f : Addr} {fd : FuncData} (F : FnP K "_law_lives_fall" s_lives_fall f fd) (Z : FreeS mg)
    {f_is_life : Addr} {d_is_life : FuncData} (g_is_life : mg "is_life" = some (.ref f_is_life)) (F_is_life : FnP K "is_life" s_is_life f_is_life d_is_life) (G_is_life : FnOk P w K mg base CX0 5 f_is_life d_is_life ["value"] (spIsLife K))
    {f_falls : Addr} {d_falls : FuncData} (g_falls : mg "_law_falls" = some (.ref f_falls)) (F_falls : FnP K "_law_falls" s_falls f_falls d_falls) (G_falls : FnOk P w K mg base CX0 12 f_falls d_falls ["_law_door_here", "_law_some", "_law_word", "_law_odd"] (spFalls K)) (W : ExW K mg) :
    FnOk P w K mg base CX0 13 f fd ["_law_life_here"] (spLivesF K) := by
  have b_is_life : Binds K d_is_life ["value"] [] := F_is_life.bindsN fun _ _ _ _ _ _ us hl => match us, hl with | [_], _ => rfl
  have b_falls : Binds K d_falls ["_law_door_here", "_law_some", "_law_word", "_law_odd"] [] := F_falls.bindsN fun _ _ _ _ _ _ us hl => match us, hl with | [_, _, _, _], _ => rfl
  refine F.ok sc_lives_fall (fun vs H Q E h => ?_) (fun cdv A outer s H vs Q E hr h => ?_)
  · obtain ⟨a, es, rfl, _⟩ := h
    rfl
  · obtain ⟨a, es, rfl, hL, hV, h100, kq⟩ := h
    have hu : (A.deeper (envOfC "_law_lives_fall" (defScope s_lives_fall) s.heap.objs.size f cdv)).units + 64 < cLine := by
      have := hr.un
      omega
    have kb_is_life : KB0 d_is_life ["value"] ["value"] := F_is_life.kb0 fun _ _ _ _ _ _ ws hl => match ws, hl with | [_], _ => rfl
    have sl : (3000 : Nat) ≤ sizeLine := by decide
    have nd := sc_lives_fall.nd
    refine ⟨_, PSs.nox (pss_cons (ps_set (i := 1) nd rfl (Or.inl rfl) (pe_callB call_len_seq (by rfl) Z.len (by decide +kernel) (pa_cons (pe_lc (own := [("_law_event", 5)]) (g := gName 5) (tt := tTest (tOp (rEqD K) (tVar 5) (tTup (tCons (tC (.str "line")) (tNil))))) (te := tVar 5) (by rfl) nd (pi_list (pv 0))
          (blkOk_by (own := [("_law_event", 5)]) (N := N_lives_fall) (sc := defScope s_lives_fall) (by decide +kernel)) (fun _ _ _ _ _ => pg_name (i := 5) nd rfl (Or.inl rfl)) (fun _ _ _ _ _ => pts_one (pt_cmpR (op_eqD hu) (pv 5) (pe_tup (pa_cons (pe_str) (pa_nil))) (nomark _)))
          (fun _ _ _ _ _ => pv 5)) (pa_nil))))
      (pss_cons (ps_set (i := 2) nd rfl (Or.inl rfl) (pe_lst (pa_cons (pe_non) (pa_cons (pe_int) (pa_cons (pe_bl) (pa_cons (pe_str) (pa_cons (pe_dnewK) (pa_cons (pe_tup (pa_nil)) (pa_cons (pe_callTy call_tuple_of (by rfl) Z.ttuple (by decide +kernel) (pa_cons (pv 0) pa_nil)) (pa_cons (pe_lst (pa_cons (pe_non) (pa_nil))) (pa_cons (pe_lst (pa_cons (pe_int) (pa_nil))) (pa_cons (pe_lst (pa_cons (pe_str) (pa_nil))) (pa_cons (pe_lst (pa_cons (pe_tup (pa_nil)) (pa_nil))) (pa_cons (pe_lst (pa_cons (pe_tup (pa_cons (pe_str) (pa_cons (pe_int) (pa_nil)))) (pa_nil))) (pa_cons (pe_lst (pa_cons (pe_lst (pa_cons (pe_str) (pa_nil))) (pa_nil))) (pa_cons (pe_lst (pa_cons (pe_tup (pa_cons (pe_str) (pa_nil))) (pa_nil))) (pa_cons (pe_lst (pa_cons (pe_tup (pa_cons (pe_str) (pa_cons (pe_int) (pa_nil)))) (pa_nil))) (pa_cons (pe_lst (pa_cons (pe_tup (pa_cons (pe_str) (pa_cons (pe_un un_neg (pe_int)) (pa_nil)))) (pa_nil))) (pa_cons (pe_lst (pa_cons (pe_tup (pa_cons (pe_str) (pa_cons (pe_str) (pa_nil)))) (pa_nil))) (pa_nil))))))))))))))))))))
      (pss_cons (ps_set (i := 2) nd rfl (Or.inl rfl) (pe_op op_cat (pv 2) (pe_lst (pa_cons (pe_lst (pa_cons (pe_tup (pa_cons (pe_str) (pa_cons (pe_bl) (pa_nil)))) (pa_nil))) (pa_cons (pe_lst (pa_cons (pe_tup (pa_cons (pe_str) (pa_cons (pe_int) (pa_nil)))) (pa_nil))) (pa_cons (pe_lst (pa_cons (pe_tup (pa_cons (pe_str) (pa_nil))) (pa_nil))) (pa_cons (pe_lst (pa_cons (pe_tup (pa_cons (pe_non) (pa_nil))) (pa_nil))) (pa_cons (pe_lst (pa_cons (pe_tup (pa_cons (pe_lst (pa_nil)) (pa_nil))) (pa_nil))) (pa_cons (pe_op op_cat (pv 0) (pe_lst (pa_cons (pe_tup (pa_cons (pe_str) (pa_cons (pe_op op_add (pv 1) (pe_int)) (pa_nil)))) (pa_nil)))) (pa_cons (pe_op op_cat (pv 0) (pe_lst (pa_cons (pe_tup (pa_cons (pe_str) (pa_nil))) (pa_cons (pe_tup (pa_cons (pe_str) (pa_cons (pe_op op_add (pv 1) (pe_int)) (pa_nil)))) (pa_nil))))) (pa_cons (pe_lst (pa_cons (pv 0) (pa_nil))) (pa_nil))))))))))))
      (pss_cons (ps_set (i := 2) nd rfl (Or.inl rfl) (pe_op op_cat (pv 2) (pe_lst (pa_cons (pe_lst (pa_cons (pe_tup (pa_cons (pe_str) (pa_cons (pe_bl) (pa_nil)))) (pa_nil))) (pa_cons (pe_lst (pa_cons (pe_tup (pa_cons (pe_str) (pa_nil))) (pa_cons (pe_tup (pa_cons (pe_str) (pa_cons (pe_bl) (pa_nil)))) (pa_nil)))) (pa_cons (pe_lst (pa_cons (pe_tup (pa_cons (pe_str) (pa_nil))) (pa_cons (pe_tup (pa_cons (pe_str) (pa_cons (pe_bl) (pa_nil)))) (pa_nil)))) (pa_nil)))))))
      (pss_cons (ps_set (i := 2) nd rfl (Or.inl rfl) (pe_op op_cat (pv 2) (pe_lst (pa_cons (pe_lst (pa_cons (pe_tup (pa_cons (pe_str) (pa_nil))) (pa_cons (pe_tup (pa_cons (pe_str) (pa_nil))) (pa_cons (pe_tup (pa_cons (pe_str) (pa_cons (pe_int) (pa_nil)))) (pa_cons (pe_tup (pa_cons (pe_str) (pa_cons (pe_int) (pa_nil)))) (pa_nil)))))) (pa_cons (pe_op op_cat (pv 0) (pe_lst (pa_cons (pe_non) (pa_nil)))) (pa_cons (pe_lst (pa_cons (pe_tup (pa_cons (pe_str) (pa_nil))) (pa_cons (pe_tup (pa_cons (pe_str) (pa_cons (pe_int) (pa_cons (pe_int) (pa_nil))))) (pa_nil)))) (pa_cons (pe_lst (pa_cons (pe_tup (pa_cons (pe_str) (pa_nil))) (pa_cons (pe_tup (pa_cons (pe_str) (pa_cons (pe_non) (pa_nil)))) (pa_nil)))) (pa_nil))))))))
      (pss_cons (ps_for PassesOwn.never rfl (pi_list (pv 2)) (pg_name (i := 3) nd rfl (Or.inr rfl))
        (pss_cons (ps_set (i := 4) nd rfl (Or.inl rfl) (pe_op op_cat (pe_op op_cat (pe_lc (own := [("_law_door_here", 6)]) (g := gName 6) (tt := tYes) (te := tTup (tCons (tVar 6) (tCons (tLst (tCons (tVar 3) (tCons (tC .non) (tNil)))) (tNil)))) (by rfl) nd (pi_tup (pe_tup (pa_cons (pe_int) (pa_cons (pe_int) (pa_cons (pe_int) (pa_cons (pe_int) (pa_cons (pe_int) (pa_cons (pe_int) (pa_cons (pe_int) (pa_cons (pe_int) (pa_nil)))))))))))
          (blkOk_by (own := [("_law_door_here", 6)]) (N := N_lives_fall) (sc := defScope s_lives_fall) (by decide +kernel)) (fun _ _ _ _ _ => pg_name (i := 6) nd rfl (Or.inl rfl)) (fun _ _ _ _ _ => pts_nil)
          (fun _ _ _ _ _ => pe_tup (pa_cons (pv 6) (pa_cons (pe_lst (pa_cons (pv 3) (pa_cons (pe_non) (pa_nil)))) (pa_nil))))) (pe_lc (own := [("_law_door_here", 6)]) (g := gName 6) (tt := tYes) (te := tTup (tCons (tVar 6) (tCons (tLst (tCons (tVar 3) (tCons (tC (.int 1)) (tNil)))) (tNil)))) (by rfl) nd (pi_tup (pe_tup (pa_cons (pe_int) (pa_cons (pe_int) (pa_cons (pe_int) (pa_cons (pe_int) (pa_cons (pe_int) (pa_nil))))))))
          (blkOk_by (own := [("_law_door_here", 6)]) (N := N_lives_fall) (sc := defScope s_lives_fall) (by decide +kernel)) (fun _ _ _ _ _ => pg_name (i := 6) nd rfl (Or.inl rfl)) (fun _ _ _ _ _ => pts_nil)
          (fun _ _ _ _ _ => pe_tup (pa_cons (pv 6) (pa_cons (pe_lst (pa_cons (pv 3) (pa_cons (pe_int) (pa_nil)))) (pa_nil)))))) (pe_lst (pa_cons (pe_tup (pa_cons (pe_int) (pa_cons (pe_lst (pa_cons (pv 3) (pa_nil))) (pa_nil)))) (pa_cons (pe_tup (pa_cons (pe_int) (pa_cons (pe_lst (pa_cons (pv 3) (pa_cons (pe_int) (pa_cons (pe_lst (pa_nil)) (pa_nil))))) (pa_nil)))) (pa_cons (pe_tup (pa_cons (pe_int) (pa_cons (pe_lst (pa_cons (pv 3) (pa_cons (pe_non) (pa_cons (pe_non) (pa_nil))))) (pa_nil)))) (pa_nil)))))))
      (pss_one (ps_if (PW.pt (pw_or (pt_not (pt_val (pe_callB (cr_all rfl) (by rfl) Z.all (by decide +kernel) (pa_cons (pe_lc (own := [("_law_door_here", 6), ("_law_rest", 7)]) (g := gTup K 2 (gCons (gName 6) (gCons (gName 7) (gNil)))) (tt := tYes) (te := tCall (spFalls K) [] E0 (tCons (tVar 6) (tCons (tVar 7) (tCons (tC (.str "run")) (tCons (tVar 3) (tNil)))))) (by rfl) nd (pi_list (pv 4))
          (blkOk_by (own := [("_law_door_here", 6), ("_law_rest", 7)]) (N := N_lives_fall) (sc := defScope s_lives_fall) (by decide +kernel)) (fun _ _ _ _ _ => pg_tup rfl (pgs_cons (pg_name (i := 6) nd rfl (Or.inl rfl)) (pgs_cons (pg_name (i := 7) nd rfl (Or.inl rfl)) (pgs_nil)))) (fun _ _ _ _ _ => pts_nil)
          (fun _ _ _ _ _ => pe_call G_falls (hr.mono (by decide)) rfl g_falls F_falls.kp b_falls .nil pass0 (pa_cons (pv 6) (pa_cons (pv 7) (pa_cons (pe_str) (pa_cons (pv 3) (pa_nil))))))) (pa_nil))))) (pw_or1 (pt_cmpR op_notBl (pe_call G_is_life (hr.mono (by decide)) rfl g_is_life F_is_life.kp b_is_life .nil pass0 (pa_cons (pv 3) (pa_nil))) (pe_bl) (nomark _))))) (pss_one (ps_ret (pe_bl))) (pss_nil)))))
      (pss_one (ps_ret (pe_and (pe_cmpR op_isBl (pe_callKR G_is_life (hr.mono (by decide)) rfl g_is_life F_is_life.kp kb_is_life pass0 (pk_cons (pv 0) (pk_nil))) (pe_bl) (nomark _)) (pe_one (pe_cmpR op_isBl (pe_call G_is_life (hr.mono (by decide)) rfl g_is_life F_is_life.kp b_is_life .nil pass0 (pa_cons (pe_lst (pa_nil)) (pa_nil))) (pe_bl) (nomark _)))))))))))), ?_⟩
    obtain ⟨ts, ha, lt, hc⟩ := id hL
    refine ⟨_, rfl, a, rfl, ⟨_, SqL.of ha⟩, fun D hD => ?_⟩
    have lm : (ts.map V.ref).length = es.length := by rw [List.length_map, lt]
    refine lc_sel (n := (ts.map V.ref).length) (walk_list (K := K) (a := a) (xs := ts.map V.ref)) (fun i => if isL es i = true then (ts[i]?).map V.ref else none) (by omega) hD (fun G s => SqL.of (s _ _ ha)) ?_ ?_
    · rintro i u G G' Qy Qn hi s ⟨rfl, hx⟩ ky kn
      have hi2 : i < es.length := by omega
      rw [List.getElem?_map, List.getElem?_eq_getElem (by omega)] at hx
      obtain rfl := Option.some.inj hx
      have ee := List.getElem?_eq_getElem hi2
      have ht := hc i ts[i] es[i] (List.getElem?_eq_getElem (by omega)) ee
      refine ⟨rfl, _, rfl, (by show 1 ≤ sizeLine; omega), fun T hT => ?_⟩
      have sT := Same.updf (o := .tup [.str "line"]) hT
      have dv : Dp K (upd G' T (.tup [.str "line"])) (.ref ts[i]) es[i].d := by
        have h := SqT_up sT (SqT_up s ht)
        cases q : es[i] with
        | line => rw [q] at h; exact .tup h (.cons (.str _) .nil)
        | root => rw [q] at h; exact .tup h (.cons (.str _) .nil)
        | stand m => rw [q] at h; exact .tup h (.cons (.str _) (.cons (.int _) .nil))
      refine ⟨_, Ev.line.d, dv, .tup (SqT.of upd_same) (.cons (.str _) .nil), shaped_ev _, shaped_ev _, _, rfl, ?_⟩
      rw [eqv_line]
      have eL := isL_at ee
      cases q : decide (es[i] = Ev.line) with
      | true =>
        rw [q] at eL
        exact itB (c := true) rfl (fun _ => ⟨_, rfl, ky _ _ sT (by rw [if_pos eL, List.getElem?_eq_getElem (by omega)]; rfl)⟩) (fun z => by cases z)
      | false =>
        rw [q] at eL
        exact itB (c := false) rfl (fun z => by cases z) (fun _ => kn _ sT (by rw [if_neg (by rw [eL]; exact Bool.false_ne_true)]))
    · intro G1 s1 hR
      refine ⟨D, _, rfl, .inl (SqL.of hR), ?_⟩
      have hw : ((List.range (ts.map V.ref).length).filterMap (fun i => if isL es i = true then (ts[i]?).map V.ref else none)).length = (stE es).w := by
        unfold stE
        rw [List.length_filterMap_eq_countP, lm, List.countP_eq_length_filter, ← lp_pre es es.length (Nat.le_refl _)]
        refine congrArg List.length (List.filter_congr fun i hi => ?_)
        have hi2 := List.mem_range.mp hi
        cases isL es i with
        | true => rw [if_pos rfl, List.getElem?_eq_getElem (by omega)]; rfl
        | false => rw [if_neg Bool.false_ne_true]; rfl
      rw [hw]
      have st : Stab fun G => LifeAt K G a es := fun G G' s h => h.same s
      have hp : ∀ n G, LifeAt K G a es → ∃ xs, G a = some (.lst xs) ∧ xs.length = (es.map Ev.d).length ∧ ∀ (i : Nat) (u : V) (e : PyData), xs[i]? = some u → (es.map Ev.d)[i]? = some e → TD K G (n + 1) u e := fun n G h => by
        rcases h.td n (by omega) with h | ⟨a', xs, ds, e1, e2, e3, e4, c⟩ | ⟨_, _, _, _, _, _, e⟩
        · exact (FlatD.noL h).elim
        · cases e1
          rcases e4 with ⟨h, e⟩ | ⟨_, e⟩
          · cases e
            exact ⟨xs, h, e2, c⟩
          · cases e
        · cases e
      obtain ⟨wn, hwn⟩ : ∃ n, n = (stE es).w := ⟨_, rfl⟩
      rw [← hwn]
      dsimp only [gName, tNil]
      refine norm (σ' := [some (.ref a), some (.int (wn : Int)), none, none, none, none, none, none]) (by rfl) ?_
      refine seq_odds (K := K) (Pre := fun G => LifeAt K G a es) (ds := [.none, .int 5, .bool true, .str "", .dict [], .tuple [], .tuple (es.map Ev.d), .list [.none], .list [.int 5], .list [.str "line"], .list [.tuple []], .list [.tuple [.str "line", .int 0]], .list [.list [.str "line"]], .list [.tuple [.str "stand"]], .list [.tuple [.str "stand", .int 1]], .list [.tuple [.str "stand", .int (-1)]], .list [.tuple [.str "stand", .str "0"]]]) (hlit := ?hl1) (hL.same s1) ?ho1 ?hn1 (fun O1 G2 s2 od1 => ?k1)
      case hl1 => exact LitA.cons st (Lit.non) (LitA.cons st (Lit.int) (LitA.cons st (Lit.bl) (LitA.cons st (Lit.str) (LitA.cons st (Lit.dict0) (LitA.cons st (Lit.tup (LitA.nil)) (LitA.cons st (Lit.tupOf (by rfl) (hp 7) (by rw [List.length_map]; omega)) (LitA.cons st (Lit.lst (LitA.cons st (Lit.non) (LitA.nil))) (LitA.cons st (Lit.lst (LitA.cons st (Lit.int) (LitA.nil))) (LitA.cons st (Lit.lst (LitA.cons st (Lit.str) (LitA.nil))) (LitA.cons st (Lit.lst (LitA.cons st (Lit.tup (LitA.nil)) (LitA.nil))) (LitA.cons st (Lit.lst (LitA.cons st (Lit.tup (LitA.cons st (Lit.str) (LitA.cons st (Lit.int) (LitA.nil)))) (LitA.nil))) (LitA.cons st (Lit.lst (LitA.cons st (Lit.lst (LitA.cons st (Lit.str) (LitA.nil))) (LitA.nil))) (LitA.cons st (Lit.lst (LitA.cons st (Lit.tup (LitA.cons st (Lit.str) (LitA.nil))) (LitA.nil))) (LitA.cons st (Lit.lst (LitA.cons st (Lit.tup (LitA.cons st (Lit.str) (LitA.cons st (Lit.int) (LitA.nil)))) (LitA.nil))) (LitA.cons st (Lit.lst (LitA.cons st (Lit.tup (LitA.cons st (Lit.str) (LitA.cons st (Lit.neg) (LitA.nil)))) (LitA.nil))) (LitA.cons st (Lit.lst (LitA.cons st (Lit.tup (LitA.cons st (Lit.str) (LitA.cons st (Lit.str) (LitA.nil)))) (LitA.nil))) (LitA.nil)))))))))))))))))
      case ho1 => exact (by simp only [List.forall_mem_cons]; exact ⟨rfl, rfl, rfl, rfl, rfl, rfl, rfl, by decide +kernel, by decide +kernel, by decide +kernel, by decide +kernel, by decide +kernel, by decide +kernel, by decide +kernel, by decide +kernel, by decide +kernel, by decide +kernel, fun _ z => nomatch z⟩)
      case hn1 => exact Nat.le_of_ble_eq_true rfl
      refine norm (σ' := [some (.ref a), some (.int (wn : Int)), some (.ref O1), none, none, none, none, none]) (by rfl) ?_
      refine seq_more (K := K) (Pre := fun G => LifeAt K G a es) (ds := [.list [.tuple [.str "stand", .bool true]], .list [.tuple [.str "root", .int 0]], .list [.tuple [.str "Line"]], .list [.tuple [.none]], .list [.tuple [.list []]], .list (es.map Ev.d ++ [.tuple [.str "stand", .int ((wn : Int) + 1)]]), .list (es.map Ev.d ++ [.tuple [.str "line"], .tuple [.str "stand", .int ((wn : Int) + 2)]]), .list [.list (es.map Ev.d)]]) rfl od1 (by decide) (hlit := ?hl2) (hL.same (s1.trans s2)) ?ho2 ?hn2 (fun O2 G3 s3 od2 => ?k2)
      case hl2 => exact LitA.cons st (Lit.lst (LitA.cons st (Lit.tup (LitA.cons st (Lit.str) (LitA.cons st (Lit.bl) (LitA.nil)))) (LitA.nil))) (LitA.cons st (Lit.lst (LitA.cons st (Lit.tup (LitA.cons st (Lit.str) (LitA.cons st (Lit.int) (LitA.nil)))) (LitA.nil))) (LitA.cons st (Lit.lst (LitA.cons st (Lit.tup (LitA.cons st (Lit.str) (LitA.nil))) (LitA.nil))) (LitA.cons st (Lit.lst (LitA.cons st (Lit.tup (LitA.cons st (Lit.non) (LitA.nil))) (LitA.nil))) (LitA.cons st (Lit.lst (LitA.cons st (Lit.tup (LitA.cons st (Lit.lst (LitA.nil)) (LitA.nil))) (LitA.nil))) (LitA.cons st (Lit.cat (by rfl) st (hp 7) (LitA.cons st (Lit.tup (LitA.cons st (Lit.str) (LitA.cons st (Lit.add (by rfl)) (LitA.nil)))) (LitA.nil)) (by rw [List.length_map]; show _ + 1 ≤ 1000; omega)) (LitA.cons st (Lit.cat (by rfl) st (hp 7) (LitA.cons st (Lit.tup (LitA.cons st (Lit.str) (LitA.nil))) (LitA.cons st (Lit.tup (LitA.cons st (Lit.str) (LitA.cons st (Lit.add (by rfl)) (LitA.nil)))) (LitA.nil))) (by rw [List.length_map]; show _ + 2 ≤ 1000; omega)) (LitA.cons st (Lit.lst (LitA.cons st (Lit.var (by rfl) fun G pG => LifeAt.td 6 pG (by omega)) (LitA.nil))) (LitA.nil))))))))
      case ho2 => exact (by simp only [List.forall_mem_cons]; exact ⟨by decide +kernel, by decide +kernel, by decide +kernel, by decide +kernel, by decide +kernel, odd_stand hV (by omega) _ hwn, odd_line hV (by omega) _ hwn, odd_self es, fun _ z => nomatch z⟩)
      case hn2 => exact Nat.le_of_ble_eq_true rfl
      refine norm (σ' := [some (.ref a), some (.int (wn : Int)), some (.ref O2), none, none, none, none, none]) (by rfl) ?_
      refine seq_more (K := K) (Pre := fun G => LifeAt K G a es) (ds := [.list [.tuple [.str "stand", .bool false]], .list [.tuple [.str "line"], .tuple [.str "stand", .bool true]], .list [.tuple [.str "line"], .tuple [.str "stand", .bool false]]]) rfl od2 (by decide) (hlit := ?hl3) (hL.same ((s1.trans s2).trans s3)) ?ho3 ?hn3 (fun O3 G4 s4 od3 => ?k3)
      case hl3 => exact LitA.cons st (Lit.lst (LitA.cons st (Lit.tup (LitA.cons st (Lit.str) (LitA.cons st (Lit.bl) (LitA.nil)))) (LitA.nil))) (LitA.cons st (Lit.lst (LitA.cons st (Lit.tup (LitA.cons st (Lit.str) (LitA.nil))) (LitA.cons st (Lit.tup (LitA.cons st (Lit.str) (LitA.cons st (Lit.bl) (LitA.nil)))) (LitA.nil)))) (LitA.cons st (Lit.lst (LitA.cons st (Lit.tup (LitA.cons st (Lit.str) (LitA.nil))) (LitA.cons st (Lit.tup (LitA.cons st (Lit.str) (LitA.cons st (Lit.bl) (LitA.nil)))) (LitA.nil)))) (LitA.nil)))
      case ho3 => exact (by simp only [List.forall_mem_cons]; exact ⟨by decide +kernel, by decide +kernel, by decide +kernel, fun _ z => nomatch z⟩)
      case hn3 => exact Nat.le_of_ble_eq_true rfl
      refine norm (σ' := [some (.ref a), some (.int (wn : Int)), some (.ref O3), none, none, none, none, none]) (by rfl) ?_
      refine seq_more (K := K) (Pre := fun G => LifeAt K G a es) (ds := [.list [.tuple [.str "line"], .tuple [.str "line"], .tuple [.str "stand", .int 2], .tuple [.str "stand", .int 1]], .list (es.map Ev.d ++ [.none]), .list [.tuple [.str "line"], .tuple [.str "stand", .int 1, .int 1]], .list [.tuple [.str "line"], .tuple [.str "stand", .none]]]) rfl od3 (by decide) (hlit := ?hl4) (hL.same (((s1.trans s2).trans s3).trans s4)) ?ho4 ?hn4 (fun O4 G5 s5 od4 => ?k4)
      case hl4 => exact LitA.cons st (Lit.lst (LitA.cons st (Lit.tup (LitA.cons st (Lit.str) (LitA.nil))) (LitA.cons st (Lit.tup (LitA.cons st (Lit.str) (LitA.nil))) (LitA.cons st (Lit.tup (LitA.cons st (Lit.str) (LitA.cons st (Lit.int) (LitA.nil)))) (LitA.cons st (Lit.tup (LitA.cons st (Lit.str) (LitA.cons st (Lit.int) (LitA.nil)))) (LitA.nil)))))) (LitA.cons st (Lit.cat (by rfl) st (hp 7) (LitA.cons st (Lit.non) (LitA.nil)) (by rw [List.length_map]; show _ + 1 ≤ 1000; omega)) (LitA.cons st (Lit.lst (LitA.cons st (Lit.tup (LitA.cons st (Lit.str) (LitA.nil))) (LitA.cons st (Lit.tup (LitA.cons st (Lit.str) (LitA.cons st (Lit.int) (LitA.cons st (Lit.int) (LitA.nil))))) (LitA.nil)))) (LitA.cons st (Lit.lst (LitA.cons st (Lit.tup (LitA.cons st (Lit.str) (LitA.nil))) (LitA.cons st (Lit.tup (LitA.cons st (Lit.str) (LitA.cons st (Lit.non) (LitA.nil)))) (LitA.nil)))) (LitA.nil))))
      case ho4 => exact (by simp only [List.forall_mem_cons]; exact ⟨by decide +kernel, odd_none hV (by omega), by decide +kernel, by decide +kernel, fun _ z => nomatch z⟩)
      case hn4 => exact Nat.le_of_ble_eq_true rfl
      have s5a : Same H G5 := (((s1.trans s2).trans s3).trans s4).trans s5
      obtain ⟨xs, hO, lx, ox⟩ := od4
      refine ⟨_, rfl, O4, rfl, ⟨_, SqL.of hO⟩, ?_⟩
      refine for_it (n := xs.length) (walk_list (K := K) (a := O4) (xs := xs)) (fun _ σ G => Same G5 G ∧ ∃ v3 v4, σ = [some (.ref a), some (.int (wn : Int)), some (.ref O4), v3, v4, none, none, none])
        ⟨Same.refl _, none, none, rfl⟩ (fun i σ G _ hh => SqL.of (hh.1 _ _ hO)) ?_ ?_
      · rintro i v σ G' G hi ⟨s6, v3, v4, rfl⟩ ⟨rfl, hx⟩
        have ov : OddK K G v := (ox v (List.mem_of_getElem? hx)).same s6
        have ol := ov.oddL
        have hfk : ∀ k < 10, k ≠ 6 → k ≠ 9 → ∀ y G', Same G G' → k < 12 ∧ Fails K (cRun K) v k [v, y] G' := fun k hk n6 n9 y G' s' => ⟨by omega, odd_fails (ol.same s') hk (.inr (.inl ⟨n9, y, [], rfl⟩))⟩
        refine ⟨(by show 8 ≤ sizeLine; omega), fun Tp hTp => ⟨Tp, rfl, ⟨_, SqT.of upd_same⟩, fun D1 hD1 => ?_⟩⟩
        have sTp := Same.updf (o := .tup [.int 0, .int 1, .int 2, .int 3, .int 4, .int 5, .int 7, .int 8]) hTp
        refine lc_doors (K := K) (C := cRun K) (v := v) (x := v) (y := .non) (ks := [0, 1, 2, 3, 4, 5, 7, 8]) (fun k hk => hfk k (by simp at hk; omega) (by simp at hk; omega) (by simp at hk; omega) _ _ sTp) (by decide) upd_same hD1 (fun _ => rfl) (fun _ => rfl) (fun u G Q q => ⟨_, rfl, q⟩) (fun G6 ys1 s7 hD1b ly1 hy1 => ?_)
        have s67 := sTp.trans s7
        refine ⟨(by show 5 ≤ sizeLine; omega), fun Tq hTq => ⟨Tq, rfl, ⟨_, SqT.of upd_same⟩, fun D2 hD2 => ?_⟩⟩
        have sTq := Same.updf (o := .tup [.int 0, .int 1, .int 2, .int 3, .int 8]) hTq
        refine lc_doors (K := K) (C := cRun K) (v := v) (x := v) (y := .int 1) (ks := [0, 1, 2, 3, 8]) (fun k hk => hfk k (by simp at hk; omega) (by simp at hk; omega) (by simp at hk; omega) _ _ (s67.trans sTq)) (by decide) upd_same hD2 (fun _ => rfl) (fun _ => rfl) (fun u G Q q => ⟨_, rfl, q⟩) (fun G7 ys2 s8 hD2b ly2 hy2 => ?_)
        refine ⟨D1, D2, ys1, ys2, rfl, rfl, s8 _ _ (sTq _ _ hD1b), hD2b, by rw [ly1, ly2]; show 8 + 5 ≤ sizeLine; omega, fun C1 hC1 => ?_⟩
        have sC0 := s67.trans (sTq.trans s8)
        have hy12 : ∀ t ∈ ys1 ++ ys2, Dr K (cRun K) v G7 t := fun t ht => by
          rcases List.mem_append.mp ht with h | h
          · exact Dr.same s8 (Dr.same sTq (hy1 t h))
          · exact hy2 t h
        have l12 : (ys1 ++ ys2).length = 13 := by rw [List.length_append, ly1, ly2]; rfl
        generalize ys1 ++ ys2 = ys at hy12 l12 hC1 ⊢
        have sC1 := Same.updf (o := .lst ys) hC1
        have eC1 : upd G7 C1 (.lst ys) C1 = some (.lst ys) := upd_same
        generalize upd G7 C1 (.lst ys) = A0 at sC1 eC1 ⊢
        refine ⟨_, rfl, (by show 1 ≤ sizeLine; omega), fun L6 hL6 => ?_⟩
        have sL6 := Same.updf (o := .lst [v]) hL6
        have eL6 : upd A0 L6 (.lst [v]) L6 = some (.lst [v]) := upd_same
        generalize upd A0 L6 (.lst [v]) = A1 at sL6 eL6 ⊢
        refine ⟨(by show 2 ≤ sizeLine; omega), fun T6 hT6 => ?_⟩
        have sT6 := Same.updf (o := .tup [.int 6, .ref L6]) hT6
        have eT6 : upd A1 T6 (.tup [.int 6, .ref L6]) T6 = some (.tup [.int 6, .ref L6]) := upd_same
        generalize upd A1 T6 (.tup [.int 6, .ref L6]) = A2 at sT6 eT6 ⊢
        refine ⟨_, rfl, (by show 0 ≤ sizeLine; omega), fun Le hLe => ?_⟩
        have sLe := Same.updf (o := .lst []) hLe
        have eLe : upd A2 Le (.lst []) Le = some (.lst []) := upd_same
        generalize upd A2 Le (.lst []) = A3 at sLe eLe ⊢
        refine ⟨(by show 3 ≤ sizeLine; omega), fun L9 hL9 => ?_⟩
        have sL9 := Same.updf (o := .lst [v, .int 1, .ref Le]) hL9
        have eL9 : upd A3 L9 (.lst [v, .int 1, .ref Le]) L9 = some (.lst [v, .int 1, .ref Le]) := upd_same
        generalize upd A3 L9 (.lst [v, .int 1, .ref Le]) = A4 at sL9 eL9 ⊢
        refine ⟨(by show 2 ≤ sizeLine; omega), fun T9 hT9 => ?_⟩
        have sT9 := Same.updf (o := .tup [.int 9, .ref L9]) hT9
        have eT9 : upd A4 T9 (.tup [.int 9, .ref L9]) T9 = some (.tup [.int 9, .ref L9]) := upd_same
        generalize upd A4 T9 (.tup [.int 9, .ref L9]) = A5 at sT9 eT9 ⊢
        refine ⟨_, rfl, (by show 3 ≤ sizeLine; omega), fun Ln hLn => ?_⟩
        have sLn := Same.updf (o := .lst [v, .non, .non]) hLn
        have eLn : upd A5 Ln (.lst [v, .non, .non]) Ln = some (.lst [v, .non, .non]) := upd_same
        generalize upd A5 Ln (.lst [v, .non, .non]) = A6 at sLn eLn ⊢
        refine ⟨(by show 2 ≤ sizeLine; omega), fun Tn hTn => ?_⟩
        have sTn := Same.updf (o := .tup [.int 9, .ref Ln]) hTn
        have eTn : upd A6 Tn (.tup [.int 9, .ref Ln]) Tn = some (.tup [.int 9, .ref Ln]) := upd_same
        generalize upd A6 Tn (.tup [.int 9, .ref Ln]) = A7 at sTn eTn ⊢
        refine ⟨(by show 3 ≤ sizeLine; omega), fun B3 hB3 => ?_⟩
        have sB3 := Same.updf (o := .lst [.ref T6, .ref T9, .ref Tn]) hB3
        have eB3 : upd A7 B3 (.lst [.ref T6, .ref T9, .ref Tn]) B3 = some (.lst [.ref T6, .ref T9, .ref Tn]) := upd_same
        generalize upd A7 B3 (.lst [.ref T6, .ref T9, .ref Tn]) = A8 at sB3 eB3 ⊢
        have s17 := sT6.trans (sLe.trans (sL9.trans (sT9.trans (sLn.trans (sTn.trans sB3)))))
        have sAll : Same G A8 := sC0.trans (sC1.trans (sL6.trans s17))
        refine ⟨C1, B3, ys, _, rfl, rfl, (sL6.trans s17) _ _ eC1, eB3, (by rw [l12]; show 13 + 3 ≤ sizeLine; omega), fun S hS => ?_⟩
        have sS := Same.updf (o := .lst (ys ++ [.ref T6, .ref T9, .ref Tn])) hS
        have eS : upd A8 S (.lst (ys ++ [.ref T6, .ref T9, .ref Tn])) S = some (.lst (ys ++ [.ref T6, .ref T9, .ref Tn])) := upd_same
        generalize upd A8 S (.lst (ys ++ [.ref T6, .ref T9, .ref Tn])) = A9 at sS eS ⊢
        have hdr : ∀ t ∈ ys ++ [.ref T6, .ref T9, .ref Tn], Dr K (cRun K) v A9 t := fun t ht => by
          rcases List.mem_append.mp ht with h | h
          · exact Dr.same (sC1.trans (sL6.trans (s17.trans sS))) (hy12 t h)
          · simp only [List.mem_cons, List.not_mem_nil, or_false] at h
            rcases h with rfl | rfl | rfl
            · exact ⟨T6, 6, L6, [v], rfl, (sLe.trans (sL9.trans (sT9.trans (sLn.trans (sTn.trans (sB3.trans sS)))))) _ _ eT6, by decide, (s17.trans sS) _ _ eL6, odd_fails (ol.same (sAll.trans sS)) (by decide) (.inr (.inr ⟨rfl, [], rfl⟩))⟩
            · exact ⟨T9, 9, L9, _, rfl, (sLn.trans (sTn.trans (sB3.trans sS))) _ _ eT9, by decide, (sT9.trans (sLn.trans (sTn.trans (sB3.trans sS)))) _ _ eL9, odd_fails (ol.same (sAll.trans sS)) (by decide) (.inl ⟨_, _, [], rfl⟩)⟩
            · exact ⟨Tn, 9, Ln, _, rfl, (sB3.trans sS) _ _ eTn, by decide, (sTn.trans (sB3.trans sS)) _ _ eLn, odd_fails (ol.same (sAll.trans sS)) (by decide) (.inl ⟨_, _, [], rfl⟩)⟩
        have ltt : (ys ++ [V.ref T6, V.ref T9, V.ref Tn]).length ≤ 100 := by rw [List.length_append, l12]; show 13 + 3 ≤ 100; decide
        have ov9 := ov.same (sAll.trans sS)
        have sGS : Same G A9 := sAll.trans sS
        clear hy12
        generalize (ys ++ [V.ref T6, V.ref T9, V.ref Tn]) = tt at eS hdr ltt ⊢
        refine ⟨_, rfl, S, rfl, ⟨_, SqL.of eS⟩, fun D3 hD3 => ?_⟩
        refine lc_sel (n := tt.length) (walk_list (K := K) (a := S) (xs := tt)) (fun _ => some (.bl true)) (by omega) hD3 (fun G s => SqL.of (s _ _ eS)) ?_ ?_
        · rintro i t X X' Qy Qn hi sX ⟨rfl, hx⟩ ky kn
          obtain ⟨T, k, L, zs, rfl, h1, h2, h3, h4⟩ := Dr.same sX (hdr t (List.mem_of_getElem? hx))
          refine ⟨T, [_, _], rfl, .inl (.inl h1), rfl, _, [_], rfl, _, [], rfl, rfl, ?_⟩
          obtain ⟨d, td, od⟩ := ov9.same sX
          exact ⟨rfl, _, rfl, _, rfl, _, rfl, k, L, 0, zs, v, d, rfl, h2, by decide, h3, td, (ov9.same sX).very, h4, fun X2 s => ky _ _ s rfl⟩
        · intro X sX hR
          obtain ⟨bs, hB, hb⟩ := all_bits (K := K) hR
          refine ⟨D3, bs, rfl, hB, ?_⟩
          rw [hb]
          refine ⟨true, rfl, itB (c := false) rfl (fun z => by cases z) (fun _ => ?_)⟩
          refine ⟨_, rfl, .inl ⟨v, rfl, (ov9.same sX).oddL, fun X2 sX2 => ⟨false, false, rfl, rfl, _, rfl, itB (c := false) rfl (fun z => by cases z) (fun _ => ?_)⟩⟩⟩
          exact ⟨s6.trans (sGS.trans (sX.trans sX2)), _, _, rfl⟩
      · rintro σ G ⟨s6, v3, v4, rfl⟩
        have sG := s5a.trans s6
        refine ⟨_, rfl, .inr ⟨a, es, rfl, hL.same sG, hV, fun X sX => ⟨true, true, rfl, rfl, true, rfl, itB (c := true) rfl (fun _ => ?_) (fun z => by cases z)⟩⟩⟩
        refine ⟨(by show 0 ≤ sizeLine; omega), fun Le hLe => ?_⟩
        have sLe := Same.updf (o := .lst []) hLe
        refine .inr ⟨Le, [], rfl, ⟨[], upd_same, rfl, fun i t e h => by simp at h⟩, Valid.nil, fun X2 sX2 => ⟨true, true, rfl, rfl, ?_⟩⟩
        exact kq _ (sG.trans (sX.trans (sLe.trans sX2)))
end
end K36
set_option Elab.async false
set_option linter.all false
set_option maxRecDepth 100000
set_option maxHeartbeats 8000000
/-! What is no count, no moment, no list of positions. -/
namespace K36
open PySem PySem.Spec PyProof.Rows L2 KB
def OddQ (q : PyData → Bool) (K : PySem.W.Frag) (H : Hp) (v : V) : Prop := ∃ d, TD K H 9 v d ∧ q d = true
theorem OddQ.same {q : PyData → Bool} {K : PySem.W.Frag} {H H' : Hp} {v : V} (k : Same H H') : OddQ q K H v → OddQ q K H' v := fun ⟨d, h, o⟩ => ⟨d, h.same k, o⟩
def flatQ : PyData → Bool
  | .dict (_ :: _) => false
  | _ => true
theorem OddQ.very {q : PyData → Bool} {K : PySem.W.Frag} {H : Hp} {v : V} (hq : ∀ d, q d = true → flatQ d = true) : OddQ q K H v → VeryK K H v := by
  rintro ⟨d, h, o⟩
  exact VeryK.of h fun p r e => by
    have := hq d o
    rw [e] at this
    cases this
/-- no count -/
def q0 (d : PyData) : Bool := flatQ d && !cntB d
/-- no count from 1 on -/
def q1 (d : PyData) : Bool := flatQ d && match d with | .int j => decide (j < 1) | _ => true
/-- no moment of n -/
def qM (n : Nat) (d : PyData) : Bool := flatQ d && match d with | .int j => decide (j < 0) || decide ((n : Int) < j) | _ => true
def natsOf (ds : List PyData) : List Nat := ds.map fun | .int i => i.toNat | _ => 0
/-- no positions below n -/
def qP (n : Nat) (d : PyData) : Bool := flatQ d && match d with | .list ds => ds.any (fun e => !cntB e) || !(ascB (natsOf ds) && (natsOf ds).all fun x => decide (x < n)) | _ => true
theorem and_left {a b : Bool} (h : (a && b) = true) : a = true := by rw [Bool.and_eq_true] at h; exact h.1
section
variable {K : PySem.W.Frag} {H : Hp} {v : V}
theorem OddQ.cnt : OddQ q0 K H v → CntV K H v false := fun ⟨d, h, o⟩ => by
  have := CntV.td h
  unfold q0 at o
  rw [Bool.and_eq_true, Bool.not_eq_true'] at o
  rwa [o.2] at this
theorem flat_int {n : Nat} {j : Int} (h : TD K H n v (.int j)) : v = .int j := by
  cases n with
  | zero => cases h; rfl
  | succ n =>
    rcases h with h | ⟨_, _, _, _, _, _, ⟨_, e⟩ | ⟨_, e⟩, _⟩ | ⟨_, _, _, _, _, _, e⟩
    · cases h; rfl
    · cases e
    · cases e
    · cases e
theorem OddQ.no1 : OddQ q1 K H v → No1 K H v := fun ⟨d, h, o⟩ => by
  have hc := CntV.td h
  unfold q1 at o
  rw [Bool.and_eq_true] at o
  cases d with
  | int j => exact .inr ⟨j, flat_int h, of_decide_eq_true o.2⟩
  | none => exact .inl hc
  | bool b => exact .inl hc
  | str x => exact .inl hc
  | list xs => exact .inl hc
  | tuple xs => exact .inl hc
  | dict xs => exact .inl hc
theorem OddQ.noM {n : Nat} : OddQ (qM n) K H v → NoM K H n v := fun ⟨d, h, o⟩ => by
  have hc := CntV.td h
  unfold qM at o
  rw [Bool.and_eq_true] at o
  cases d with
  | int j =>
    refine .inr ⟨j, flat_int h, ?_⟩
    have := o.2
    simp only [Bool.or_eq_true, decide_eq_true_eq] at this
    exact this
  | none => exact .inl hc
  | bool b => exact .inl hc
  | str x => exact .inl hc
  | list xs => exact .inl hc
  | tuple xs => exact .inl hc
  | dict xs => exact .inl hc
theorem nums_of : ∀ {xs : List V} {ds : List PyData} {n : Nat}, xs.length = ds.length → (∀ (i : Nat) (u : V) (e : PyData), xs[i]? = some u → ds[i]? = some e → TD K H n u e) → (∀ e ∈ ds, cntB e = true) → xs = numsV (natsOf ds)
  | [], [], _, _, _, _ => rfl
  | [], _ :: _, _, h, _, _ => by simp at h
  | _ :: _, [], _, h, _, _ => by simp at h
  | x :: xs, d :: ds, n, l, c, k => by
    have ih := nums_of (xs := xs) (ds := ds) (n := n) (by simpa using l) (fun i u e h1 h2 => c (i + 1) u e h1 h2) (fun e he => k e (.tail _ he))
    have h0 := c 0 x d rfl rfl
    have k0 := k d (.head _)
    cases d with
    | int j =>
      have := flat_int h0
      have k1 : j ≥ 0 := of_decide_eq_true k0
      rw [this, ih]
      show V.int j :: _ = V.int ((j.toNat : Nat) : Int) :: _
      rw [Int.toNat_of_nonneg k1]
      rfl
    | none => cases k0
    | bool b => cases k0
    | str x => cases k0
    | list xs => cases k0
    | tuple xs => cases k0
    | dict xs => cases k0
theorem OddQ.noP {n : Nat} : OddQ (qP n) K H v → NoPos K H n v := fun ⟨d, h, o⟩ => by
  unfold qP at o
  rw [Bool.and_eq_true] at o
  rcases h with h | ⟨a, xs, ds, rfl, e2, e3, e4, c⟩ | ⟨a, ps, m, rfl, _, ha, rfl⟩
  · obtain ⟨t, ty, k1, _⟩ := FlatD.ty (K := K) (H := H) h
    exact .inl (.inl ⟨t, ty, k1⟩)
  · rcases e4 with ⟨h, rfl⟩ | ⟨h, rfl⟩
    · have o2 := o.2
      dsimp only at o2
      rw [Bool.or_eq_true] at o2
      cases hb : ds.any (fun e => !cntB e) with
      | true =>
        rw [List.any_eq_true] at hb
        obtain ⟨e, he, hn⟩ := hb
        refine .inl (.inr ⟨a, xs, ds.map cntB, rfl, h, by omega, by rw [List.length_map, e2], List.mem_map.mpr ⟨e, he, by simpa using hn⟩, fun i y b h1 h2 => ?_⟩)
        rw [List.getElem?_map] at h2
        cases hd : ds[i]? with
        | none => rw [hd] at h2; cases h2
        | some e =>
          rw [hd] at h2
          cases h2
          exact CntV.td (c i y e h1 hd)
      | false =>
        rw [hb] at o2
        have o3 : (ascB (natsOf ds) && (natsOf ds).all fun x => decide (x < n)) = false := by
          rcases o2 with o2 | o2
          · cases o2
          · rw [Bool.not_eq_true'] at o2
            exact o2
        have hx := nums_of e2 c fun e he => by
          rw [List.any_eq_false] at hb
          simpa using hb e he
        subst hx
        exact .inr ⟨a, natsOf ds, rfl, h, by unfold natsOf; rw [List.length_map]; omega, o3⟩
    · exact .inl (.inl ⟨"tuple", sqT_ty h, by decide +kernel⟩)
  · exact .inl (.inl ⟨"dict", .base (.dK ha), by decide +kernel⟩)
end
section
variable {K : PySem.W.Frag} {σ : L2.St} {Pre : Hp → Prop}
theorem oddq_of {q : PyData → Bool} {H : Hp} {vs : List V} {ds : List PyData} (l : vs.length = ds.length) (c : ∀ (i : Nat) (u : V) (e : PyData), vs[i]? = some u → ds[i]? = some e → TD K H 9 u e) (o : ∀ d ∈ ds, q d = true) : ∀ u ∈ vs, OddQ q K H u := fun u hu => by
  obtain ⟨i, hi⟩ := List.getElem?_of_mem hu
  have hl := (List.getElem?_eq_some_iff.mp hi).1
  have e := List.getElem?_eq_getElem (l := ds) (i := i) (by omega)
  exact ⟨_, c i u _ hi e, o _ (List.getElem_mem _)⟩
theorem Lit.len {n i m : Nat} {a : Addr} (hv : σ[i]? = some (some (.ref a))) (hp : ∀ H, Pre H → ∃ xs, H a = some (.lst xs) ∧ xs.length = m) :
    Lit K σ Pre n (tCB (fun xs H Q => ∃ p ys, xs = [.ref p] ∧ (SqL K H p ys ∨ SqT K H p ys) ∧ Q (.int ys.length) H) (tCons (tVar i) tNil)) (.int (m : Int)) := fun H Q p k => by
  obtain ⟨xs, h1, rfl⟩ := hp H p
  exact ⟨_, hv, a, xs, rfl, .inl (SqL.of h1), k _ _ (Same.refl _) (TD.flat (.int _))⟩
theorem Lit.len1 {n i m : Nat} {y : Int} {a : Addr} (hv : σ[i]? = some (some (.ref a))) (hp : ∀ H, Pre H → ∃ xs, H a = some (.lst xs) ∧ xs.length = m) :
    Lit K σ Pre n (tOp (rI0 fun i j => .int (i + j)) (tCB (fun xs H Q => ∃ p ys, xs = [.ref p] ∧ (SqL K H p ys ∨ SqT K H p ys) ∧ Q (.int ys.length) H) (tCons (tVar i) tNil)) (tC (.int y))) (.int ((m : Int) + y)) := fun H Q p k => by
  obtain ⟨xs, h1, rfl⟩ := hp H p
  exact ⟨_, hv, a, xs, rfl, .inl (SqL.of h1), _, _, rfl, rfl, k _ _ (Same.refl _) (TD.flat (.int _))⟩
theorem Lit.pow {n : Nat} : Lit K σ Pre n (tOp (rI CPow fun i j => .int (i ^ j.toNat)) (tC (.int 10)) (tC (.int 20))) (.int 100000000000000000000) := fun H Q p k =>
  ⟨10, 20, rfl, rfl, ⟨by decide, by decide, by decide⟩, k _ _ (Same.refl _) (TD.flat (.int _))⟩
/-- for x in [..]: -/
theorem for_odds {q : PyData → Bool} {ta : TA} {ds : List PyData} {g : TG} {tb : TS} {D : Ends} {H : Hp} {Iv : L2.St → Prop} (hlit : LitA K σ Pre 9 ta ds) (p : Pre H) (o : ∀ d ∈ ds, q d = true) (l : ds.length ≤ 100) (h0 : Iv σ)
    (hs : ∀ G0 v τ G, Same H G0 → Same G0 G → Iv τ → OddQ q K G v → g v τ G fun σ2 H2 => tb { D with nx := fun τ G => Same G0 G ∧ Iv τ, ct := fun τ G => Same G0 G ∧ Iv τ, bk := D.nx } σ2 H2)
    (hd : ∀ τ G, Same H G → Iv τ → D.nx τ G) : tFor (iList K (tLst ta)) g tb D σ H := by
  have sl : (3000 : Nat) ≤ sizeLine := by decide
  refine hlit H _ p fun vs H2 s2 l2 c2 => ⟨by omega, fun L hL => ?_⟩
  have sL := Same.updf (o := .lst vs) hL
  have eL : upd H2 L (.lst vs) L = some (.lst vs) := upd_same
  have ov : ∀ x ∈ vs, OddQ q K (upd H2 L (.lst vs)) x := fun x hx => (oddq_of l2 c2 o x hx).same sL
  generalize upd H2 L (.lst vs) = G0 at sL eL ov ⊢
  refine ⟨L, rfl, ⟨_, SqL.of eL⟩, ?_⟩
  refine for_it (n := vs.length) (walk_list (K := K) (a := L) (xs := vs)) (fun _ τ G => Same G0 G ∧ Iv τ) ⟨Same.refl _, h0⟩ (fun i τ G _ hh => SqL.of (hh.1 _ _ eL)) ?_ ?_
  · rintro i v τ G G' hi ⟨s6, iv⟩ ⟨rfl, hx⟩
    exact hs G0 v τ _ (s2.trans sL) s6 iv ((ov v (List.mem_of_getElem? hx)).same s6)
  · rintro τ G ⟨s6, iv⟩
    exact hd τ G ((s2.trans sL).trans s6) iv
/-- [.. for x in [..]], each of them True -/
theorem lc_odds {q : PyData → Bool} {ta : TA} {ds : List PyData} {g : TG} {te : TE} {vs : List Nat} {H : Hp} {Q : VK} (hlit : LitA K σ Pre 9 ta ds) (p : Pre H) (o : ∀ d ∈ ds, q d = true) (l : ds.length ≤ 100)
    (hs : ∀ v G (Qy : VK), Same H G → OddQ q K G v → (∀ G', Same G G' → Qy (.bl true) G') → g v (wipe σ vs) G fun σ2 H2 => wipe σ2 vs = wipe σ vs ∧ te σ2 H2 Qy)
    (hg : ∀ v τ G (F1 F2 : L2.St → Hp → Prop), (∀ τ G, F1 τ G → F2 τ G) → g v τ G F1 → g v τ G F2)
    (hd : ∀ D G n, Same H G → G D = some (.lst ((List.range n).filterMap fun _ => some (V.bl true))) → Q (.ref D) G) : tLc (iList K (tLst ta)) g tYes te vs σ H Q := by
  have sl : (3000 : Nat) ≤ sizeLine := by decide
  refine hlit H _ p fun us H2 s2 l2 c2 => ⟨by omega, fun L hL => ?_⟩
  have sL := Same.updf (o := .lst us) hL
  have eL : upd H2 L (.lst us) L = some (.lst us) := upd_same
  have ov : ∀ x ∈ us, OddQ q K (upd H2 L (.lst us)) x := fun x hx => (oddq_of l2 c2 o x hx).same sL
  generalize upd H2 L (.lst us) = G0 at sL eL ov ⊢
  refine ⟨L, rfl, ⟨_, SqL.of eL⟩, fun D hD => ?_⟩
  refine lc_sel (n := us.length) (walk_list (K := K) (a := L) (xs := us)) (fun _ => some (.bl true)) (by omega) hD (fun G s => SqL.of (s _ _ eL)) ?_ ?_
  · rintro i t X X' Qy Qn hi sX ⟨rfl, hx⟩ ky kn
    refine hg _ _ _ _ _ (fun τ G h => ⟨h.1, ?_⟩) (hs t _ Qy ((s2.trans sL).trans sX) ((ov t (List.mem_of_getElem? hx)).same sX) fun G' s' => ky _ _ s' rfl)
    unfold tYes
    dsimp only
    rw [if_pos rfl]
    exact h.2
  · intro X sX hR
    exact hd D X _ ((s2.trans sL).trans sX) hR
/-- a door and what is handed to it, as a display -/
def DrE (K : PySem.W.Frag) (C : Addr) (v : V) (σ : L2.St) (G0 : Hp) (te : TE) : Prop := ∀ H (Q : VK), Same G0 H → (∀ t H', Same H H' → Dr K C v H' t → Q t H') → te σ H Q
def DrA (K : PySem.W.Frag) (C : Addr) (v : V) (σ : L2.St) (G0 : Hp) (ta : TA) (n : Nat) : Prop := ∀ H (Q : List V → Hp → Prop), Same G0 H → (∀ ts H', Same H H' → ts.length = n → (∀ t ∈ ts, Dr K C v H' t) → Q ts H') → ta σ H Q
theorem DrE.mk {C : Addr} {v : V} {G0 : Hp} {k : Nat} {xs : List V} {ta : TA} (hf : k < 12 ∧ Fails K C v k xs G0) (hta : ∀ H (Q : List V → Hp → Prop), Q xs H → ta σ H Q) (lx : xs.length ≤ 100) : DrE K C v σ G0 (tTup (tCons (tC (.int (k : Int))) (tCons (tLst ta) tNil))) := fun H Q s kq => by
  have sl : (3000 : Nat) ≤ sizeLine := by decide
  refine hta _ _ ⟨by omega, fun L hL => ⟨by show 2 ≤ sizeLine; omega, fun T hT => ?_⟩⟩
  have sL := Same.updf (o := .lst xs) hL
  have sT := Same.updf (o := .tup [.int (k : Int), .ref L]) hT
  exact kq _ _ (sL.trans sT) ⟨T, k, L, xs, rfl, upd_same, hf.1, sT _ _ upd_same, hf.2.same (s.trans (sL.trans sT))⟩
theorem DrA.nil {C : Addr} {v : V} {G0 : Hp} : DrA K C v σ G0 tNil 0 := fun H Q s k => k [] H (Same.refl _) rfl fun t h => nomatch h
theorem DrA.cons {C : Addr} {v : V} {G0 : Hp} {te : TE} {ta : TA} {n : Nat} (h : DrE K C v σ G0 te) (t : DrA K C v σ G0 ta n) : DrA K C v σ G0 (tCons te ta) (n + 1) := fun H Q s k => by
  refine h H _ s fun u H1 s1 d1 => t H1 _ (s.trans s1) fun ts H2 s2 l d2 => ?_
  refine k _ H2 (s1.trans s2) (by rw [List.length_cons, l]) fun x hx => ?_
  rcases List.mem_cons.mp hx with rfl | hx
  · exact Dr.same s2 d1
  · exact d2 x hx
end
section
variable {K : PySem.W.Frag} {H : Hp} {a : Addr} {es : List Ev} {v : V}
theorem cnt_fails (hL : LifeAt K H a es) (hV : Valid es) (h : No1 K H v) {k : Nat} {xs : List V} (hk : k < 4 ∧ xs = [.ref a, v] ∨ k = 9 ∧ (∃ z, xs = [.ref a, v, z]) ∨ (k = 10 ∨ k = 11) ∧ ((∃ y, xs = [v, y]) ∨ xs = [.int 4, v])) : k < 12 ∧ Fails K (cCnt K) v k xs H := by
  refine ⟨by omega, fun H' Q E s r => ?_⟩
  have hL' := hL.same s
  have h' := h.same s
  rcases hk with ⟨hk, rfl⟩ | ⟨rfl, z, rfl⟩ | ⟨hk, hx⟩
  · have cs : k = 0 ∨ k = 1 ∨ k = 2 ∨ k = 3 := by omega
    rcases cs with rfl | rfl | rfl | rfl <;> exact ⟨_, _, _, rfl, .inr (.inl ⟨a, es, v, rfl, hL', hV, h', r⟩)⟩
  · exact ⟨_, _, _, _, rfl, .inr (.inl ⟨a, es, v, z, rfl, hL', hV, h', r⟩)⟩
  · rcases hx with ⟨y, rfl⟩ | rfl
    · rcases hk with rfl | rfl <;> exact ⟨_, _, _, rfl, .inl ⟨v, y, rfl, h', r⟩⟩
    · rcases hk with rfl | rfl <;> exact ⟨_, _, _, rfl, .inr (.inl ⟨4, v, rfl, by decide, h', r⟩)⟩
theorem cnt8_fails (hL : LifeAt K H a es) (hV : Valid es) (h : CntV K H v false) : Fails K (cCnt K) v 8 [.ref a, v] H := fun H' Q E s r =>
  ⟨_, _, _, rfl, .inr (.inl ⟨a, es, v, rfl, hL.same s, hV, h.up s, r⟩)⟩
theorem mom_fails (hL : LifeAt K H a es) (hV : Valid es) (h : NoM K H es.length v) {k : Nat} (hk : k = 4 ∨ k = 5) : Fails K (cMom K) v k [.ref a, v] H := fun H' Q E s r => by
  rcases hk with rfl | rfl <;> exact ⟨_, _, _, rfl, .inr (.inl ⟨a, es, v, rfl, hL.same s, hV, h.same s, r⟩)⟩
theorem NoCnts.up2 {H' : Hp} (s : Same H H') (h : NoCnts K H v) : NoCnts K H' v := by
  rcases h with ⟨t, ty, e⟩ | ⟨b, xs, bs, e, h, l, l2, m, c⟩
  · exact .inl ⟨t, TyX_up s ty, e⟩
  · exact .inr ⟨b, xs, bs, e, s _ _ h, l, l2, m, fun i y b e1 e2 => (c i y b e1 e2).up s⟩
theorem pos_fails (hL : LifeAt K H a es) (hV : Valid es) (h : NoPos K H es.length v) : Fails K (cMom K) v 7 [.ref a, v] H := fun H' Q E s r => by
  refine ⟨_, _, _, rfl, .inr (.inl ⟨a, es, v, rfl, hL.same s, hV, ?_, r⟩)⟩
  rcases h with h | ⟨b, ns, e, hb, l, o⟩
  · exact .inl (h.up2 s)
  · exact .inr ⟨b, ns, e, s _ _ hb, l, o⟩
end
end K36
set_option Elab.async false
set_option linter.all false
set_option maxRecDepth 100000
set_option maxHeartbeats 8000000
/-! What is no count, no moment, no list of positions falls at every door that needs one. -/
namespace K36
open PySem PySem.Spec PyProof.Rows L2 KB
def spCountsF (K : PySem.W.Frag) : Sp := fun vs H Q _ => ∃ (a : Addr) (es : List Ev), vs = [.ref a] ∧ LifeAt K H a es ∧ Valid es ∧ es.length ≤ 100 ∧ ∀ H', Same H H' → Q (.bl true) H'
theorem normF {wi : TI} {g : TG} {tb b : TS} {D : Ends} {σ σ' : L2.St} {G : Hp} (e : σ = σ') (h : tSeq (tFor wi g tb) b D σ' G) : tSeq (tFor wi g tb) b D σ G := e ▸ h
theorem seq_for {wi : TI} {g : TG} {tb b : TS} {D : Ends} {σ : L2.St} {G : Hp} (h : tFor wi g tb { D with nx := b D } σ G) : tSeq (tFor wi g tb) b D σ G := h
theorem seq_all {K : PySem.W.Frag} {wi : TI} {g : TG} {te : TE} {vs : List Nat} {t b : TS} {D : Ends} {σ : L2.St} {H : Hp} (h : tLc wi g tYes te vs σ H fun x H1 => rAll K [x] H1 fun y H2 => ∃ c, y = .bl c ∧ if (!c) = true then t { D with nx := b D } σ H2 else b D σ H2) :
    tSeq (tIfS (tNot (tB (tCB (rAll K) (tCons (tLc wi g tYes te vs) tNil)))) t tNext) b D σ H := h
section
variable {P : Program} {w : World} {K : PySem.W.Frag} {mg : Str → Option Value} {base : Heap}
abbrev s_counts_fall : Stmt := top 60
abbrev N_counts_fall : List Str := ["_law_life_here", "_law_odd", "_law_some", "_law_door_here", "_law_rest"]
theorem sc_counts_fall : FnScope N_counts_fall ["_law_life_here"] (defScope s_counts_fall) := ⟨rfl, rfl, rfl, by decide +kernel, rfl, by decide +kernel, by decide +kernel⟩
theorem ok_counts_fall {f : Addr} {fd : FuncData} (F : FnP K "_law_counts_fall" s_counts_fall f fd) (Z : FreeS mg)
    {f_falls : Addr} {d_falls : FuncData} (g_falls : mg "_law_falls" = some (.ref f_falls)) (F_falls : FnP K "_law_falls" s_falls f_falls d_falls) (G_falls : FnOk P w K mg base CX0 12 f_falls d_falls ["_law_door_here", "_law_some", "_law_word", "_law_odd"] (spFalls K)) (W : ExW K mg) :
    FnOk P w K mg base CX0 13 f fd ["_law_life_here"] (spCountsF K) := by
  have b_falls : Binds K d_falls ["_law_door_here", "_law_some", "_law_word", "_law_odd"] [] := F_falls.bindsN fun _ _ _ _ _ _ us hl => match us, hl with | [_, _, _, _], _ => rfl
  refine F.ok sc_counts_fall (fun vs H Q E h => ?_) (fun cdv A outer s H vs Q E hr h => ?_)
  · obtain ⟨a, es, rfl, _⟩ := h
    rfl
  · obtain ⟨a, es, rfl, hL, hV, h100, kq⟩ := h
    have sl : (3000 : Nat) ≤ sizeLine := by decide
    have st : Stab fun G => LifeAt K G a es := fun G G' s h => h.same s
    have hlen : ∀ H, LifeAt K H a es → ∃ xs, H a = some (.lst xs) ∧ xs.length = es.length := fun H ⟨ts, h1, h2, _⟩ => ⟨_, h1, by rw [List.length_map, h2]⟩
    have nd := sc_counts_fall.nd
    refine ⟨_, PSs.nox (pss_cons (ps_for PassesOwn.never rfl (pi_list (pe_lst (pa_cons (pe_non) (pa_cons (pe_un un_neg (pe_int)) (pa_cons (pe_int) (pa_cons (pe_bl) (pa_cons (pe_bl) (pa_cons (pe_str) (pa_cons (pe_lst (pa_cons (pe_int) (pa_nil))) (pa_cons (pe_tup (pa_cons (pe_int) (pa_nil))) (pa_cons (pe_dnewK) (pa_cons (pe_lst (pa_nil)) (pa_nil))))))))))))) (pg_name (i := 1) nd rfl (Or.inr rfl))
        (pss_cons (ps_set (i := 2) nd rfl (Or.inl rfl) (pe_op op_cat (pe_lc (own := [("_law_door_here", 3)]) (g := gName 3) (tt := tYes) (te := tTup (tCons (tVar 3) (tCons (tLst (tCons (tVar 0) (tCons (tVar 1) (tNil)))) (tNil)))) (by rfl) nd (pi_tup (pe_tup (pa_cons (pe_int) (pa_cons (pe_int) (pa_cons (pe_int) (pa_cons (pe_int) (pa_nil)))))))
          (blkOk_by (own := [("_law_door_here", 3)]) (N := N_counts_fall) (sc := defScope s_counts_fall) (by decide +kernel)) (fun _ _ _ _ _ => pg_name (i := 3) nd rfl (Or.inl rfl)) (fun _ _ _ _ _ => pts_nil)
          (fun _ _ _ _ _ => pe_tup (pa_cons (pv 3) (pa_cons (pe_lst (pa_cons (pv 0) (pa_cons (pv 1) (pa_nil)))) (pa_nil))))) (pe_lst (pa_cons (pe_tup (pa_cons (pe_int) (pa_cons (pe_lst (pa_cons (pv 0) (pa_cons (pv 1) (pa_cons (pe_non) (pa_nil))))) (pa_nil)))) (pa_cons (pe_tup (pa_cons (pe_int) (pa_cons (pe_lst (pa_cons (pv 1) (pa_cons (pe_int) (pa_nil)))) (pa_nil)))) (pa_cons (pe_tup (pa_cons (pe_int) (pa_cons (pe_lst (pa_cons (pv 1) (pa_cons (pe_non) (pa_nil)))) (pa_nil)))) (pa_cons (pe_tup (pa_cons (pe_int) (pa_cons (pe_lst (pa_cons (pe_int) (pa_cons (pv 1) (pa_nil)))) (pa_nil)))) (pa_cons (pe_tup (pa_cons (pe_int) (pa_cons (pe_lst (pa_cons (pv 1) (pa_cons (pe_int) (pa_nil)))) (pa_nil)))) (pa_cons (pe_tup (pa_cons (pe_int) (pa_cons (pe_lst (pa_cons (pv 1) (pa_cons (pe_non) (pa_nil)))) (pa_nil)))) (pa_cons (pe_tup (pa_cons (pe_int) (pa_cons (pe_lst (pa_cons (pe_int) (pa_cons (pv 1) (pa_nil)))) (pa_nil)))) (pa_nil)))))))))))
      (pss_one (ps_if (pt_not (pt_val (pe_callB (cr_all rfl) (by rfl) Z.all (by decide +kernel) (pa_cons (pe_lc (own := [("_law_door_here", 3), ("_law_rest", 4)]) (g := gTup K 2 (gCons (gName 3) (gCons (gName 4) (gNil)))) (tt := tYes) (te := tCall (spFalls K) [] E0 (tCons (tVar 3) (tCons (tVar 4) (tCons (tC (.str "count")) (tCons (tVar 1) (tNil)))))) (by rfl) nd (pi_list (pv 2))
          (blkOk_by (own := [("_law_door_here", 3), ("_law_rest", 4)]) (N := N_counts_fall) (sc := defScope s_counts_fall) (by decide +kernel)) (fun _ _ _ _ _ => pg_tup rfl (pgs_cons (pg_name (i := 3) nd rfl (Or.inl rfl)) (pgs_cons (pg_name (i := 4) nd rfl (Or.inl rfl)) (pgs_nil)))) (fun _ _ _ _ _ => pts_nil)
          (fun _ _ _ _ _ => pe_call G_falls (hr.mono (by decide)) rfl g_falls F_falls.kp b_falls .nil pass0 (pa_cons (pv 3) (pa_cons (pv 4) (pa_cons (pe_str) (pa_cons (pv 1) (pa_nil))))))) (pa_nil))))) (pss_one (ps_ret (pe_bl))) (pss_nil)))))
      (pss_cons (ps_if (pt_not (pt_val (pe_callB (cr_all rfl) (by rfl) Z.all (by decide +kernel) (pa_cons (pe_lc (own := [("_law_odd", 1)]) (g := gName 1) (tt := tYes) (te := tCall (spFalls K) [] E0 (tCons (tC (.int 8)) (tCons (tLst (tCons (tVar 0) (tCons (tVar 1) (tNil)))) (tCons (tC (.str "count")) (tCons (tVar 1) (tNil)))))) (by rfl) nd (pi_list (pe_lst (pa_cons (pe_non) (pa_cons (pe_un un_neg (pe_int)) (pa_cons (pe_bl) (pa_cons (pe_bl) (pa_cons (pe_str) (pa_cons (pe_lst (pa_cons (pe_int) (pa_nil))) (pa_cons (pe_tup (pa_cons (pe_int) (pa_nil))) (pa_cons (pe_dnewK) (pa_cons (pe_lst (pa_nil)) (pa_nil))))))))))))
          (blkOk_by (own := [("_law_odd", 1)]) (N := N_counts_fall) (sc := defScope s_counts_fall) (by decide +kernel)) (fun _ _ _ _ _ => pg_name (i := 1) nd rfl (Or.inl rfl)) (fun _ _ _ _ _ => pts_nil)
          (fun _ _ _ _ _ => pe_call G_falls (hr.mono (by decide)) rfl g_falls F_falls.kp b_falls .nil pass0 (pa_cons (pe_int) (pa_cons (pe_lst (pa_cons (pv 0) (pa_cons (pv 1) (pa_nil)))) (pa_cons (pe_str) (pa_cons (pv 1) (pa_nil))))))) (pa_nil))))) (pss_one (ps_ret (pe_bl))) (pss_nil))
      (pss_cons (ps_for PassesOwn.never rfl (pi_list (pe_lst (pa_cons (pe_non) (pa_cons (pe_un un_neg (pe_int)) (pa_cons (pe_op op_add (pe_callB call_len_seq (by rfl) Z.len (by decide +kernel) (pa_cons (pv 0) (pa_nil))) (pe_int)) (pa_cons (pe_op op_pow (pe_int) (pe_int)) (pa_cons (pe_bl) (pa_cons (pe_str) (pa_cons (pe_lst (pa_cons (pe_int) (pa_nil))) (pa_cons (pe_tup (pa_cons (pe_int) (pa_nil))) (pa_cons (pe_dnewK) (pa_cons (pe_lst (pa_nil)) (pa_nil))))))))))))) (pg_name (i := 1) nd rfl (Or.inr rfl))
        (pss_one (ps_if (PW.pt (pw_or (pt_not (pt_val (pe_call G_falls (hr.mono (by decide)) rfl g_falls F_falls.kp b_falls .nil pass0 (pa_cons (pe_int) (pa_cons (pe_lst (pa_cons (pv 0) (pa_cons (pv 1) (pa_nil)))) (pa_cons (pe_str) (pa_cons (pv 1) (pa_nil)))))))) (pw_or1 (pt_not (pt_val (pe_call G_falls (hr.mono (by decide)) rfl g_falls F_falls.kp b_falls .nil pass0 (pa_cons (pe_int) (pa_cons (pe_lst (pa_cons (pv 0) (pa_cons (pv 1) (pa_nil)))) (pa_cons (pe_str) (pa_cons (pv 1) (pa_nil))))))))))) (pss_one (ps_ret (pe_bl))) (pss_nil))))
      (pss_cons (ps_for PassesOwn.never rfl (pi_list (pe_lst (pa_cons (pe_non) (pa_cons (pe_int) (pa_cons (pe_bl) (pa_cons (pe_str) (pa_cons (pe_dnewK) (pa_cons (pe_tup (pa_nil)) (pa_cons (pe_tup (pa_cons (pe_int) (pa_nil))) (pa_cons (pe_lst (pa_cons (pe_callB call_len_seq (by rfl) Z.len (by decide +kernel) (pa_cons (pv 0) (pa_nil))) (pa_nil))) (pa_cons (pe_lst (pa_cons (pe_un un_neg (pe_int)) (pa_nil))) (pa_cons (pe_lst (pa_cons (pe_bl) (pa_nil))) (pa_cons (pe_lst (pa_cons (pe_str) (pa_nil))) (pa_cons (pe_lst (pa_cons (pe_non) (pa_nil))) (pa_cons (pe_lst (pa_cons (pe_int) (pa_cons (pe_int) (pa_nil)))) (pa_cons (pe_lst (pa_cons (pe_int) (pa_cons (pe_int) (pa_nil)))) (pa_cons (pe_lst (pa_cons (pe_lst (pa_cons (pe_int) (pa_nil))) (pa_nil))) (pa_nil)))))))))))))))))) (pg_name (i := 1) nd rfl (Or.inr rfl))
        (pss_one (ps_if (pt_not (pt_val (pe_call G_falls (hr.mono (by decide)) rfl g_falls F_falls.kp b_falls .nil pass0 (pa_cons (pe_int) (pa_cons (pe_lst (pa_cons (pv 0) (pa_cons (pv 1) (pa_nil)))) (pa_cons (pe_str) (pa_cons (pv 1) (pa_nil)))))))) (pss_one (ps_ret (pe_bl))) (pss_nil))))
      (pss_one (ps_ret (pe_bl))))))), ?_⟩
    refine normF (σ' := [some (.ref a), none, none, none, none]) (by rfl) ?_
    refine seq_for (for_odds (K := K) (q := q1) (Pre := fun G => LifeAt K G a es) (ds := [.none, .int (-1), .int 0, .bool true, .bool false, .str "1", .list [.int 1], .tuple [.int 1], .dict [], .list []]) (Iv := fun τ => ∃ v1 v2, τ = [some (.ref a), v1, v2, none, none]) ?l1 hL (by simp only [List.forall_mem_cons]; exact ⟨rfl, rfl, rfl, rfl, rfl, rfl, rfl, rfl, rfl, rfl, fun _ z => nomatch z⟩) (by exact Nat.le_of_ble_eq_true rfl) ⟨none, none, rfl⟩ ?s1 ?d1)
    case l1 => exact LitA.cons st (Lit.non) (LitA.cons st (Lit.neg) (LitA.cons st (Lit.int) (LitA.cons st (Lit.bl) (LitA.cons st (Lit.bl) (LitA.cons st (Lit.str) (LitA.cons st (Lit.lst (LitA.cons st (Lit.int) (LitA.nil))) (LitA.cons st (Lit.tup (LitA.cons st (Lit.int) (LitA.nil))) (LitA.cons st (Lit.dict0) (LitA.cons st (Lit.lst (LitA.nil)) (LitA.nil))))))))))
    case s1 =>
      rintro G0 v τ G s0 sG ⟨v1, v2, rfl⟩ ov
      have hLG := hL.same (s0.trans sG)
      refine ⟨(by show 4 ≤ sizeLine; omega), fun Tp hTp => ⟨Tp, rfl, ⟨_, SqT.of upd_same⟩, fun D1 hD1 => ?_⟩⟩
      have sTp := Same.updf (o := .tup [.int 0, .int 1, .int 2, .int 3]) hTp
      refine lc_doors (K := K) (C := cCnt K) (v := v) (x := .ref a) (y := v) (ks := [0, 1, 2, 3]) (fun k hk => cnt_fails (hLG.same sTp) hV (ov.same sTp).no1 (.inl ⟨by simp at hk; omega, rfl⟩)) (by decide) upd_same hD1 (fun _ => rfl) (fun _ => rfl) (fun u G Q q => ⟨_, rfl, _, rfl, q⟩) (fun G6 ys1 s7 hD1b ly1 hy1 => ?_)
      have hL6 := hLG
      refine (DrA.cons (DrE.mk (k := 9) (xs := [.ref a, v, .non]) (cnt_fails hLG hV ov.no1 (.inr (.inl ⟨rfl, _, rfl⟩))) (fun H Q q => ⟨_, rfl, _, rfl, q⟩) (by exact Nat.le_of_ble_eq_true rfl)) (DrA.cons (DrE.mk (k := 10) (xs := [v, .int 4]) (cnt_fails hLG hV ov.no1 (.inr (.inr ⟨.inl rfl, .inl ⟨_, rfl⟩⟩))) (fun H Q q => ⟨_, rfl, q⟩) (by exact Nat.le_of_ble_eq_true rfl)) (DrA.cons (DrE.mk (k := 10) (xs := [v, .non]) (cnt_fails hLG hV ov.no1 (.inr (.inr ⟨.inl rfl, .inl ⟨_, rfl⟩⟩))) (fun H Q q => ⟨_, rfl, q⟩) (by exact Nat.le_of_ble_eq_true rfl)) (DrA.cons (DrE.mk (k := 10) (xs := [.int 4, v]) (cnt_fails hLG hV ov.no1 (.inr (.inr ⟨.inl rfl, .inr rfl⟩))) (fun H Q q => ⟨_, rfl, q⟩) (by exact Nat.le_of_ble_eq_true rfl)) (DrA.cons (DrE.mk (k := 11) (xs := [v, .int 4]) (cnt_fails hLG hV ov.no1 (.inr (.inr ⟨.inr rfl, .inl ⟨_, rfl⟩⟩))) (fun H Q q => ⟨_, rfl, q⟩) (by exact Nat.le_of_ble_eq_true rfl)) (DrA.cons (DrE.mk (k := 11) (xs := [v, .non]) (cnt_fails hLG hV ov.no1 (.inr (.inr ⟨.inr rfl, .inl ⟨_, rfl⟩⟩))) (fun H Q q => ⟨_, rfl, q⟩) (by exact Nat.le_of_ble_eq_true rfl)) (DrA.cons (DrE.mk (k := 11) (xs := [.int 4, v]) (cnt_fails hLG hV ov.no1 (.inr (.inr ⟨.inr rfl, .inr rfl⟩))) (fun H Q q => ⟨_, rfl, q⟩) (by exact Nat.le_of_ble_eq_true rfl)) (DrA.nil))))))) : DrA K (cCnt K) v _ G _ _) _ _ (sTp.trans s7) fun ts H2 s8 lt ht => ⟨by omega, fun B hB => ?_⟩
      have sB := Same.updf (o := .lst ts) hB
      have eB : upd H2 B (.lst ts) B = some (.lst ts) := upd_same
      generalize upd H2 B (.lst ts) = H3 at sB eB ⊢
      refine ⟨D1, B, ys1, ts, rfl, rfl, (s8.trans sB) _ _ hD1b, eB, by rw [ly1, lt]; show 4 + 7 ≤ sizeLine; omega, fun S hS => ?_⟩
      have hy : ∀ t ∈ ys1 ++ ts, Dr K (cCnt K) v H3 t := fun t h => by
        rcases List.mem_append.mp h with h | h
        · exact Dr.same (s8.trans sB) (hy1 t h)
        · exact Dr.same sB (ht t h)
      have lts : (ys1 ++ ts).length ≤ 100 := by rw [List.length_append, ly1, lt]; show 4 + 7 ≤ 100; omega
      have sS := Same.updf (o := .lst (ys1 ++ ts)) hS
      have eS : upd H3 S (.lst (ys1 ++ ts)) S = some (.lst (ys1 ++ ts)) := upd_same
      generalize upd H3 S (.lst (ys1 ++ ts)) = H4 at sS eS ⊢
      generalize ys1 ++ ts = tt at hy lts eS
      have sGS : Same G H4 := (sTp.trans s7).trans (s8.trans (sB.trans sS))
      have ov9 := ov.same sGS
      refine ⟨_, rfl, S, rfl, ⟨_, SqL.of eS⟩, fun D3 hD3 => ?_⟩
      refine lc_sel (n := tt.length) (walk_list (K := K) (a := S) (xs := tt)) (fun _ => some (.bl true)) (by omega) hD3 (fun G s => SqL.of (s _ _ eS)) ?_ ?_
      · rintro i t X X' Qy Qn hi sX ⟨rfl, hx⟩ ky kn
        obtain ⟨T, k, L, zs, rfl, h1, h2, h3, h4⟩ := Dr.same (sS.trans sX) (hy t (List.mem_of_getElem? hx))
        refine ⟨T, [_, _], rfl, .inl (.inl h1), rfl, _, [_], rfl, _, [], rfl, rfl, ?_⟩
        obtain ⟨d, td, od⟩ := ov9.same sX
        exact ⟨rfl, _, rfl, _, rfl, _, rfl, k, L, 1, zs, v, d, rfl, h2, by decide, h3, td, (ov9.same sX).very (fun d h => and_left h), h4, fun X2 s => ky _ _ s rfl⟩
      · intro X sX hR
        obtain ⟨bs, hB, hb⟩ := all_bits (K := K) hR
        refine ⟨D3, bs, rfl, hB, ?_⟩
        rw [hb]
        refine ⟨true, rfl, itB (c := false) rfl (fun z => by cases z) (fun _ => ?_)⟩
        exact ⟨sG.trans (sGS.trans sX), _, _, rfl⟩
    case d1 =>
      rintro τ G sG ⟨v1, v2, rfl⟩
      have hLG := hL.same sG
      dsimp only
      refine seq_all (K := K) ?_
      refine lc_odds (K := K) (q := q0) (Pre := fun G => LifeAt K G a es) (ds := [.none, .int (-1), .bool true, .bool false, .str "1", .list [.int 1], .tuple [.int 1], .dict [], .list []]) ?l2 hLG (by simp only [List.forall_mem_cons]; exact ⟨rfl, rfl, rfl, rfl, rfl, rfl, rfl, rfl, rfl, fun _ z => nomatch z⟩) (by exact Nat.le_of_ble_eq_true rfl) ?s2 (fun v τ G F1 F2 k h => k _ _ h) ?d2
      case l2 => exact LitA.cons st (Lit.non) (LitA.cons st (Lit.neg) (LitA.cons st (Lit.bl) (LitA.cons st (Lit.bl) (LitA.cons st (Lit.str) (LitA.cons st (Lit.lst (LitA.cons st (Lit.int) (LitA.nil))) (LitA.cons st (Lit.tup (LitA.cons st (Lit.int) (LitA.nil))) (LitA.cons st (Lit.dict0) (LitA.cons st (Lit.lst (LitA.nil)) (LitA.nil)))))))))
      case s2 =>
        rintro v G1 Qy s1 ov k
        refine ⟨rfl, _, rfl, _, rfl, (by show 2 ≤ sizeLine; omega), fun L hL2 => ?_⟩
        have sL := Same.updf (o := .lst [.ref a, v]) hL2
        obtain ⟨d, td, od⟩ := ov.same sL
        exact ⟨_, rfl, 8, L, 1, _, v, d, rfl, by decide, by decide, upd_same, td, (ov.same sL).very (fun d h => and_left h), cnt8_fails (hLG.same (s1.trans sL)) hV (ov.same sL).cnt, fun X s => k _ (sL.trans s)⟩
      case d2 =>
        intro D3 G3 n s3 hR
        obtain ⟨bs, hB, hb⟩ := all_bits (K := K) hR
        refine ⟨D3, bs, rfl, hB, ?_⟩
        rw [hb]
        refine ⟨true, rfl, itB (c := false) rfl (fun z => by cases z) (fun _ => ?_)⟩
        have sH := sG.trans s3
        refine normF (σ' := [some (.ref a), v1, v2, none, none]) (by rfl) ?_
        refine seq_for (for_odds (K := K) (q := qM es.length) (Pre := fun G => LifeAt K G a es) (ds := [.none, .int (-1), .int ((es.length : Int) + 1), .int 100000000000000000000, .bool true, .str "0", .list [.int 0], .tuple [.int 0], .dict [], .list []]) (Iv := fun τ => ∃ v1 v2, τ = [some (.ref a), v1, v2, none, none]) ?l3 (hL.same sH) (by simp only [List.forall_mem_cons]; exact ⟨rfl, rfl, (by show (true && (decide (_ < _) || decide (_ < _))) = true; rw [decide_eq_true (show (es.length : Int) < (es.length : Int) + 1 by omega), Bool.or_true]; rfl), (by show (true && (decide (_ < _) || decide (_ < _))) = true; rw [decide_eq_true (show (es.length : Int) < 100000000000000000000 by omega), Bool.or_true]; rfl), rfl, rfl, rfl, rfl, rfl, rfl, fun _ z => nomatch z⟩) (by exact Nat.le_of_ble_eq_true rfl) ⟨_, _, rfl⟩ ?s3 ?d3)
        case l3 => exact LitA.cons st (Lit.non) (LitA.cons st (Lit.neg) (LitA.cons st (Lit.len1 (m := es.length) (by rfl) hlen) (LitA.cons st (Lit.pow) (LitA.cons st (Lit.bl) (LitA.cons st (Lit.str) (LitA.cons st (Lit.lst (LitA.cons st (Lit.int) (LitA.nil))) (LitA.cons st (Lit.tup (LitA.cons st (Lit.int) (LitA.nil))) (LitA.cons st (Lit.dict0) (LitA.cons st (Lit.lst (LitA.nil)) (LitA.nil))))))))))
        case s3 =>
          rintro G0 v τ G s0 s0b ⟨v1, v2, rfl⟩ ov
          have sG := s0.trans s0b
          have hLG := (hL.same sH).same sG
          refine ⟨_, rfl, _, rfl, (by show 2 ≤ sizeLine; omega), fun L hL2 => ?_⟩
          have sL := Same.updf (o := .lst [.ref a, v]) hL2
          obtain ⟨d, td, od⟩ := ov.same sL
          refine ⟨_, rfl, 4, L, 2, _, v, d, rfl, by decide, by decide, upd_same, td, (ov.same sL).very (fun d h => and_left h), mom_fails (hLG.same sL) hV (ov.same sL).noM (.inl rfl), fun X s => ⟨true, rfl, itB (c := false) rfl (fun z => by cases z) (fun _ => ?_)⟩⟩
          refine ⟨_, rfl, _, rfl, (by show 2 ≤ sizeLine; omega), fun L2 hL3 => ?_⟩
          have sL2 := (sL.trans s).trans (Same.updf (o := .lst [.ref a, v]) hL3)
          obtain ⟨d, td, od⟩ := ov.same sL2
          refine ⟨_, rfl, 5, L2, 2, _, v, d, rfl, by decide, by decide, upd_same, td, (ov.same sL2).very (fun d h => and_left h), mom_fails (hLG.same sL2) hV (ov.same sL2).noM (.inr rfl), fun X2 s2 => ⟨true, rfl, itB (c := false) rfl (fun z => by cases z) (fun _ => ?_)⟩⟩
          exact ⟨s0b.trans (sL2.trans s2), _, _, rfl⟩
        case d3 =>
          rintro τ G s0 ⟨v1, v2, rfl⟩
          have sH2 := sH.trans s0
          dsimp only
          refine normF (σ' := [some (.ref a), v1, v2, none, none]) (by rfl) ?_
          refine seq_for (for_odds (K := K) (q := qP es.length) (Pre := fun G => LifeAt K G a es) (ds := [.none, .int 5, .bool true, .str "", .dict [], .tuple [], .tuple [.int 0], .list [.int (es.length : Int)], .list [.int (-1)], .list [.bool true], .list [.str "0"], .list [.none], .list [.int 0, .int 0], .list [.int 1, .int 0], .list [.list [.int 0]]]) (Iv := fun τ => ∃ v1 v2, τ = [some (.ref a), v1, v2, none, none]) ?l4 (hL.same sH2) (by simp only [List.forall_mem_cons]; exact ⟨rfl, rfl, rfl, rfl, rfl, rfl, rfl, (by show (true && ((!decide ((es.length : Int) ≥ 0) || false) || !(ascB _ && (decide (_ < _) && true)))) = true; rw [decide_eq_false (show ¬ (es.length : Int).toNat < es.length by omega), Bool.false_and, Bool.and_false, Bool.not_false, Bool.or_true]; rfl), rfl, rfl, rfl, rfl, rfl, rfl, rfl, fun _ z => nomatch z⟩) (by exact Nat.le_of_ble_eq_true rfl) ⟨_, _, rfl⟩ ?s4 ?d4)
          case l4 => exact LitA.cons st (Lit.non) (LitA.cons st (Lit.int) (LitA.cons st (Lit.bl) (LitA.cons st (Lit.str) (LitA.cons st (Lit.dict0) (LitA.cons st (Lit.tup (LitA.nil)) (LitA.cons st (Lit.tup (LitA.cons st (Lit.int) (LitA.nil))) (LitA.cons st (Lit.lst (LitA.cons st (Lit.len (m := es.length) (by rfl) hlen) (LitA.nil))) (LitA.cons st (Lit.lst (LitA.cons st (Lit.neg) (LitA.nil))) (LitA.cons st (Lit.lst (LitA.cons st (Lit.bl) (LitA.nil))) (LitA.cons st (Lit.lst (LitA.cons st (Lit.str) (LitA.nil))) (LitA.cons st (Lit.lst (LitA.cons st (Lit.non) (LitA.nil))) (LitA.cons st (Lit.lst (LitA.cons st (Lit.int) (LitA.cons st (Lit.int) (LitA.nil)))) (LitA.cons st (Lit.lst (LitA.cons st (Lit.int) (LitA.cons st (Lit.int) (LitA.nil)))) (LitA.cons st (Lit.lst (LitA.cons st (Lit.lst (LitA.cons st (Lit.int) (LitA.nil))) (LitA.nil))) (LitA.nil)))))))))))))))
          case s4 =>
            rintro G0 v τ G s0 s0b ⟨v1, v2, rfl⟩ ov
            have sG := s0.trans s0b
            have hLG := (hL.same sH2).same sG
            refine ⟨_, rfl, _, rfl, (by show 2 ≤ sizeLine; omega), fun L hL2 => ?_⟩
            have sL := Same.updf (o := .lst [.ref a, v]) hL2
            obtain ⟨d, td, od⟩ := ov.same sL
            refine ⟨_, rfl, 7, L, 2, _, v, d, rfl, by decide, by decide, upd_same, td, (ov.same sL).very (fun d h => and_left h), pos_fails (hLG.same sL) hV (ov.same sL).noP, fun X s => ⟨true, rfl, itB (c := false) rfl (fun z => by cases z) (fun _ => ?_)⟩⟩
            exact ⟨s0b.trans (sL.trans s), _, _, rfl⟩
          case d4 =>
            rintro τ G s0 ⟨v1, v2, rfl⟩
            exact kq _ (sH2.trans s0)
end
end K36
set_option Elab.async false
set_option linter.all false
set_option maxRecDepth 100000
set_option maxHeartbeats 8000000
/-! What a door tells when nothing is wrong. -/
namespace K36
open PySem PySem.Spec PyProof.Rows L2 KB
/-- the only way of a def that may raise -/
theorem rightWay {P : Program} {w : World} {K : PySem.W.Frag} {mg : Str → Option Value} {base : Heap} {k : Nat} {f : Addr} {fd : FuncData} {ps : List Str} {sp sp' : Sp} (F : FnOk P w K mg base (L2.CX P w) k f fd ps sp) (h : ∀ vs H Q E, sp' vs H Q E → sp vs H Q fun _ _ _ => False) : FnOk P w K mg base CX0 k f fd ps sp' :=
  ⟨fun vs H Q E q => F.len vs H Q _ (h _ _ _ _ q), fun A outer s H args us vs Q E hr he hb hv hs => codeAny_mono (F.run A outer s H args us vs Q _ hr he hb hv (h _ _ _ _ hs)) fun r s' q => by
    cases r with
    | error e =>
      obtain ⟨_, _, _, _, _, _, _, _, _, _, _, _, z⟩ := q
      exact z.elim
    | ok fl => cases fl <;> exact q⟩
def Tells (K : PySem.W.Frag) (k : Nat) (xs : List V) (d : PyData) (H : Hp) : Prop := ∀ H' (Q : VK) (E : XK), Same H H' → (∀ v G, Same H' G → TD K G 9 v d → Q v G) → doorS K k xs H' Q E
theorem Tells.same {K : PySem.W.Frag} {k : Nat} {xs : List V} {d : PyData} {H H' : Hp} (s : Same H H') (h : Tells K k xs d H) : Tells K k xs d H' := fun G Q E s2 q => h G Q E (s.trans s2) q
def spDoorR (K : PySem.W.Frag) : Sp := fun vs H Q _ => ∃ (k : Nat) (L : Addr) (xs : List V) (d : PyData), vs = [.int (k : Int), .ref L] ∧ k < 12 ∧ H L = some (.lst xs) ∧ Tells K k xs d H ∧ ∀ v H', Same H H' → TD K H' 9 v d → Q v H'
theorem door_right {K : PySem.W.Frag} {vs : List V} {H : Hp} {Q : VK} {E E' : XK} (h : spDoorR K vs H Q E') : spDoor K vs H Q E := by
  obtain ⟨k, L, xs, d, e, hk, hL, ht, q⟩ := h
  exact ⟨k, L, xs, e, hk, hL, fun H' s => ht H' Q E s fun v G sG td => q v G (s.trans sG) td⟩
def spApartR (K : PySem.W.Frag) : Sp := fun vs H Q _ => ∃ (a : Addr) (x : V) (es : List Ev) (p n : Nat) (d : PyData), vs = [.ref a, .int (p : Int), x] ∧ LifeAt K H a es ∧ Valid es ∧ 1 ≤ p ∧ TD K H n x d ∧ ∀ H', Same H H' → Q (.bl (ownB es p d)) H'
def spTwoR (K : PySem.W.Frag) (G : Int → Int → Int) : Sp := fun vs H Q _ => ∃ i j : Int, vs = [.int i, .int j] ∧ 1 ≤ i ∧ 1 ≤ j ∧ i ≤ 100000 ∧ j ≤ 100000 ∧ ∀ H', Same H H' → Q (.int (G i j)) H'
theorem ints_td {K : PySem.W.Frag} {G : Hp} {q : Addr} {m : List Int} (n : Nat) (h : G q = some (.lst (m.map V.int))) (l : m.length ≤ 1000) : TD K G (n + 1) (.ref q) (.list (m.map PyData.int)) := by
  refine TD.lst h (by rw [List.length_map, List.length_map]) (by rw [List.length_map]; exact l) fun i u e e1 e2 => ?_
  rw [List.getElem?_map] at e1 e2
  cases hm : m[i]? with
  | none => rw [hm] at e1; cases e1
  | some z =>
    rw [hm] at e1 e2
    cases e1
    cases e2
    exact TD.flat (.int _)
theorem nums_ints (l : List Nat) : numsV l = (l.map fun x : Nat => (x : Int)).map V.int := by
  unfold numsV
  rw [List.map_map]
  rfl
theorem nums_td {K : PySem.W.Frag} {G : Hp} {q : Addr} {m : List Nat} (n : Nat) (h : G q = some (.lst (numsV m))) (l : m.length ≤ 1000) : TD K G (n + 1) (.ref q) (.list ((m.map fun x : Nat => (x : Int)).map PyData.int)) :=
  ints_td n (by rw [← nums_ints]; exact h) (by rw [List.length_map]; exact l)
def optD : Option Nat → PyData
  | none => .none
  | some i => .int (i : Int)
theorem wr_len (es : List Ev) (P : List Nat) : ∀ k, k ≤ es.length → (wr es P k).length ≤ 2 * k
  | 0, _ => Nat.le_refl _
  | k + 1, hk => by
    have ih := wr_len es P k (by omega)
    show (wr es P k ++ (if P.contains k then [Ev.root] else []) ++ _).length ≤ _
    rw [List.length_append, List.length_append]
    have h1 : (if P.contains k then [Ev.root] else []).length ≤ 1 := by split <;> simp
    cases es[k]? with
    | none =>
      show _ + _ + ([] : List Ev).length ≤ _
      rw [List.length_nil]
      omega
    | some e =>
      show _ + _ + [e].length ≤ _
      rw [List.length_singleton]
      omega
theorem least_uniq {es : List Ev} {m m' : Int} (h : IsLeast es m) (h' : IsLeast es m') : m = m' := by
  by_cases e : lp es = []
  · rw [h.no e, h'.no e]
  · obtain ⟨i, i1, i2, i3⟩ := h.ex e
    obtain ⟨j, j1, j2, j3⟩ := h'.ex e
    have a := h'.le i i1 i2
    have b := h.le j j1 j2
    omega
theorem few_uniq {es : List Ev} {r v v' : Nat} (h : IsFew es r v) (h' : IsFew es r v') : v = v' := by
  obtain ⟨a1, _, a3, a4⟩ := h
  obtain ⟨b1, _, b3, b4⟩ := h'
  rcases Nat.lt_trichotomy v v' with l | l | l
  · rw [b4 v a1 l] at a3; cases a3
  · exact l
  · rw [a4 v' b1 l] at b3; cases b3
section
variable {K : PySem.W.Frag} {H : Hp} {a : Addr} {es : List Ev}
theorem tells_lp (hL : LifeAt K H a es) (hV : Valid es) (h200 : es.length ≤ 90) {p : Nat} (hp : 1 ≤ p) {k : Nat} (hk : k = 0 ∨ k = 1 ∨ k = 2 ∨ k = 8) : ∃ d, Tells K k [.ref a, .int (p : Int)] d H := by
  rcases hk with rfl | rfl | rfl | rfl
  · exact ⟨.bool (full es p).isNone, fun H' Q E s q => ⟨_, _, _, rfl, .inr (.inr ⟨a, es, p, rfl, hL.same s, hV, hp, fun G sG => q _ _ sG (TD.flat (.bl _))⟩)⟩⟩
  · refine ⟨optD (full es p), fun H' Q E s q => ⟨_, _, _, rfl, .inr (.inr ⟨a, es, p, rfl, hL.same s, hV, hp, fun G sG => q _ _ sG ?_⟩)⟩⟩
    cases full es p with
    | none => exact TD.flat .non
    | some i => exact TD.flat (.int _)
  · cases hc : cs es p with
    | none => exact ⟨.none, fun H' Q E s q => ⟨_, _, _, rfl, .inr (.inr ⟨a, es, p, rfl, hL.same s, hV, hp, fun _ G sG => q _ _ sG (TD.flat .non), fun L e => by rw [hc] at e; cases e⟩)⟩⟩
    | some L =>
      refine ⟨.list (((L.map Span.l).map fun x : Nat => (x : Int)).map PyData.int), fun H' Q E s q => ⟨_, _, _, rfl, .inr (.inr ⟨a, es, p, rfl, hL.same s, hV, hp, (fun e => by rw [hc] at e; cases e), fun L' e x G sG _ hx => ?_⟩)⟩⟩
      rw [hc] at e
      cases e
      exact q _ _ sG (nums_td (m := L.map Span.l) 8 hx (by rw [List.length_map]; have := cs_len hc; omega))
  · by_cases he : ∃ v, IsFew es p v
    · obtain ⟨v, hv⟩ := he
      refine ⟨.int (v : Int), fun H' Q E s q => ⟨_, _, _, rfl, .inr (.inr ⟨a, es, p, rfl, hL.same s, hV, fun v' G sG h' => ?_⟩)⟩⟩
      rw [few_uniq h' hv]
      exact q _ _ sG (TD.flat (.int _))
    · exact ⟨.none, fun H' Q E s q => ⟨_, _, _, rfl, .inr (.inr ⟨a, es, p, rfl, hL.same s, hV, fun v' G sG h' => absurd ⟨v', h'⟩ he⟩)⟩⟩
theorem tells_lines (hL : LifeAt K H a es) (hV : Valid es) (h200 : es.length ≤ 90) {p : Nat} (hp : 1 ≤ p) {L : List Span} (hc : cs es p = some L) : ∃ d, Tells K 3 [.ref a, .int (p : Int)] d H := by
  refine ⟨.list (((L.map Span.n).map fun x : Nat => (x : Int)).map PyData.int), fun H' Q E s q => ⟨_, _, _, rfl, .inr (.inr ⟨a, es, p, rfl, hL.same s, hV, hp, (fun e => by rw [hc] at e; cases e), fun L' e x G sG _ hx => ?_⟩)⟩⟩
  rw [hc] at e
  cases e
  exact q _ _ sG (nums_td (m := L.map Span.n) 8 hx (by rw [List.length_map]; have := cs_len hc; omega))
theorem tells_mo (hL : LifeAt K H a es) (hV : Valid es) (h200 : es.length ≤ 90) {m : Nat} (hm : m ≤ es.length) {k : Nat} (hk : k = 4 ∨ k = 5) : ∃ d, Tells K k [.ref a, .int (m : Int)] d H := by
  rcases hk with rfl | rfl
  · exact ⟨.int ((stAt es m).g : Int), fun H' Q E s q => ⟨_, _, _, rfl, .inr (.inr ⟨a, es, m, rfl, hL.same s, hV, hm, fun G sG => q _ _ sG (TD.flat (.int _))⟩)⟩⟩
  · obtain ⟨is, hi, li⟩ : ∃ is : List Int, stillL es m = is.map V.int ∧ is.length ≤ 1000 := by
      have od := hV.ord m hm
      refine ⟨(List.range ((((stAt es m).w : Int) + 1) - (((stAt es m).g : Int) + 1)).toNat).map fun i : Nat => (((stAt es m).g : Int) + 1) + (i : Int), ?_, ?_⟩
      · unfold stillL rgV
        rw [List.map_map]
        rfl
      · rw [List.length_map, List.length_range]
        omega
    exact ⟨.list (is.map PyData.int), fun H' Q E s q => ⟨_, _, _, rfl, .inr (.inr ⟨a, es, m, rfl, hL.same s, hV, hm, fun x G sG _ hx => q _ _ sG (ints_td 8 (by rw [← hi]; exact hx) li)⟩)⟩⟩
theorem tells_least (hL : LifeAt K H a es) (hV : Valid es) : ∃ d, Tells K 6 [.ref a] d H := by
  by_cases he : ∃ m, IsLeast es m
  · obtain ⟨m, hm⟩ := he
    refine ⟨.int m, fun H' Q E s q => ⟨_, _, rfl, .inr ⟨a, es, rfl, hL.same s, hV, fun m' G sG h' => ?_⟩⟩⟩
    rw [least_uniq h' hm]
    exact q _ _ sG (TD.flat (.int _))
  · exact ⟨.none, fun H' Q E s q => ⟨_, _, rfl, .inr ⟨a, es, rfl, hL.same s, hV, fun m' G sG h' => absurd ⟨m', h'⟩ he⟩⟩⟩
theorem tells_with (hL : LifeAt K H a es) (hV : Valid es) (h90 : es.length ≤ 90) {b : Addr} {R : List Nat} (hb : H b = some (.lst (numsV R))) (lR : R.length ≤ 200) (hA : Asc es.length R) : ∃ d, Tells K 7 [.ref a, .ref b] d H := by
  refine ⟨.list ((wr es R es.length).map Ev.d), fun H' Q E s q => ⟨_, _, _, rfl, .inr (.inr ⟨a, b, es, R, rfl, hL.same s, hV, h90, s _ _ hb, lR, hA, fun x G sG _ hx => q _ _ sG (hx.td 7 ?_)⟩)⟩⟩
  have := wr_len es R es.length (Nat.le_refl _)
  omega
theorem tells_apart (hL : LifeAt K H a es) (hV : Valid es) {p n : Nat} (hp : 1 ≤ p) {x : V} {d : PyData} (td : TD K H n x d) : ∃ d, Tells K 9 [.ref a, .int (p : Int), x] d H :=
  ⟨.bool (ownB es p d), fun H' Q E s q => ⟨_, _, _, _, rfl, .inr (.inr ⟨a, x, es, p, n, d, rfl, hL.same s, hV, hp, td.same s, fun G sG => q _ _ sG (TD.flat (.bl _))⟩)⟩⟩
theorem tells_two {i j : Int} (h1 : 1 ≤ i) (h2 : 1 ≤ j) (h3 : i ≤ 100000) (h4 : j ≤ 100000) {k : Nat} (hk : k = 10 ∨ k = 11) : ∃ d, Tells K k [.int i, .int j] d H := by
  rcases hk with rfl | rfl
  · exact ⟨.int (61 * i + 20 * j), fun H' Q E s q => ⟨_, _, _, rfl, .inr (.inr ⟨i, j, rfl, h1, h2, h3, h4, fun G sG => q _ _ sG (TD.flat (.int _))⟩)⟩⟩
  · exact ⟨.int (max 0 ((i - 61 * j) / 20)), fun H' Q E s q => ⟨_, _, _, rfl, .inr (.inr ⟨i, j, rfl, h1, h2, h3, h4, fun G sG => q _ _ sG (TD.flat (.int _))⟩)⟩⟩
end
end K36
set_option Elab.async false
set_option linter.all false
set_option maxRecDepth 100000
set_option maxHeartbeats 4000000
/-! list(range(a, b, c)). -/
namespace KB
open PySem PySem.Spec PyProof.Rows L2
/-- the items of a range with a step -/
def rgC (i c : Int) (n : Nat) : List V := (List.range n).map fun k : Nat => V.int (i + (k : Int) * c)
def tLstRg3 (ta : TA) : TE := fun σ H Q => ta σ H fun vs H1 => ∃ (i j c : Int) (n : Nat), vs = [.int i, .int j, .int c] ∧ c ≠ 0 ∧ Builtin.divisionGoesByPylong (j - i) c = false ∧ Builtin.Range.small i j c = true ∧ Builtin.Range.rangeSize i j c = (n : Int) ∧ n ≤ 2 ^ 24 ∧ ∀ q, H1 q = none → Q (.ref q) (upd H1 q (.lst (rgC i c n)))
theorem vals_rgC {i c : Int} {n : Nat} {acc : Array Value} (h : ItemsOf (fun k v => ∃ t, v = Value.int (i + (k : Int) * c) t) acc n) : Vals (rgC i c n) acc.toList := by
  obtain ⟨h1, h2⟩ := h
  have g : ∀ (xs : List Value) (m : Nat), (∀ (j : Nat) (v : Value), xs[j]? = some v → ∃ t, v = Value.int (i + ((m + j : Nat) : Int) * c) t) → Vals ((List.range' m xs.length).map fun k : Nat => V.int (i + (k : Int) * c)) xs := fun xs => by
    induction xs with
    | nil => exact fun _ _ => .nil
    | cons v xs ih =>
      intro m h
      obtain ⟨t, e⟩ := h 0 v rfl
      refine .cons ⟨t, e⟩ (ih (m + 1) fun j v e => ?_)
      obtain ⟨t, e⟩ := h (j + 1) v e
      exact ⟨t, by rw [e, show m + (j + 1) = m + 1 + j by omega]⟩
  have := g acc.toList 0 fun j v e => by
    obtain ⟨t, e⟩ := h2 j v (by rw [← Array.getElem?_toList]; exact e)
    exact ⟨t, by rw [e, Nat.zero_add]⟩
  unfold rgC
  rw [List.range_eq_range', ← h1, ← Array.length_toList]
  exact this
section
variable {X : Cx} {a b c : Expr} {ta : TA} {p p2 pos pos2 : Pos}
theorem pe_listRg3 (hc : X.calm = true) (hg : Gl X "list") (hm : X.mg "list" = none) (hg2 : Gl X "range") (hm2 : X.mg "range" = none) (ha : PA X [a, b, c] ta)
    (hs : starEach [a, b, c] X.env = (false, eval a X.env) :: starEach [b, c] X.env := by rfl) (hpl : (backTo pos2 (starEach [b, c] X.env)).any (fun x => x.fst) = false := by rfl)
    (na : starEach [Expr.Call (.Name "range" p2) [a, b, c] [] pos2] X.env = (false, eval (Expr.Call (.Name "range" p2) [a, b, c] [] pos2) X.env) :: starEach [] X.env := by rfl) :
    PE X (.Call (.Name "list" p) [.Call (.Name "range" p2) [a, b, c] [] pos2] [] pos) (tLstRg3 ta) := by
  refine ⟨fun pins s σ H Q I h => ?_⟩
  have inner : wpAny (model X.prog X.w) X.A (eval (Expr.Call (.Name "range" p2) [a, b, c] [] pos2) X.env) (fun x s1 => ∃ (r : Addr) (i j k : Int) (n : Nat) (t u v : Tok) (H1 : Hp), x = Value.ref r ∧ IsRange s1.heap r i j k t u v ∧ L2.Inv X pins σ H1 s1 ∧ Builtin.Range.small i j k = true ∧ Builtin.Range.rangeSize i j k = (n : Int) ∧ n ≤ 2 ^ 24 ∧ ∀ q, H1 q = none → Q (.ref q) (upd H1 q (.lst (rgC i k n)))) X.xe s := by
    refine Call_ (ld_blt I hg2 hm2 boot_range (PyProof.Rows.callWith_type1 (thn (ha.run pos2 pins s σ H _ I h) fun us s1 hx => ?_) hs hpl) (by decide) (by decide)) rfl
    obtain ⟨vs, H1, I1, r1, i, j, k, n, rfl, k0, kd, ks, kn, n24, q⟩ := hx
    obtain ⟨u1, u2, u3, rfl, r2, r3, r4⟩ : ∃ u1 u2 u3, us = [u1, u2, u3] ∧ RelV (.int i) u1 ∧ RelV (.int j) u2 ∧ RelV (.int k) u3 := by
      cases r1 with
      | cons a r => cases r with
        | cons b r => cases r with
          | cons c r => cases r with
            | nil => exact ⟨_, _, _, rfl, a, b, c⟩
    obtain ⟨t, rfl⟩ := r2
    obtain ⟨u, rfl⟩ := r3
    obtain ⟨v, rfl⟩ := r4
    refine call_range_3 k0 ?_ (.inl kd)
    exact ⟨_, i, j, k, n, t, u, v, H1, rfl, IsRange.new s1.heap i j k t u v, I1.kept fun b o e => Heap.get?_push_of_some _ e, ks, kn, n24, q⟩
  refine Call_ (ld_blt I hg hm boot_list (PyProof.Rows.callWith_type1 (args_cons (thn inner fun x s1 hx => ?_) na) na rfl) (by decide) (by decide)) rfl
  obtain ⟨r, i, j, k, n, t, u, v, H1, rfl, hr, I1, ks, kn, n24, q⟩ := hx
  refine args_nil ?_
  refine call_list_range (I1.ok.hd hc) hr ks kn n24 fun h' tk acc c' hk e' hi => ?_
  refine ⟨.ref s1.heap.objs.size, upd H1 s1.heap.objs.size (.lst (rgC i k n)), I1.laid hk (Nat.le_refl _) ⟨?_, acc.toList, c', vals_rgC hi, ?_⟩, rfl, q _ (I1.hok.fresh (Nat.le_refl _))⟩
  · unfold rgC
    rw [List.length_map, List.length_range]
    exact Nat.le_trans n24 (by decide)
  · rw [Array.toArray_toList]
    exact e'
end
end KB
set_option Elab.async false
set_option linter.all false
set_option maxRecDepth 100000
set_option maxHeartbeats 8000000
/-! The law. -/
namespace K36
open PySem PySem.Spec PyProof.Rows L2 KB
def DoorT (K : PySem.W.Frag) (H : Hp) (k : Nat) (v : V) : Prop := ∃ L xs d, v = .ref L ∧ H L = some (.lst xs) ∧ Tells K k xs d H
theorem DoorT.same {K : PySem.W.Frag} {H H' : Hp} {k : Nat} {v : V} (s : Same H H') : DoorT K H k v → DoorT K H' k v := fun ⟨L, xs, d, e, h, t⟩ => ⟨L, xs, d, e, s _ _ h, t.same s⟩
def TlE (K : PySem.W.Frag) (σ : L2.St) (G0 : Hp) (k : Nat) (te : TE) : Prop := ∀ H (Q : VK), Same G0 H → (∀ v H', Same H H' → DoorT K H' k v → Q v H') → te σ H Q
def TlA (K : PySem.W.Frag) (σ : L2.St) (G0 : Hp) (k : Nat) (ta : TA) (n : Nat) : Prop := ∀ H (Q : List V → Hp → Prop), Same G0 H → (∀ vs H', Same H H' → vs.length = n → (∀ i v, vs[i]? = some v → DoorT K H' (k + i) v) → Q vs H') → ta σ H Q
theorem TlE.mk {K : PySem.W.Frag} {σ : L2.St} {G0 : Hp} {k : Nat} {xs : List V} {ta : TA} (hd : ∃ d, Tells K k xs d G0) (hta : ∀ H (Q : List V → Hp → Prop), Q xs H → ta σ H Q) (lx : xs.length ≤ 100) : TlE K σ G0 k (tLst ta) := fun H Q s kq => by
  have sl : (3000 : Nat) ≤ sizeLine := by decide
  obtain ⟨d, hd⟩ := hd
  refine hta _ _ ⟨by omega, fun L hL => ?_⟩
  have sL := Same.updf (o := .lst xs) hL
  exact kq _ _ sL ⟨L, xs, d, rfl, upd_same, hd.same (s.trans sL)⟩
theorem TlA.nil {K : PySem.W.Frag} {σ : L2.St} {G0 : Hp} {k : Nat} : TlA K σ G0 k tNil 0 := fun H Q s q => q [] H (Same.refl _) rfl fun i v h => by simp at h
theorem TlA.cons {K : PySem.W.Frag} {σ : L2.St} {G0 : Hp} {k n : Nat} {te : TE} {ta : TA} (h : TlE K σ G0 k te) (t : TlA K σ G0 (k + 1) ta n) : TlA K σ G0 k (tCons te ta) (n + 1) := fun H Q s q => by
  refine h H _ s fun v H1 s1 d1 => t H1 _ (s.trans s1) fun vs H2 s2 l d2 => ?_
  refine q _ H2 (s1.trans s2) (by rw [List.length_cons, l]) fun i x hx => ?_
  cases i with
  | zero => cases hx; exact d1.same s2
  | succ i =>
    have := d2 i x hx
    rwa [Nat.add_right_comm] at this
theorem seq_tells {K : PySem.W.Frag} {ta : TA} {i n : Nat} {b : TS} {D : Ends} {σ σ' : L2.St} {H G0 : Hp} (e : σ = σ') (tl : TlA K σ' G0 0 ta n) (hs : Same G0 H) (hn : n ≤ 100)
    (k : ∀ S vs G, Same H G → G S = some (.lst vs) → vs.length = n → (∀ i v, vs[i]? = some v → DoorT K G i v) → b D (σ'.set i (some (.ref S))) G) : tSeq (tAsg (tLst ta) (gName i)) b D σ H := by
  have sl : (3000 : Nat) ≤ sizeLine := by decide
  subst e
  refine tl H _ hs fun vs H2 s2 l2 c2 => ⟨by omega, fun L hL => ?_⟩
  have sL := Same.updf (o := .lst vs) hL
  exact k L vs _ (s2.trans sL) upd_same l2 fun j v hj => by
    have := c2 j v hj
    rw [Nat.zero_add] at this
    exact this.same sL
def five : List Ev := [.line, .line, .line, .line, .line]
theorem five_valid : Valid five := by
  have h1 : Valid [Ev.line] := Valid.snoc (es := []) Valid.nil (by decide) fun n z => by cases z
  have h2 : Valid [Ev.line, .line] := Valid.snoc (es := [.line]) h1 (by decide) fun n z => by cases z
  have h3 : Valid [Ev.line, .line, .line] := Valid.snoc (es := [.line, .line]) h2 (by decide) fun n z => by cases z
  have h4 : Valid [Ev.line, .line, .line, .line] := Valid.snoc (es := [.line, .line, .line]) h3 (by decide) fun n z => by cases z
  exact Valid.snoc (es := [.line, .line, .line, .line]) h4 (by decide) fun n z => by cases z
theorem five_cs : cs five 3 = none := by decide +kernel
theorem five_own (d : PyData) : ownB five 3 d = false := by
  unfold ownB
  rw [five_cs]
theorem cs_wide {es : List Ev} {p : Nat} (h : es.length ≤ p) : cs es p = some [] := by
  have hw : wl es p = [] := by
    unfold wl
    rw [List.filterMap_eq_nil_iff]
    intro k hk
    have hk := List.mem_range.mp hk
    have : (lp es).length ≤ es.length := by
      unfold lp
      refine Nat.le_trans (List.length_filter_le _ _) ?_
      rw [List.length_range]
      exact Nat.le_refl _
    rw [if_neg (by omega)]
  unfold cs spansOf
  rw [hw]
  rfl
theorem LifeAt.offp {K : PySem.W.Frag} {H : Hp} {q pu : Addr} {es : List Ev} {N : Nat} (h : LifeAt K H q es) (n : q ≠ pu) (hP : Purse H pu N) : LifeAt K (off H pu) q es := by
  obtain ⟨A, B, c, i, eP, _⟩ := hP
  obtain ⟨ts, h1, h2, h3⟩ := h
  refine ⟨ts, (off_at n).trans h1, h2, fun i t e e1 e2 => ?_⟩
  rcases h3 i t e e1 e2 with (h | ⟨o, h⟩) | h
  · exact .inl (.inl ((off_at fun z => by rw [z, eP] at h; cases h).trans h))
  · exact .inl (.inr ⟨o, (off_at fun z => by rw [z, eP] at h; cases h).trans h⟩)
  · exact .inr h
theorem eqv_lf : ∀ es : List Ev, PyData.eqvAll (es.map Ev.d) (es.map Ev.d) = true
  | [] => by simp [PyData.eqvAll]
  | e :: es => by
    have h1 : PyData.eqv e.d e.d = true := by cases e <;> simp [Ev.d, PyData.eqv, PyData.eqvAll]
    show PyData.eqvAll (e.d :: es.map Ev.d) (e.d :: es.map Ev.d) = true
    simp only [PyData.eqvAll, h1, eqv_lf es, Bool.and_self]
theorem eqv_life (es : List Ev) : PyData.eqv (.list (es.map Ev.d)) (.list (es.map Ev.d)) = true := by
  simp only [PyData.eqv]
  exact eqv_lf es
theorem full_fails {K : PySem.W.Frag} {H : Hp} {a : Addr} (hL : LifeAt K H a five) : Fails K (cFul K) (.int 3) 3 [.ref a, .int 3] H := fun H' Q E s r =>
  ⟨_, _, _, rfl, .inr (.inr ⟨a, five, 3, rfl, hL.same s, five_valid, by decide, fun _ => r, fun L e => by rw [five_cs] at e; cases e⟩)⟩
def spLaw (K : PySem.W.Frag) : Sp := fun vs H Q _ => ∃ (a : Addr) (ns : List Int), vs = [.ref a] ∧ SqL K H a (ns.map V.int) ∧ ∀ H', Q (.bl true) H'
section
variable {P : Program} {w : World} {K : PySem.W.Frag} {mg : Str → Option Value} {base : Heap}
abbrev s_law : Stmt := top 61
abbrev N_law : List Str := ["_law_script", "_law_purse_here", "_law_life_here", "_law_kept", "_law_lines", "_law_again", "_law_some", "_law_door_here", "_law_rest", "_law_pages", "_law_places", "_law_cells", "_law_told"]
theorem sc_law : FnScope N_law ["_law_script"] (defScope s_law) := ⟨rfl, rfl, rfl, by decide +kernel, rfl, by decide +kernel, by decide +kernel⟩
theorem ok_law {f : Addr} {fd : FuncData} (F : FnP K "law" s_law f fd) (Z : FreeS mg)
    {f_purse : Addr} {d_purse : FuncData} (g_purse : mg "_law_purse" = some (.ref f_purse)) (F_purse : FnP K "_law_purse" s_purse f_purse d_purse) (G_purse : FnOk P w K mg base CX0 1 f_purse d_purse ["_law_script", "_law_at"] (spPurse K))
    {f_life : Addr} {d_life : FuncData} (g_life : mg "_law_life" = some (.ref f_life)) (F_life : FnP K "_law_life" s_life f_life d_life) (G_life : FnOk P w K mg base CX0 3 f_life d_life ["_law_purse_here", "_law_most"] (spLife K))
    {f_disc_cells : Addr} {d_disc_cells : FuncData} (g_disc_cells : mg "disc_cells" = some (.ref f_disc_cells)) (F_disc_cells : FnP K "disc_cells" s_disc_cells f_disc_cells d_disc_cells) (G_disc_cells : FnOk P w K mg base (L2.CX P w) 5 f_disc_cells d_disc_cells ["pages", "places"] (spDiscC K))
    {f_most_places : Addr} {d_most_places : FuncData} (g_most_places : mg "most_places" = some (.ref f_most_places)) (F_most_places : FnP K "most_places" s_most_places f_most_places d_most_places) (G_most_places : FnOk P w K mg base (L2.CX P w) 5 f_most_places d_most_places ["cells", "pages"] (spMostP K))
    {f_exact : Addr} {d_exact : FuncData} (g_exact : mg "_law_exact" = some (.ref f_exact)) (F_exact : FnP K "_law_exact" s_exact f_exact d_exact) (GA_exact : ∀ n : Nat, FnOk P w K mg base CX0 (n + 1) f_exact d_exact ["_law_mine", "_law_theirs"] (spExactD K n))
    {f_draw : Addr} {d_draw : FuncData} (g_draw : mg "_law_draw" = some (.ref f_draw)) (F_draw : FnP K "_law_draw" s_draw f_draw d_draw) (G_draw : FnOk P w K mg base CX0 2 f_draw d_draw ["_law_purse_here", "_law_many"] spDraw)
    {f_lives_fall : Addr} {d_lives_fall : FuncData} (g_lives_fall : mg "_law_lives_fall" = some (.ref f_lives_fall)) (F_lives_fall : FnP K "_law_lives_fall" s_lives_fall f_lives_fall d_lives_fall) (G_lives_fall : FnOk P w K mg base CX0 13 f_lives_fall d_lives_fall ["_law_life_here"] (spLivesF K))
    {f_counts_fall : Addr} {d_counts_fall : FuncData} (g_counts_fall : mg "_law_counts_fall" = some (.ref f_counts_fall)) (F_counts_fall : FnP K "_law_counts_fall" s_counts_fall f_counts_fall d_counts_fall) (G_counts_fall : FnOk P w K mg base CX0 13 f_counts_fall d_counts_fall ["_law_life_here"] (spCountsF K))
    {f_falls : Addr} {d_falls : FuncData} (g_falls : mg "_law_falls" = some (.ref f_falls)) (F_falls : FnP K "_law_falls" s_falls f_falls d_falls) (G_falls : FnOk P w K mg base CX0 12 f_falls d_falls ["_law_door_here", "_law_some", "_law_word", "_law_odd"] (spFalls K))
    {f_are_apart_lines : Addr} {d_are_apart_lines : FuncData} (g_are_apart_lines : mg "are_apart_lines" = some (.ref f_are_apart_lines)) (F_are_apart_lines : FnP K "are_apart_lines" s_are_apart_lines f_are_apart_lines d_are_apart_lines) (G_are_apart_lines : FnOk P w K mg base (L2.CX P w) 8 f_are_apart_lines d_are_apart_lines ["life", "places", "value"] (spAreApart K))
    {f_by_name : Addr} {d_by_name : FuncData} (g_by_name : mg "_law_by_name" = some (.ref f_by_name)) (F_by_name : FnP K "_law_by_name" s_by_name f_by_name d_by_name) (G_by_name : FnOk P w K mg base (L2.CX P w) 10 f_by_name d_by_name ["_law_door_here", "_law_some"] (spByName K))
    {f_door : Addr} {d_door : FuncData} (g_door : mg "_law_door" = some (.ref f_door)) (F_door : FnP K "_law_door" s_door f_door d_door) (G_door : FnOk P w K mg base (L2.CX P w) 10 f_door d_door ["_law_door_here", "_law_some"] (spDoor K)) (W : ExW K mg) :
    FnOk P w K mg base CX0 14 f fd ["_law_script"] (spLaw K) := by
  have b_purse : Binds K d_purse ["_law_script", "_law_at"] [] := F_purse.bindsN fun _ _ _ _ _ _ us hl => match us, hl with | [_, _], _ => rfl
  have b_life : Binds K d_life ["_law_purse_here", "_law_most"] [] := F_life.bindsN fun _ _ _ _ _ _ us hl => match us, hl with | [_, _], _ => rfl
  have b_disc_cells : Binds K d_disc_cells ["pages", "places"] [] := F_disc_cells.bindsN fun _ _ _ _ _ _ us hl => match us, hl with | [_, _], _ => rfl
  have b_most_places : Binds K d_most_places ["cells", "pages"] [] := F_most_places.bindsN fun _ _ _ _ _ _ us hl => match us, hl with | [_, _], _ => rfl
  have b_exact : Binds K d_exact ["_law_mine", "_law_theirs"] [] := F_exact.bindsN fun _ _ _ _ _ _ us hl => match us, hl with | [_, _], _ => rfl
  have b_draw : Binds K d_draw ["_law_purse_here", "_law_many"] [] := F_draw.bindsN fun _ _ _ _ _ _ us hl => match us, hl with | [_, _], _ => rfl
  have b_lives_fall : Binds K d_lives_fall ["_law_life_here"] [] := F_lives_fall.bindsN fun _ _ _ _ _ _ us hl => match us, hl with | [_], _ => rfl
  have b_counts_fall : Binds K d_counts_fall ["_law_life_here"] [] := F_counts_fall.bindsN fun _ _ _ _ _ _ us hl => match us, hl with | [_], _ => rfl
  have b_falls : Binds K d_falls ["_law_door_here", "_law_some", "_law_word", "_law_odd"] [] := F_falls.bindsN fun _ _ _ _ _ _ us hl => match us, hl with | [_, _, _, _], _ => rfl
  have b_are_apart_lines : Binds K d_are_apart_lines ["life", "places", "value"] [] := F_are_apart_lines.bindsN fun _ _ _ _ _ _ us hl => match us, hl with | [_, _, _], _ => rfl
  have b_by_name : Binds K d_by_name ["_law_door_here", "_law_some"] [] := F_by_name.bindsN fun _ _ _ _ _ _ us hl => match us, hl with | [_, _], _ => rfl
  have b_door : Binds K d_door ["_law_door_here", "_law_some"] [] := F_door.bindsN fun _ _ _ _ _ _ us hl => match us, hl with | [_, _], _ => rfl
  refine F.ok sc_law (fun vs H Q E h => ?_) (fun cdv A outer s H vs Q E hr h => ?_)
  · obtain ⟨a, ns, rfl, _⟩ := h
    rfl
  · obtain ⟨a, ns, rfl, hS, k⟩ := h
    have sl : (3000 : Nat) ≤ sizeLine := by decide
    have hu : _ + 64 < cLine := Nat.lt_of_le_of_lt (Nat.add_le_add_left (by decide : 64 ≤ 200) _) (Nat.lt_of_le_of_lt (Nat.add_le_add_right (Nat.le_add_right _ _) _) hr.un)
    have R_by_name := rightWay (sp' := spDoorR K) G_by_name fun vs H Q E h => door_right h
    have R_door := rightWay (sp' := spDoorR K) G_door fun vs H Q E h => door_right h
    have R_are_apart_lines := rightWay (sp' := spApartR K) G_are_apart_lines fun vs H Q E h => .inr (.inr h)
    have R_disc_cells := rightWay (sp' := spTwoR K fun i j => 61 * i + 20 * j) G_disc_cells fun vs H Q E h => .inr (.inr h)
    have R_most_places := rightWay (sp' := spTwoR K fun i j => max 0 ((i - 61 * j) / 20)) G_most_places fun vs H Q E h => .inr (.inr h)
    have nd := sc_law.nd
    refine ⟨_, PSs.nox (pss_cons (ps_set (i := 1) nd rfl (Or.inl rfl) (pe_call G_purse (hr.mono (by decide)) rfl g_purse F_purse.kp b_purse .nil pass0 (pa_cons (pv 0) (pa_cons (pe_int) (pa_nil)))))
      (pss_cons (ps_set (i := 2) nd rfl (Or.inl rfl) (pe_op op_cat (pe_call G_life (hr.mono (by decide)) rfl g_life F_life.kp b_life .nil pass0 (pa_cons (pv 1) (pa_cons (pe_int) (pa_nil)))) (pe_lst (pa_cons (pe_tup (pa_cons (pe_str) (pa_nil))) (pa_nil)))))
      (pss_cons (ps_par (i := 3) (j := 4) rfl nd rfl rfl (by decide) rfl rfl (pa_cons (pe_callTy call_list_of (by rfl) Z.tlist (by decide +kernel) (pa_cons (pv 2) (pa_nil))) (pa_cons (pe_op op_rep (pe_lst (pa_cons (pe_tup (pa_cons (pe_str) (pa_nil))) (pa_nil))) (pe_int)) (pa_nil))) rfl)
      (pss_cons (ps_for PassesOwn.never rfl (pi_range1 (by rfl) Z.range (pa_cons (pe_int) (pa_nil))) (pg_name (i := 5) nd rfl (Or.inl rfl))
        (pss_cons (ps_if (PW.pt (pw_or (pt_not (pt_val (pe_call G_lives_fall (hr.mono (by decide)) rfl g_lives_fall F_lives_fall.kp b_lives_fall .nil pass0 (pa_cons (pv 2) (pa_nil))))) (pw_or (pt_not (pt_val (pe_call G_counts_fall (hr.mono (by decide)) rfl g_counts_fall F_counts_fall.kp b_counts_fall .nil pass0 (pa_cons (pv 2) (pa_nil))))) (pw_or1 (pt_not (pt_val (pe_call G_falls (hr.mono (by decide)) rfl g_falls F_falls.kp b_falls .nil pass0 (pa_cons (pe_int) (pa_cons (pe_lst (pa_cons (pv 4) (pa_cons (pe_int) (pa_nil)))) (pa_cons (pe_str) (pa_cons (pe_int) (pa_nil)))))))))))) (pss_one (ps_ret (pe_bl))) (pss_nil))
      (pss_cons (ps_set (i := 6) nd rfl (Or.inl rfl) (pe_lst (pa_cons (pe_lst (pa_cons (pv 2) (pa_cons (pe_int) (pa_nil)))) (pa_cons (pe_lst (pa_cons (pv 2) (pa_cons (pe_int) (pa_nil)))) (pa_cons (pe_lst (pa_cons (pv 2) (pa_cons (pe_int) (pa_nil)))) (pa_cons (pe_lst (pa_cons (pv 2) (pa_cons (pe_int) (pa_nil)))) (pa_cons (pe_lst (pa_cons (pv 2) (pa_cons (pe_int) (pa_nil)))) (pa_cons (pe_lst (pa_cons (pv 2) (pa_cons (pe_int) (pa_nil)))) (pa_cons (pe_lst (pa_cons (pv 2) (pa_nil))) (pa_cons (pe_lst (pa_cons (pv 2) (pa_cons (pe_lst (pa_cons (pe_int) (pa_nil))) (pa_nil)))) (pa_cons (pe_lst (pa_cons (pv 2) (pa_cons (pe_int) (pa_nil)))) (pa_cons (pe_lst (pa_cons (pv 2) (pa_cons (pe_int) (pa_cons (pe_lst (pa_nil)) (pa_nil))))) (pa_cons (pe_lst (pa_cons (pe_int) (pa_cons (pe_int) (pa_nil)))) (pa_cons (pe_lst (pa_cons (pe_int) (pa_cons (pe_int) (pa_nil)))) (pa_nil)))))))))))))))
      (pss_cons (ps_for PassesOwn.never rfl (pi_enum (by rfl) Z.enumerate (pa_cons (pv 6) (pa_nil))) (pg_tup rfl (pgs_cons (pg_name (i := 7) nd rfl (Or.inl rfl)) (pgs_cons (pg_name (i := 8) nd rfl (Or.inl rfl)) (pgs_nil))))
        (pss_one (ps_if (pt_not (pt_val (pe_call (GA_exact 9) (hr.mono (by decide)) rfl g_exact F_exact.kp b_exact .nil pass0 (pa_cons (pe_call R_by_name (hr.mono (by decide)) rfl g_by_name F_by_name.kp b_by_name .nil pass0 (pa_cons (pv 7) (pa_cons (pv 8) (pa_nil)))) (pa_cons (pe_call R_door (hr.mono (by decide)) rfl g_door F_door.kp b_door .nil pass0 (pa_cons (pv 7) (pa_cons (pv 8) (pa_nil)))) (pa_nil)))))) (pss_one (ps_ret (pe_bl))) (pss_nil))))
      (pss_one (ps_if (PW.pt (pw_or (pt_cmpR op_notBl (pe_call R_are_apart_lines (hr.mono (by decide)) rfl g_are_apart_lines F_are_apart_lines.kp b_are_apart_lines .nil pass0 (pa_cons (pv 4) (pa_cons (pe_int) (pa_cons (pe_lst (pa_nil)) (pa_nil))))) (pe_bl) (nomark _)) (pw_or1 (pt_cmpR op_notBl (pe_call R_are_apart_lines (hr.mono (by decide)) rfl g_are_apart_lines F_are_apart_lines.kp b_are_apart_lines .nil pass0 (pa_cons (pv 4) (pa_cons (pe_int) (pa_cons (pe_lst (pa_cons (pe_int) (pa_cons (pe_int) (pa_nil)))) (pa_nil))))) (pe_bl) (nomark _))))) (pss_one (ps_ret (pe_bl))) (pss_nil)))))))
      (pss_cons (ps_par (i := 9) (j := 10) rfl nd rfl rfl (by decide) rfl rfl (pa_cons (pe_op op_add (pe_int) (pe_call G_draw (hr.mono (by decide)) rfl g_draw F_draw.kp b_draw .nil pass0 (pa_cons (pv 1) (pa_cons (pe_int) (pa_nil))))) (pa_cons (pe_op op_add (pe_int) (pe_call G_draw (hr.mono (by decide)) rfl g_draw F_draw.kp b_draw .nil pass0 (pa_cons (pv 1) (pa_cons (pe_int) (pa_nil))))) (pa_nil))) rfl)
      (pss_cons (ps_set (i := 11) nd rfl (Or.inl rfl) (pe_op op_add (pe_op op_mul (pe_int) (pv 9)) (pe_op op_mul (pe_int) (pv 10))))
      (pss_cons (ps_set (i := 12) nd rfl (Or.inl rfl) (pe_lst (pa_cons (pe_call R_disc_cells (hr.mono (by decide)) rfl g_disc_cells F_disc_cells.kp b_disc_cells .nil pass0 (pa_cons (pv 9) (pa_cons (pv 10) (pa_nil)))) (pa_cons (pe_call R_most_places (hr.mono (by decide)) rfl g_most_places F_most_places.kp b_most_places .nil pass0 (pa_cons (pv 11) (pa_cons (pv 9) (pa_nil)))) (pa_cons (pe_call R_most_places (hr.mono (by decide)) rfl g_most_places F_most_places.kp b_most_places .nil pass0 (pa_cons (pe_op op_add (pv 11) (pe_int)) (pa_cons (pv 9) (pa_nil)))) (pa_cons (pe_call R_most_places (hr.mono (by decide)) rfl g_most_places F_most_places.kp b_most_places .nil pass0 (pa_cons (pe_op op_sub (pv 11) (pe_int)) (pa_cons (pv 9) (pa_nil)))) (pa_cons (pe_call R_most_places (hr.mono (by decide)) rfl g_most_places F_most_places.kp b_most_places .nil pass0 (pa_cons (pe_op op_mul (pe_int) (pv 9)) (pa_cons (pv 9) (pa_nil)))) (pa_cons (pe_call R_most_places (hr.mono (by decide)) rfl g_most_places F_most_places.kp b_most_places .nil pass0 (pa_cons (pe_int) (pa_cons (pv 9) (pa_nil)))) (pa_nil)))))))))
      (pss_cons (ps_set (i := 12) nd rfl (Or.inl rfl) (pe_op op_cat (pv 12) (pe_lst (pa_cons (pe_call R_disc_cells (hr.mono (by decide)) rfl g_disc_cells F_disc_cells.kp b_disc_cells .nil pass0 (pa_cons (pe_int) (pa_cons (pe_int) (pa_nil)))) (pa_cons (pe_call R_most_places (hr.mono (by decide)) rfl g_most_places F_most_places.kp b_most_places .nil pass0 (pa_cons (pe_int) (pa_cons (pe_int) (pa_nil)))) (pa_cons (pe_call R_most_places (hr.mono (by decide)) rfl g_most_places F_most_places.kp b_most_places .nil pass0 (pa_cons (pe_int) (pa_cons (pe_int) (pa_nil)))) (pa_cons (pe_call R_most_places (hr.mono (by decide)) rfl g_most_places F_most_places.kp b_most_places .nil pass0 (pa_cons (pe_int) (pa_cons (pe_int) (pa_nil)))) (pa_nil))))))))
      (pss_one (ps_ret (pe_and (pe_call (GA_exact 9) (hr.mono (by decide)) rfl g_exact F_exact.kp b_exact .nil pass0 (pa_cons (pv 12) (pa_cons (pe_lst (pa_cons (pv 11) (pa_cons (pv 10) (pa_cons (pv 10) (pa_cons (pe_op op_sub (pv 10) (pe_int)) (pa_cons (pe_int) (pa_cons (pe_int) (pa_cons (pe_int) (pa_cons (pe_int) (pa_cons (pe_int) (pa_cons (pe_int) (pa_nil)))))))))))) (pa_nil)))) (pe_one (pe_cmpR (op_eqD hu) (pv 2) (pv 3) (nomark _)))))))))))))), ?_⟩
    refine ⟨_, rfl, a, ns, 0, rfl, hS, fun pu H1 s1 hpu P1 => ?_⟩
    refine ⟨_, rfl, pu, 8, 0, rfl, by decide, P1, by omega, fun q es0 H2 M b2 hq nq hL0 hV0 hl0 P2 lM => ?_⟩
    refine ⟨(by show 1 ≤ sizeLine; omega), fun T hT => ⟨(by show 1 ≤ sizeLine; omega), fun B hB => ?_⟩⟩
    obtain ⟨ts0, h01, h02, h03⟩ := hL0
    have sT := Same.updf (o := .tup [.str "line"]) hT
    have eT : upd H2 T (.tup [.str "line"]) T = some (.tup [.str "line"]) := upd_same
    generalize upd H2 T (.tup [.str "line"]) = H3 at sT eT hB ⊢
    have sB := Same.updf (o := .lst [.ref T]) hB
    have eB : upd H3 B (.lst [.ref T]) B = some (.lst [.ref T]) := upd_same
    generalize upd H3 B (.lst [.ref T]) = H4 at sB eB ⊢
    refine ⟨q, B, _, _, rfl, rfl, (sT.trans sB) _ _ h01, eB, by rw [List.length_map, h02]; show _ + 1 ≤ sizeLine; omega, fun c hc => ?_⟩
    have sC := Same.updf (o := .lst (ts0.map V.ref ++ [.ref T])) hc
    have eC : upd H4 c (.lst (ts0.map V.ref ++ [.ref T])) c = some (.lst (ts0.map V.ref ++ [.ref T])) := upd_same
    have ncp : c ≠ pu := fun z => by
      obtain ⟨A, B, c', i, eP, _⟩ := P2.same (sT.trans sB)
      rw [← z, hc] at eP
      cases eP
    generalize upd H4 c (.lst (ts0.map V.ref ++ [.ref T])) = H5 at sC eC ⊢
    have s25 := sT.trans (sB.trans sC)
    have hL : LifeAt K H5 c (es0 ++ [.line]) := LifeAt.snoc h02 (fun i t e e1 e2 => SqT_up s25 (h03 i t e e1 e2)) eC (SqT.of ((sB.trans sC) _ _ eT))
    have hV : Valid (es0 ++ [.line]) := hV0.snoc (by omega) fun n z => by cases z
    have hlen : (es0 ++ [Ev.line]).length ≤ 9 ∧ 1 ≤ (es0 ++ [Ev.line]).length := by
      rw [List.length_append, List.length_singleton]
      omega
    have P5 := P2.same s25
    generalize es0 ++ [Ev.line] = es at hL hV hlen
    clear h01 h02 h03 s25 eC
    obtain ⟨ts, h1, h2, h3⟩ := id hL
    refine ⟨_, rfl, c, _, rfl, .inl (SqL.of h1), fun kp hkp => ?_⟩
    have sK := Same.updf (o := .lst (ts.map V.ref)) hkp
    have eK : upd H5 kp (.lst (ts.map V.ref)) kp = some (.lst (ts.map V.ref)) := upd_same
    have nkp : kp ≠ pu := fun z => by
      obtain ⟨A, B, c', i, eP, _⟩ := P5
      rw [← z, hkp] at eP
      cases eP
    generalize upd H5 kp (.lst (ts.map V.ref)) = H6 at sK eK ⊢
    have hK : LifeAt K H6 kp es := ⟨ts, eK, h2, fun i t e e1 e2 => SqT_up sK (h3 i t e e1 e2)⟩
    refine ⟨(by show 1 ≤ sizeLine; omega), fun T2 hT2 => ⟨(by show 1 ≤ sizeLine; omega), fun B2 hB2 => ?_⟩⟩
    have sT2 := Same.updf (o := .tup [.str "line"]) hT2
    have eT2 : upd H6 T2 (.tup [.str "line"]) T2 = some (.tup [.str "line"]) := upd_same
    generalize upd H6 T2 (.tup [.str "line"]) = H7 at sT2 eT2 hB2 ⊢
    have sB2 := Same.updf (o := .lst [.ref T2]) hB2
    have eB2 : upd H7 B2 (.lst [.ref T2]) B2 = some (.lst [.ref T2]) := upd_same
    generalize upd H7 B2 (.lst [.ref T2]) = H8 at sB2 eB2 ⊢
    refine ⟨B2, 5, _, rfl, rfl, eB2, by decide, by decide, (by show 1 * 5 ≤ sizeLine; omega), fun ln hln => ?_⟩
    have e5 : (List.replicate (5 : Int).toNat [V.ref T2]).flatten = [.ref T2, .ref T2, .ref T2, .ref T2, .ref T2] := rfl
    rw [e5]
    have sLn := Same.updf (o := .lst [.ref T2, .ref T2, .ref T2, .ref T2, .ref T2]) hln
    have eLn : upd H8 ln (.lst [.ref T2, .ref T2, .ref T2, .ref T2, .ref T2]) ln = some (.lst [.ref T2, .ref T2, .ref T2, .ref T2, .ref T2]) := upd_same
    generalize upd H8 ln (.lst [.ref T2, .ref T2, .ref T2, .ref T2, .ref T2]) = H9 at sLn eLn ⊢
    have hLn : LifeAt K H9 ln five := ⟨[T2, T2, T2, T2, T2], eLn, rfl, fun i t e e1 e2 => by
      have ht : SqT K H9 T2 Ev.line.v := SqT.of ((sB2.trans sLn) _ _ eT2)
      match i, e1, e2 with
      | 0, e1, e2 => cases e1; cases e2; exact ht
      | 1, e1, e2 => cases e1; cases e2; exact ht
      | 2, e1, e2 => cases e1; cases e2; exact ht
      | 3, e1, e2 => cases e1; cases e2; exact ht
      | 4, e1, e2 => cases e1; cases e2; exact ht
      | i + 5, e1, e2 => cases e1⟩
    have s59 := sK.trans (sT2.trans (sB2.trans sLn))
    have hL9 := hL.same s59
    have hK9 := hK.same (sT2.trans (sB2.trans sLn))
    have P9 := P5.same s59
    clear h1 h2 h3 eT2 eB2 eLn eK
    refine ⟨_, _, rfl, ?_⟩
    refine ⟨2, rfl, by decide, by decide, ?_⟩
    refine for_it (n := 2) (walk_range (lo := 0) (n := 2)) (fun _ σ G => Same H9 G ∧ ∃ v5 v6 v7 v8, σ = [some (.ref a), some (.ref pu), some (.ref c), some (.ref kp), some (.ref ln), v5, v6, v7, v8, none, none, none, none])
      ⟨Same.refl _, none, none, none, none, rfl⟩ (fun _ _ _ _ _ => trivial) ?_ ?_
    · rintro i x σ G0 G hi ⟨sG, v5, v6, v7, v8, rfl⟩ ⟨rfl, rfl⟩
      have hLG := hL9.same sG
      refine ⟨_, rfl, c, es, rfl, hLG, hV, by omega, fun G1 g1 => ⟨true, rfl, itB (c := false) rfl (fun z => by cases z) (fun _ => ?_)⟩⟩
      refine ⟨_, rfl, c, es, rfl, hLG.same g1, hV, by omega, fun G2 g2 => ⟨true, rfl, itB (c := false) rfl (fun z => by cases z) (fun _ => ?_)⟩⟩
      refine ⟨_, rfl, (by show 2 ≤ sizeLine; omega), fun L3 hL3 => ?_⟩
      have g3 := (g1.trans g2).trans (Same.updf (o := .lst [.ref ln, .int 3]) hL3)
      refine ⟨3, L3, 3, _, .int 3, .int 3, rfl, by decide, by decide, upd_same, TD.flat (.int 3), VeryK.of (n := 0) (d := .int 3) (.int 3) (fun p r e => by cases e), full_fails (hLn.same (sG.trans g3)), fun G3 g4 => ⟨true, rfl, itB (c := false) rfl (fun z => by cases z) (fun _ => ?_)⟩⟩
      have g5 := g3.trans g4
      have hLf := hLG.same g5
      have hLnf := hLn.same (sG.trans g5)
      have hVf := hV
      have t7 : TlE K [some (.ref a), some (.ref pu), some (.ref c), some (.ref kp), some (.ref ln), some (.int (0 + (i : Int))), v6, v7, v8, none, none, none, none] G3 7 (tLst (tCons (tVar 2) (tCons (tLst (tCons (tC (.int 0)) tNil)) tNil))) := fun H Q s q => by
        refine ⟨_, rfl, (by show 1 ≤ sizeLine; omega), fun b hb => ⟨(by show 2 ≤ sizeLine; omega), fun L hL => ?_⟩⟩
        have sb := Same.updf (o := .lst [.int 0]) hb
        have sL := Same.updf (o := .lst [.ref c, .ref b]) hL
        obtain ⟨d, td⟩ := tells_with (K := K) (b := b) (R := [0]) (hLf.same (s.trans (sb.trans sL))) hVf (by omega) (sL _ _ upd_same) (by decide) ⟨List.pairwise_singleton _ _, fun x hx => by rw [List.mem_singleton.mp hx]; omega⟩
        exact q _ _ (sb.trans sL) ⟨L, _, d, rfl, upd_same, td⟩
      have t9 : TlE K [some (.ref a), some (.ref pu), some (.ref c), some (.ref kp), some (.ref ln), some (.int (0 + (i : Int))), v6, v7, v8, none, none, none, none] G3 9 (tLst (tCons (tVar 2) (tCons (tC (.int 60)) (tCons (tLst tNil) tNil)))) := fun H Q s q => by
        refine ⟨_, rfl, (by show 0 ≤ sizeLine; omega), fun b hb => ⟨(by show 3 ≤ sizeLine; omega), fun L hL => ?_⟩⟩
        have sb := Same.updf (o := .lst []) hb
        have sL := Same.updf (o := .lst [.ref c, .int 60, .ref b]) hL
        obtain ⟨d, td⟩ := tells_apart (K := K) (p := 60) (n := 1) (hLf.same (s.trans (sb.trans sL))) hVf (by decide) (TD.lst (n := 0) (sL _ _ upd_same) rfl (by decide) td_nil)
        exact q _ _ (sb.trans sL) ⟨L, _, d, rfl, upd_same, td⟩
      have tl : TlA K [some (.ref a), some (.ref pu), some (.ref c), some (.ref kp), some (.ref ln), some (.int (0 + (i : Int))), v6, v7, v8, none, none, none, none] G3 0 (tCons (tLst (tCons (tVar 2) (tCons (tC (.int 2)) (tNil)))) (tCons (tLst (tCons (tVar 2) (tCons (tC (.int 2)) (tNil)))) (tCons (tLst (tCons (tVar 2) (tCons (tC (.int 3)) (tNil)))) (tCons (tLst (tCons (tVar 2) (tCons (tC (.int 60)) (tNil)))) (tCons (tLst (tCons (tVar 2) (tCons (tC (.int 1)) (tNil)))) (tCons (tLst (tCons (tVar 2) (tCons (tC (.int 1)) (tNil)))) (tCons (tLst (tCons (tVar 2) (tNil))) (tCons (tLst (tCons (tVar 2) (tCons (tLst (tCons (tC (.int 0)) (tNil))) (tNil)))) (tCons (tLst (tCons (tVar 2) (tCons (tC (.int 1)) (tNil)))) (tCons (tLst (tCons (tVar 2) (tCons (tC (.int 60)) (tCons (tLst tNil) (tNil))))) (tCons (tLst (tCons (tC (.int 4)) (tCons (tC (.int 10)) (tNil)))) (tCons (tLst (tCons (tC (.int 1200)) (tCons (tC (.int 4)) (tNil)))) (tNil))))))))))))) 12 := TlA.cons (TlE.mk (tells_lp (p := 2) hLf hVf (by omega) (by decide) (.inl rfl)) (fun H Q q => ⟨_, rfl, q⟩) (by exact Nat.le_of_ble_eq_true rfl)) (TlA.cons (TlE.mk (tells_lp (p := 2) hLf hVf (by omega) (by decide) (.inr (.inl rfl))) (fun H Q q => ⟨_, rfl, q⟩) (by exact Nat.le_of_ble_eq_true rfl)) (TlA.cons (TlE.mk (tells_lp (p := 3) hLf hVf (by omega) (by decide) (.inr (.inr (.inl rfl)))) (fun H Q q => ⟨_, rfl, q⟩) (by exact Nat.le_of_ble_eq_true rfl)) (TlA.cons (TlE.mk (tells_lines (p := 60) hLf hVf (by omega) (by decide) (cs_wide (by omega))) (fun H Q q => ⟨_, rfl, q⟩) (by exact Nat.le_of_ble_eq_true rfl)) (TlA.cons (TlE.mk (tells_mo (m := 1) hLf hVf (by omega) (by omega) (.inl rfl)) (fun H Q q => ⟨_, rfl, q⟩) (by exact Nat.le_of_ble_eq_true rfl)) (TlA.cons (TlE.mk (tells_mo (m := 1) hLf hVf (by omega) (by omega) (.inr rfl)) (fun H Q q => ⟨_, rfl, q⟩) (by exact Nat.le_of_ble_eq_true rfl)) (TlA.cons (TlE.mk (tells_least hLf hVf) (fun H Q q => ⟨_, rfl, q⟩) (by exact Nat.le_of_ble_eq_true rfl)) (TlA.cons (t7) (TlA.cons (TlE.mk (tells_lp (p := 1) hLf hVf (by omega) (by decide) (.inr (.inr (.inr rfl)))) (fun H Q q => ⟨_, rfl, q⟩) (by exact Nat.le_of_ble_eq_true rfl)) (TlA.cons (t9) (TlA.cons (TlE.mk (tells_two (i := 4) (j := 10) (by decide) (by decide) (by decide) (by decide) (.inl rfl)) (fun H Q q => q) (by exact Nat.le_of_ble_eq_true rfl)) (TlA.cons (TlE.mk (tells_two (i := 1200) (j := 4) (by decide) (by decide) (by decide) (by decide) (.inr rfl)) (fun H Q q => q) (by exact Nat.le_of_ble_eq_true rfl)) (TlA.nil))))))))))))
      dsimp only [tNext]
      refine seq_tells (K := K) (by rfl) tl (Same.refl _) (by decide) fun S vs G4 s4 eS lv hv => ?_
      refine ⟨_, rfl, S, vs, rfl, SqL.of eS, ?_⟩
      refine for_it (n := vs.length) (walk_enum (K := K) (a := S) (xs := vs)) (fun _ σ G => Same G4 G ∧ ∃ v7 v8, σ = [some (.ref a), some (.ref pu), some (.ref c), some (.ref kp), some (.ref ln), some (.int (0 + (i : Int))), some (.ref S), v7, v8, none, none, none, none])
        ⟨Same.refl _, v7, v8, rfl⟩ (fun _ _ _ _ hh => SqL.of (hh.1 _ _ eS)) ?_ ?_
      · rintro j x σ X X' hj ⟨sX, w7, w8, rfl⟩ ⟨Tj, x1, x2, rfl, nT, rfl, g1', g2'⟩
        dsimp only at g1' g2'
        obtain rfl := Option.some.inj g1'
        have sT := Same.updf (o := .tup [V.int (j : Nat), x2]) nT
        obtain ⟨L, xs, d, rfl, hLx, ht⟩ := (hv j x2 g2').same (sX.trans sT)
        refine ⟨Tj, [_, _], rfl, .inl (.inl upd_same), rfl, _, [_], rfl, _, [], rfl, rfl, ?_⟩
        have hj12 : j < 12 := by omega
        refine ⟨_, rfl, _, rfl, j, L, xs, d, rfl, hj12, hLx, ht, fun y1 X1 z1 td1 => ?_⟩
        refine ⟨_, rfl, _, rfl, j, L, xs, d, rfl, hj12, z1 _ _ hLx, ht.same z1, fun y2 X2 z2 td2 => ?_⟩
        refine ⟨y1, y2, d, rfl, td1.same z2, td2, fun X3 z3 => ⟨true, rfl, itB (c := false) rfl (fun z => by cases z) (fun _ => ?_)⟩⟩
        exact ⟨sX.trans (sT.trans (z1.trans (z2.trans z3))), _, _, rfl⟩
      · rintro σ X ⟨sX, w7, w8, rfl⟩
        have s9X : Same H9 X := sG.trans (g5.trans (s4.trans sX))
        refine ⟨_, rfl, (by show 0 ≤ sizeLine; omega), fun b1 hb1 => ?_⟩
        have sb1 := Same.updf (o := .lst []) hb1
        refine ⟨ln, .ref b1, five, 3, 1, .list [], rfl, hLn.same (s9X.trans sb1), five_valid, by decide, TD.lst (n := 0) upd_same rfl (by decide) td_nil, fun X1 z1 => ?_⟩
        rw [five_own]
        refine ⟨false, false, rfl, rfl, _, rfl, itB (c := false) rfl (fun z => by cases z) (fun _ => ?_)⟩
        refine ⟨_, rfl, (by show 2 ≤ sizeLine; omega), fun b2 hb2 => ?_⟩
        have sb2 := Same.updf (o := .lst [.int 4, .int 5]) hb2
        have s9b := s9X.trans (sb1.trans (z1.trans sb2))
        refine ⟨ln, .ref b2, five, 3, 1, .list [.int 4, .int 5], rfl, hLn.same s9b, five_valid, by decide, TD.lst (n := 0) upd_same rfl (by decide) (td_cons (TD.flat (.int _)) (td_cons (TD.flat (.int _)) td_nil)), fun X2 z2 => ?_⟩
        rw [five_own]
        refine ⟨false, false, rfl, rfl, _, rfl, itB (c := false) rfl (fun z => by cases z) (fun _ => ?_)⟩
        exact ⟨s9b.trans z2, _, _, _, _, rfl⟩
    · rintro σ G ⟨sG, v5, v6, v7, v8, rfl⟩
      have PG := P9.same sG
      have oL := (hL9.same sG).offp ncp PG
      have oK := (hK9.same sG).offp nkp PG
      have mx12 : mixes 12 = 1 := mixes_one (by decide) (by decide)
      have mx40 : mixes 40 = 1 := mixes_one (by decide) (by decide)
      refine ⟨_, rfl, pu, 12, M, rfl, by decide, by decide, PG, by rw [mx12]; omega, by rw [mx12]; decide, fun r1 G1 r10 r11 c1 Q1 => ?_⟩
      refine ⟨_, _, rfl, rfl, ?_⟩
      refine ⟨_, rfl, pu, 40, M + mixes 12, rfl, by decide, by decide, Q1, by rw [mx40, mx12]; omega, by rw [mx40]; decide, fun r2 G2 r20 r21 c2 Q2 => ?_⟩
      refine ⟨_, _, rfl, rfl, ?_⟩
      have fL : LifeAt K G2 c es := (oL.same (off_but (c1.trans c2))).same off_to
      have fK : LifeAt K G2 kp es := (oK.same (off_but (c1.trans c2))).same off_to
      have b1 : 1 ≤ (1 + r1) ∧ (1 + r1) ≤ 12 := by omega
      have b2' : 1 ≤ (1 + r2) ∧ (1 + r2) ≤ 40 := by omega
      refine ⟨_, _, rfl, ?_⟩
      refine ⟨_, rfl, _, _, rfl, rfl, .inl ⟨by decide, by decide⟩, _, rfl, _, _, rfl, rfl, .inl ⟨by decide, by decide⟩, _, _, rfl, rfl, ?_⟩
      refine ⟨_, rfl, _, rfl, (1 + r1), (1 + r2), rfl, b1.1, b2'.1, by omega, by omega, fun A1 z1 => ?_⟩
      refine ⟨_, rfl, _, rfl, _, (1 + r1), rfl, by omega, b1.1, by omega, by omega, fun A2 z2 => ?_⟩
      refine ⟨_, rfl, _, _, rfl, rfl, _, rfl, _, (1 + r1), rfl, by omega, b1.1, by omega, by omega, fun A3 z3 => ?_⟩
      refine ⟨_, rfl, _, _, rfl, rfl, _, rfl, _, (1 + r1), rfl, by omega, b1.1, by omega, by omega, fun A4 z4 => ?_⟩
      refine ⟨_, rfl, _, _, rfl, rfl, .inl ⟨by decide, by decide⟩, _, rfl, _, (1 + r1), rfl, by omega, b1.1, by omega, by omega, fun A5 z5 => ?_⟩
      refine ⟨_, rfl, 1, (1 + r1), rfl, by omega, b1.1, by omega, by omega, fun A6 z6 => ?_⟩
      have v2 : max 0 ((61 * (1 + r1) + 20 * (1 + r2) - 61 * (1 + r1)) / 20) = (1 + r2) := by omega
      have v3 : max 0 ((61 * (1 + r1) + 20 * (1 + r2) + 19 - 61 * (1 + r1)) / 20) = (1 + r2) := by omega
      have v4 : max 0 ((61 * (1 + r1) + 20 * (1 + r2) - 1 - 61 * (1 + r1)) / 20) = (1 + r2) - 1 := by omega
      have v5 : max 0 ((61 * (1 + r1) - 61 * (1 + r1)) / 20) = 0 := by omega
      have v6 : max 0 ((1 - 61 * (1 + r1)) / 20) = 0 := by omega
      refine ⟨(by show 6 ≤ sizeLine; omega), fun L1 hL1 => ?_⟩
      dsimp only
      rw [v2, v3, v4, v5, v6]
      obtain ⟨m1, hm1⟩ : ∃ m : List Int, m = [61 * (1 + r1) + 20 * (1 + r2), 1 + r2, 1 + r2, 1 + r2 - 1, 0, 0] := ⟨_, rfl⟩
      have sL1 := Same.updf (o := .lst [.int (61 * (1 + r1) + 20 * (1 + r2)), .int (1 + r2), .int (1 + r2), .int (1 + r2 - 1), .int 0, .int 0]) hL1
      have eL1 : upd A6 L1 (.lst [.int (61 * (1 + r1) + 20 * (1 + r2)), .int (1 + r2), .int (1 + r2), .int (1 + r2 - 1), .int 0, .int 0]) L1 = some (.lst (m1.map V.int)) := by rw [upd_same, hm1]; rfl
      generalize upd A6 L1 (.lst [.int (61 * (1 + r1) + 20 * (1 + r2)), .int (1 + r2), .int (1 + r2), .int (1 + r2 - 1), .int 0, .int 0]) = A7 at sL1 eL1 ⊢
      refine ⟨_, rfl, 13, 41, rfl, by decide, by decide, by decide, by decide, fun A8 z8 => ?_⟩
      refine ⟨2000, 3, rfl, by decide, by decide, by decide, by decide, fun A9 z9 => ?_⟩
      refine ⟨183, 3, rfl, by decide, by decide, by decide, by decide, fun A10 z10 => ?_⟩
      refine ⟨203, 3, rfl, by decide, by decide, by decide, by decide, fun A11 z11 => ?_⟩
      have z711 := z8.trans (z9.trans (z10.trans z11))
      refine ⟨(by show 4 ≤ sizeLine; omega), fun L2 hL2 => ?_⟩
      dsimp only
      have w1 : (61 * 13 + 20 * 41 : Int) = 1613 := by decide
      have w2 : max 0 (((2000 : Int) - 61 * 3) / 20) = 90 := by decide
      have w3 : max 0 (((183 : Int) - 61 * 3) / 20) = 0 := by decide
      have w4 : max 0 (((203 : Int) - 61 * 3) / 20) = 1 := by decide
      rw [w1, w2, w3, w4]
      have sL2 := Same.updf (o := .lst [.int 1613, .int 90, .int 0, .int 1]) hL2
      have eL2 : upd A11 L2 (.lst [.int 1613, .int 90, .int 0, .int 1]) L2 = some (.lst (([1613, 90, 0, 1] : List Int).map V.int)) := upd_same
      generalize upd A11 L2 (.lst [.int 1613, .int 90, .int 0, .int 1]) = A12 at sL2 eL2 ⊢
      refine ⟨L1, L2, _, _, rfl, rfl, (z711.trans sL2) _ _ eL1, eL2, (by rw [hm1]; show 6 + 4 ≤ sizeLine; omega), fun L3 hL3 => ?_⟩
      rw [← List.map_append]
      have sL3 := Same.updf (o := .lst ((m1 ++ [1613, 90, 0, 1]).map V.int)) hL3
      have eL3 : upd A12 L3 (.lst ((m1 ++ [1613, 90, 0, 1]).map V.int)) L3 = some (.lst ((m1 ++ [1613, 90, 0, 1]).map V.int)) := upd_same
      generalize upd A12 L3 (.lst ((m1 ++ [1613, 90, 0, 1]).map V.int)) = A13 at sL3 eL3 ⊢
      refine ⟨_, rfl, _, rfl, _, rfl, _, rfl, _, rfl, _, _, rfl, rfl, (by show 10 ≤ sizeLine; omega), fun L4 hL4 => ?_⟩
      have sL4 := Same.updf (o := .lst [.int (61 * (1 + r1) + 20 * (1 + r2)), .int (1 + r2), .int (1 + r2), .int (1 + r2 - 1), .int 0, .int 0, .int 1613, .int 90, .int 0, .int 1]) hL4
      have eL4 : upd A13 L4 (.lst [.int (61 * (1 + r1) + 20 * (1 + r2)), .int (1 + r2), .int (1 + r2), .int (1 + r2 - 1), .int 0, .int 0, .int 1613, .int 90, .int 0, .int 1]) L4 = some (.lst ((m1 ++ [1613, 90, 0, 1]).map V.int)) := by rw [upd_same, hm1]; rfl
      generalize upd A13 L4 (.lst [.int (61 * (1 + r1) + 20 * (1 + r2)), .int (1 + r2), .int (1 + r2), .int (1 + r2 - 1), .int 0, .int 0, .int 1613, .int 90, .int 0, .int 1]) = A14 at sL4 eL4 ⊢
      have lm : (m1 ++ [1613, 90, 0, 1]).length ≤ 1000 := by rw [hm1]; show 6 + 4 ≤ 1000; decide
      refine ⟨_, _, _, rfl, ints_td 8 (sL4 _ _ eL3) lm, ints_td 8 eL4 lm, fun A15 z15 => ⟨true, rfl, itB (c := true) rfl (fun _ => ?_) (fun z => by cases z)⟩⟩
      have sF : Same G2 A15 := z1.trans (z2.trans (z3.trans (z4.trans (z5.trans (z6.trans (sL1.trans (z711.trans (sL2.trans (sL3.trans (sL4.trans z15))))))))))
      refine ⟨_, rfl, _, rfl, _, _, (fL.same sF).dp, (fK.same sF).dp, shaped_life es, shaped_life es, ?_⟩
      rw [eqv_life]
      exact k _
end
end K36
set_option Elab.async false
set_option linter.all false
set_option maxRecDepth 100000
set_option maxHeartbeats 8000000
/-! What is read of the classes of errors. -/
namespace K36
open PySem PySem.Spec PyProof.Rows L2 KB
theorem oexB_ok {K : PySem.W.Frag} {C : Addr} (q : oexB K C = true) : ∃ nm q N bs bm sn sub ab col dd k0 k1 k2 k3 k5, K.lookup C = some (excClassObj nm q C N bs bm true sn sub ab col dd k0 k1 k2 k3 k5 "ValueError.__new__") ∧ PySem.HandSPX.refsVE bm = true := by
  unfold oexB at q
  split at q
  · rename_i dd cd sl ho
    split at q
    · rename_i C' bm k0 k1 k2 k3 n k5 hm hs
      simp only [Bool.and_eq_true, decide_eq_true_eq, Bool.not_eq_true'] at q
      obtain ⟨rfl, rfl, hdel, hdict, hr⟩ := q
      obtain ⟨nm, bs, mro, ns, qn, hd, sn, sub, ab, col, del⟩ := cd
      dsimp only at hm hdel hdict
      subst hm hdel hdict
      have hsl : sl = #[k0, k1, k2, k3, some (.builtin "ValueError.__new__"), k5] := by
        obtain ⟨l⟩ := sl
        simp only at hs
        rw [hs]
      subst hsl
      exact ⟨_, _, _, _, _, _, _, _, _, _, _, _, _, _, _, ho, hr⟩
    · cases q
  · cases q
def errArgs (a b : Pos) (d : Expr) : Arguments := { posonlyargs := [], args := [{ arg := "self", annotation := none, pos := a }, { arg := "value", annotation := none, pos := b }], vararg := none, kwonlyargs := [], kw_defaults := [], kwarg := none, defaults := [d] }
theorem errB_of {K : PySem.W.Frag} {qual : Str} {body : List Stmt} {scope : Scope} {f : Addr} {fd : FuncData} {a b : Pos} {d : Expr} (F : FunD K "__init__" qual (errArgs a b d) body scope [.non] [] f fd) : ErrB K fd := by
  obtain ⟨ds0, r0, B0⟩ := FunD.binds1 (ps := ["self", "value"]) F 1 0 (List.cons_ne_nil _ _) rfl (fun T kV doc pm an cdv ct us its h1 h2 => match us, its, h1, h2 with | [_], [_], _, _ => ⟨_, rfl, rfl⟩)
  obtain ⟨ds1, r1, B1⟩ := FunD.binds1 (ps := ["self", "value"]) F 2 1 (List.cons_ne_nil _ _) rfl (fun T kV doc pm an cdv ct us its h1 h2 => match us, its, h1, h2 with | [_, _], [_], _, _ => ⟨_, rfl, rfl⟩)
  obtain ⟨itk, Bk⟩ := FunD.kbindsD (ps := ["self", "value"]) F 1 ["value"] (fun us _ zs => us ++ zs) (List.cons_ne_nil _ _) (fun r1 _ r3 => r1.append r3) (fun T kV doc pm an cdv ct us its ws h1 h2 h3 => match us, its, ws, h1, h2, h3 with | [_], [_], [_], _, _, _ => ⟨_, rfl, rfl⟩)
  have e0 : ds0 = [.none] := by
    cases r0 with
    | cons p q =>
      cases q
      cases p
      rfl
  have e1 : ds1 = [] := by
    cases r1
    rfl
  subst e0 e1
  exact ⟨fun s v X => B0 s [v] X rfl, fun s v u X => B1 s [v, u] X rfl, fun s v u X => Bk.to s [v] [u] X rfl rfl⟩
theorem clB_ok {K : PySem.W.Frag} {C I : Addr} (h : clB K C I = true) (o : onceB K = true) : OexC K C ∧ XfC K C ∧ ExcC K C ∧ PySem.W.findIn K (.ref C) "__init__" = some (some (.ref I)) ∧ PySem.W.typeIn K (.ref I) = some (.type "function") := by
  unfold clB at h
  unfold onceB at o
  simp only [Bool.and_eq_true, decide_eq_true_eq] at h o
  obtain ⟨h1, h2, h3, h4, h5, h6, h7, h8, h9, h10, h11, h12⟩ := h
  obtain ⟨o2, o3⟩ := o
  exact ⟨⟨oexB_ok h1, h2, h3, h4, h5⟩, ⟨h6, h7, h3, h8⟩, ⟨h6, h7, h3, h8, h9, o2, o3, h10⟩, h11, h12⟩
theorem kits_ok {K : PySem.W.Frag} {C : Addr} {a b c d : Bool} (h : kits K C a b c d = true) (o : onceB K = true) : ErrC K C (iOf K C) ∧ PySem.W.kitOne K (.ref C) (.ref (cRun K)) = some a ∧ PySem.W.kitOne K (.ref C) (.ref (cCnt K)) = some b ∧ PySem.W.kitOne K (.ref C) (.ref (cMom K)) = some c ∧
    PySem.W.kitOne K (.ref C) (.ref (cFul K)) = some d ∧ PySem.W.kitOne K (.ref C) (.type "ValueError") = some true ∧ PySem.W.exmOne K (.ref C) (.ref (cS K)) = some true := by
  unfold kits at h
  obtain ⟨e1, h⟩ := He.ba h
  obtain ⟨e2, h⟩ := He.ba h
  obtain ⟨e3, h⟩ := He.ba h
  obtain ⟨e4, h⟩ := He.ba h
  obtain ⟨e5, h⟩ := He.ba h
  obtain ⟨e6, h⟩ := He.ba h
  obtain ⟨e7, h⟩ := He.ba h
  obtain ⟨o1, o2, o3, o4, o5⟩ := clB_ok h o
  exact ⟨⟨o1, o2, o3, o4, o5, of_decide_eq_true e6⟩, of_decide_eq_true e1, of_decide_eq_true e2, of_decide_eq_true e3, of_decide_eq_true e4, of_decide_eq_true e5, of_decide_eq_true e7⟩
structure Ex (K : PySem.W.Frag) : Prop where
  T : ∀ e, e < 4 → ErrC K (clsOf K e) (iOf K (clsOf K e))
  kit : ∀ e j, e < 4 → j < 4 → PySem.W.kitOne K (.ref (clsOf K e)) (.ref (clsOf K j)) = some (decide (e = j))
  kv : ∀ e, e < 4 → PySem.W.kitOne K (.ref (clsOf K e)) (.type "ValueError") = some true
  kS : ∀ e, e < 4 → PySem.W.exmOne K (.ref (clsOf K e)) (.ref (cS K)) = some true
  t1 : He.tupB K "LINE" [.str "line"] = true
  t2 : He.tupB K "ROOT" [.str "root"] = true
theorem ex_of {K : PySem.W.Frag} (e : exB K = true) : Ex K := by
  unfold exB at e
  obtain ⟨o, e⟩ := He.ba e
  obtain ⟨k0, e⟩ := He.ba e
  obtain ⟨k1, e⟩ := He.ba e
  obtain ⟨k2, e⟩ := He.ba e
  obtain ⟨k3, e⟩ := He.ba e
  obtain ⟨t1, t2⟩ := He.ba e
  obtain ⟨a1, a2, a3, a4, a5, a6, a7⟩ := kits_ok k0 o
  obtain ⟨b1, b2, b3, b4, b5, b6, b7⟩ := kits_ok k1 o
  obtain ⟨c1, c2, c3, c4, c5, c6, c7⟩ := kits_ok k2 o
  obtain ⟨d1, d2, d3, d4, d5, d6, d7⟩ := kits_ok k3 o
  refine ⟨fun e he => ?_, fun e j he hj => ?_, fun e he => ?_, fun e he => ?_, t1, t2⟩
  · match e, he with
    | 0, _ => exact a1
    | 1, _ => exact b1
    | 2, _ => exact c1
    | 3, _ => exact d1
  · match e, he, j, hj with
    | 0, _, 0, _ => exact a2
    | 0, _, 1, _ => exact a3
    | 0, _, 2, _ => exact a4
    | 0, _, 3, _ => exact a5
    | 1, _, 0, _ => exact b2
    | 1, _, 1, _ => exact b3
    | 1, _, 2, _ => exact b4
    | 1, _, 3, _ => exact b5
    | 2, _, 0, _ => exact c2
    | 2, _, 1, _ => exact c3
    | 2, _, 2, _ => exact c4
    | 2, _, 3, _ => exact c5
    | 3, _, 0, _ => exact d2
    | 3, _, 1, _ => exact d3
    | 3, _, 2, _ => exact d4
    | 3, _, 3, _ => exact d5
  · match e, he with
    | 0, _ => exact a6
    | 1, _ => exact b6
    | 2, _ => exact c6
    | 3, _ => exact d6
  · match e, he with
    | 0, _ => exact a7
    | 1, _ => exact b7
    | 2, _ => exact c7
    | 3, _ => exact d7
def Shp (i : Nat) : Prop := ∃ a b d p1 p2 p3 p4, defArgs (inClass (top i) 0) = errArgs a b d ∧ defBody (inClass (top i) 0) = errBody p1 p2 p3 p4 ∧ defScope (inClass (top i) 0) = errScope
theorem sh2 : Shp 2 := ⟨_, _, _, _, _, _, _, rfl, rfl, rfl⟩
theorem sh3 : Shp 3 := ⟨_, _, _, _, _, _, _, rfl, rfl, rfl⟩
theorem sh4 : Shp 4 := ⟨_, _, _, _, _, _, _, rfl, rfl, rfl⟩
theorem sh5 : Shp 5 := ⟨_, _, _, _, _, _, _, rfl, rfl, rfl⟩
theorem errOk {P : Program} {w : World} {K : PySem.W.Frag} {mg : Str → Option Value} {base : Heap} {x q : Str} {i : Nat} {C : Addr} {fd : FuncData} (sh : Shp i) (F0 : FunD K "__init__" q (defArgs (inClass (top i) 0)) (defBody (inClass (top i) 0)) (defScope (inClass (top i) 0)) [.non] [] (iOf K C) fd) (T : ErrC K C (iOf K C)) (g : mg x = some (.ref C)) :
    ErrOk P w K mg base x C := by
  have F := F0
  obtain ⟨a, b, d, p1, p2, p3, p4, h1, h2, h3⟩ := sh
  rw [h1, h2, h3] at F
  exact ⟨⟨_, _, T, ok_err F T, errB_of F⟩, g⟩
end K36
set_option Elab.async false
set_option linter.all false
set_option maxRecDepth 100000
set_option maxHeartbeats 16000000
/-! The end. -/
namespace K36
open PySem PySem.Spec PyProof.Rows L2 KB
section
variable {P : Program} {w : World} {K : PySem.W.Frag} {h : Heap} {mg : Str → Option Value} {base : Heap}
theorem facM (c : He.SaysD fa fn K) {f : He.Fa} (hf : f ∈ fa) : f.ok K = true := by
  have c1 := (He.ba (show ((fa.all fun f => f.ok K) && fn.all fun d => d.ok K) = true from congrArg (fun z : He.AlD => z.1) c)).1
  exact List.all_eq_true.mp c1 f hf
theorem facts {f : Addr} (X : K.In h) (G : h.Ns mainGlobals mg) (hfa : mg ("law" : Str) = some (.ref f)) (c : He.SaysD fa fn K) (ex : exB K = true) :
    ∃ fd : FuncData, (∀ (s : Shared) (v : Value), BindsTo s fd ⟨[v], []⟩ [("_law_script", v)]) ∧ ∀ base : Heap, K.In base → base.Ns mainGlobals mg → FnOk P w K mg base CX0 14 f fd ["_law_script"] (spLaw K) := by
  obtain ⟨d_is_whole_number, F_is_whole_number⟩ := c.def_ 0 (d := dT 7 "is_whole_number") rfl
  obtain ⟨d_is_count, F_is_count⟩ := c.def_ 1 (d := dT 8 "is_count") rfl
  obtain ⟨d_is_count_below, F_is_count_below⟩ := c.def_ 2 (d := dT 9 "is_count_below") rfl
  obtain ⟨d_is_count_from_one, F_is_count_from_one⟩ := c.def_ 3 (d := dT 10 "is_count_from_one") rfl
  obtain ⟨d_is_tuple_of, F_is_tuple_of⟩ := c.def_ 4 (d := dT 11 "is_tuple_of") rfl
  obtain ⟨d_ascends, F_ascends⟩ := c.def_ 5 (d := dT 12 "ascends") rfl
  obtain ⟨d_are_ascending_counts, F_are_ascending_counts⟩ := c.def_ 6 (d := dT 13 "are_ascending_counts") rfl
  obtain ⟨d_are_ascending_below, F_are_ascending_below⟩ := c.def_ 7 (d := dT 14 "are_ascending_below") rfl
  obtain ⟨d_need_count, F_need_count⟩ := c.def_ 8 (d := dT 16 "need_count") rfl
  obtain ⟨d_need_count_from_one, F_need_count_from_one⟩ := c.def_ 9 (d := dT 17 "need_count_from_one") rfl
  obtain ⟨d_is_stand, F_is_stand⟩ := c.def_ 10 (d := dT 23 "is_stand") rfl
  obtain ⟨d_is_event, F_is_event⟩ := c.def_ 11 (d := dT 24 "is_event") rfl
  obtain ⟨d_is_life, F_is_life⟩ := c.def_ 12 (d := dT 25 "is_life") rfl
  obtain ⟨d_need_life, F_need_life⟩ := c.def_ 13 (d := dT 26 "need_life") rfl
  obtain ⟨d_need_life_and_places, F_need_life_and_places⟩ := c.def_ 14 (d := dT 27 "need_life_and_places") rfl
  obtain ⟨d_need_moment, F_need_moment⟩ := c.def_ 15 (d := dT 28 "need_moment") rfl
  obtain ⟨d_numbers_given_up, F_numbers_given_up⟩ := c.def_ 16 (d := dT 29 "numbers_given_up") rfl
  obtain ⟨d_line_places, F_line_places⟩ := c.def_ 17 (d := dT 30 "line_places") rfl
  obtain ⟨d_given_up, F_given_up⟩ := c.def_ 18 (d := dT 31 "given_up") rfl
  obtain ⟨d_still_needed, F_still_needed⟩ := c.def_ 19 (d := dT 32 "still_needed") rfl
  obtain ⟨d_wanted, F_wanted⟩ := c.def_ 20 (d := dT 33 "wanted") rfl
  obtain ⟨d_fits, F_fits⟩ := c.def_ 21 (d := dT 34 "fits") rfl
  obtain ⟨d_first_full, F_first_full⟩ := c.def_ 22 (d := dT 35 "first_full") rfl
  obtain ⟨d_least_places, F_least_places⟩ := c.def_ 23 (d := dT 36 "least_places") rfl
  obtain ⟨d_spans_of, F_spans_of⟩ := c.def_ 24 (d := dT 37 "spans_of") rfl
  obtain ⟨d_spans_apart, F_spans_apart⟩ := c.def_ 25 (d := dT 38 "spans_apart") rfl
  obtain ⟨d_roots_for, F_roots_for⟩ := c.def_ 26 (d := dT 39 "roots_for") rfl
  obtain ⟨d_apart_lines, F_apart_lines⟩ := c.def_ 27 (d := dT 40 "apart_lines") rfl
  obtain ⟨d_are_apart_lines, F_are_apart_lines⟩ := c.def_ 28 (d := dT 41 "are_apart_lines") rfl
  obtain ⟨d_with_roots, F_with_roots⟩ := c.def_ 29 (d := dT 42 "with_roots") rfl
  obtain ⟨d_is_enough_with, F_is_enough_with⟩ := c.def_ 30 (d := dT 43 "is_enough_with") rfl
  obtain ⟨d_places_with, F_places_with⟩ := c.def_ 31 (d := dT 44 "places_with") rfl
  obtain ⟨d_need_two_counts, F_need_two_counts⟩ := c.def_ 32 (d := dT 45 "need_two_counts") rfl
  obtain ⟨d_disc_cells, F_disc_cells⟩ := c.def_ 33 (d := dT 46 "disc_cells") rfl
  obtain ⟨d_most_places, F_most_places⟩ := c.def_ 34 (d := dT 47 "most_places") rfl
  obtain ⟨d_purse, F_purse⟩ := c.def_ 35 (d := dT 49 "_law_purse") rfl
  obtain ⟨d_mixed, F_mixed⟩ := c.def_ 36 (d := dT 50 "_law_mixed") rfl
  obtain ⟨d_draw, F_draw⟩ := c.def_ 37 (d := dT 51 "_law_draw") rfl
  obtain ⟨d_exact, F_exact⟩ := c.def_ 38 (d := dT 52 "_law_exact") rfl
  obtain ⟨d_is_very, F_is_very⟩ := c.def_ 39 (d := dT 53 "_law_is_very") rfl
  obtain ⟨d_life, F_life⟩ := c.def_ 40 (d := dT 54 "_law_life") rfl
  obtain ⟨d_door, F_door⟩ := c.def_ 41 (d := dT 55 "_law_door") rfl
  obtain ⟨d_by_name, F_by_name⟩ := c.def_ 42 (d := dT 56 "_law_by_name") rfl
  obtain ⟨d_word_of, F_word_of⟩ := c.def_ 43 (d := dT 57 "_law_word_of") rfl
  obtain ⟨d_falls, F_falls⟩ := c.def_ 44 (d := dT 58 "_law_falls") rfl
  obtain ⟨d_lives_fall, F_lives_fall⟩ := c.def_ 45 (d := dT 59 "_law_lives_fall") rfl
  obtain ⟨d_counts_fall, F_counts_fall⟩ := c.def_ 46 (d := dT 60 "_law_counts_fall") rfl
  obtain ⟨d_law, F_law⟩ := c.def_ 47 (d := dT 61 "law") rfl
  have el : ∀ {α : Type} {l : List α} {i : Nat} {a : α}, l[i]? = some a → a ∈ l := fun h => List.mem_of_getElem? h
  have gl : ∀ {x : Str}, He.Fa.glo x ∈ fa0 → mg x = some (.ref (He.ga K x)) := fun {x} hx => He.glo_ok X G (facM c (List.mem_append_left _ hx))
  have fr : ∀ {x : Str}, He.Fa.free x ∈ fa1 → mg x = none := fun {x} hx => He.free_ok X G (facM c (List.mem_append_right _ (List.mem_append_left _ hx)))
  have f2 : ∀ {y : He.Fa}, y ∈ fa2 → y.ok K = true := fun {y} hx => facM c (List.mem_append_right _ (List.mem_append_right _ hx))
  have Z : FreeS mg := ⟨⟨fr (el (i := 0) rfl), fr (el (i := 1) rfl), fr (el (i := 2) rfl), fr (el (i := 3) rfl), fr (el (i := 4) rfl), fr (el (i := 5) rfl), fr (el (i := 6) rfl), fr (el (i := 7) rfl), fr (el (i := 8) rfl), fr (el (i := 9) rfl), fr (el (i := 10) rfl), fr (el (i := 11) rfl), fr (el (i := 12) rfl), fr (el (i := 13) rfl), fr (el (i := 14) rfl), fr (el (i := 15) rfl), fr (el (i := 16) rfl), fr (el (i := 17) rfl)⟩, He.free_ok X G (f2 (y := .free "ValueError") (el (i := 9) rfl)), fr (el (i := 18) rfl), fr (el (i := 19) rfl)⟩
  have g_is_whole_number := gl (x := "is_whole_number") (el (i := 0) rfl)
  have g_is_count := gl (x := "is_count") (el (i := 1) rfl)
  have g_is_count_below := gl (x := "is_count_below") (el (i := 2) rfl)
  have g_is_count_from_one := gl (x := "is_count_from_one") (el (i := 3) rfl)
  have g_is_tuple_of := gl (x := "is_tuple_of") (el (i := 4) rfl)
  have g_ascends := gl (x := "ascends") (el (i := 5) rfl)
  have g_are_ascending_counts := gl (x := "are_ascending_counts") (el (i := 6) rfl)
  have g_are_ascending_below := gl (x := "are_ascending_below") (el (i := 7) rfl)
  have g_need_count := gl (x := "need_count") (el (i := 8) rfl)
  have g_need_count_from_one := gl (x := "need_count_from_one") (el (i := 9) rfl)
  have g_is_stand := gl (x := "is_stand") (el (i := 10) rfl)
  have g_is_event := gl (x := "is_event") (el (i := 11) rfl)
  have g_is_life := gl (x := "is_life") (el (i := 12) rfl)
  have g_need_life := gl (x := "need_life") (el (i := 13) rfl)
  have g_need_life_and_places := gl (x := "need_life_and_places") (el (i := 14) rfl)
  have g_need_moment := gl (x := "need_moment") (el (i := 15) rfl)
  have g_numbers_given_up := gl (x := "numbers_given_up") (el (i := 16) rfl)
  have g_line_places := gl (x := "line_places") (el (i := 17) rfl)
  have g_given_up := gl (x := "given_up") (el (i := 18) rfl)
  have g_still_needed := gl (x := "still_needed") (el (i := 19) rfl)
  have g_wanted := gl (x := "wanted") (el (i := 20) rfl)
  have g_fits := gl (x := "fits") (el (i := 21) rfl)
  have g_first_full := gl (x := "first_full") (el (i := 22) rfl)
  have g_least_places := gl (x := "least_places") (el (i := 23) rfl)
  have g_spans_of := gl (x := "spans_of") (el (i := 24) rfl)
  have g_spans_apart := gl (x := "spans_apart") (el (i := 25) rfl)
  have g_roots_for := gl (x := "roots_for") (el (i := 26) rfl)
  have g_apart_lines := gl (x := "apart_lines") (el (i := 27) rfl)
  have g_are_apart_lines := gl (x := "are_apart_lines") (el (i := 28) rfl)
  have g_with_roots := gl (x := "with_roots") (el (i := 29) rfl)
  have g_is_enough_with := gl (x := "is_enough_with") (el (i := 30) rfl)
  have g_places_with := gl (x := "places_with") (el (i := 31) rfl)
  have g_need_two_counts := gl (x := "need_two_counts") (el (i := 32) rfl)
  have g_disc_cells := gl (x := "disc_cells") (el (i := 33) rfl)
  have g_most_places := gl (x := "most_places") (el (i := 34) rfl)
  have g_purse := gl (x := "_law_purse") (el (i := 35) rfl)
  have g_mixed := gl (x := "_law_mixed") (el (i := 36) rfl)
  have g_draw := gl (x := "_law_draw") (el (i := 37) rfl)
  have g_exact := gl (x := "_law_exact") (el (i := 38) rfl)
  have g_is_very := gl (x := "_law_is_very") (el (i := 39) rfl)
  have g_life := gl (x := "_law_life") (el (i := 40) rfl)
  have g_door := gl (x := "_law_door") (el (i := 41) rfl)
  have g_by_name := gl (x := "_law_by_name") (el (i := 42) rfl)
  have g_word_of := gl (x := "_law_word_of") (el (i := 43) rfl)
  have g_falls := gl (x := "_law_falls") (el (i := 44) rfl)
  have g_lives_fall := gl (x := "_law_lives_fall") (el (i := 45) rfl)
  have g_counts_fall := gl (x := "_law_counts_fall") (el (i := 46) rfl)
  have g_law := gl (x := "law") (el (i := 47) rfl)
  have EX := ex_of ex
  obtain ⟨d_eRun, F_eRun⟩ := c.def_ 48 (d := dE 2 "InvalidRun" "InvalidRun.__init__") rfl
  obtain ⟨d_eMom, F_eMom⟩ := c.def_ 49 (d := dE 3 "InvalidMoment" "InvalidMoment.__init__") rfl
  obtain ⟨d_eCnt, F_eCnt⟩ := c.def_ 50 (d := dE 4 "InvalidCount" "InvalidCount.__init__") rfl
  obtain ⟨d_eFul, F_eFul⟩ := c.def_ 51 (d := dE 5 "Full" "Full.__init__") rfl
  have gRun : mg "InvalidRun" = some (.ref (cRun K)) := He.glo_ok X G (f2 (y := .glo "InvalidRun") (el (i := 2) rfl))
  have gMom : mg "InvalidMoment" = some (.ref (cMom K)) := He.glo_ok X G (f2 (y := .glo "InvalidMoment") (el (i := 3) rfl))
  have gCnt : mg "InvalidCount" = some (.ref (cCnt K)) := He.glo_ok X G (f2 (y := .glo "InvalidCount") (el (i := 4) rfl))
  have gFul : mg "Full" = some (.ref (cFul K)) := He.glo_ok X G (f2 (y := .glo "Full") (el (i := 5) rfl))
  have gS : mg "StoreError" = some (.ref (cS K)) := He.glo_ok X G (f2 (y := .glo "StoreError") (el (i := 6) rfl))
  have gP : ∃ t, mg "PAGE_CELLS" = some (.int 61 t) := He.int_ok X G (f2 (y := .int "PAGE_CELLS" 61) (el (i := 7) rfl))
  have gQ : ∃ t, mg "PLACE_CELLS" = some (.int 20 t) := He.int_ok X G (f2 (y := .int "PLACE_CELLS" 20) (el (i := 8) rfl))
  have gLINE := He.glo_ok X G (f2 (y := .glo "LINE") (el (i := 0) rfl))
  have gROOT := He.glo_ok X G (f2 (y := .glo "ROOT") (el (i := 1) rfl))
  have C : Cn K mg := ⟨gLINE, gROOT, fun H => He.tupB_ok EX.t1 H, fun H => He.tupB_ok EX.t2 H⟩
  have W : ExW K mg := ⟨fun e he => ⟨_, EX.T e he⟩, EX.kit, EX.kv, EX.kS, gRun, gCnt, gMom, gFul, gS⟩
  have e12 := hfa.symm.trans g_law
  cases e12
  have bL := FunD.bindsA (ps := ["_law_script"]) F_law fun _ _ _ _ _ _ us hl => match us, hl with | [_], _ => rfl
  refine ⟨d_law, fun s v => bL s [v] rfl, fun base _ _ => ?_⟩
  have E_run := errOk (P := P) (w := w) (mg := mg) (base := base) (x := "InvalidRun") sh2 F_eRun (EX.T 0 (by decide)) gRun
  have E_cnt := errOk (P := P) (w := w) (mg := mg) (base := base) (x := "InvalidCount") sh4 F_eCnt (EX.T 1 (by decide)) gCnt
  have E_mom := errOk (P := P) (w := w) (mg := mg) (base := base) (x := "InvalidMoment") sh3 F_eMom (EX.T 2 (by decide)) gMom
  have E_ful := errOk (P := P) (w := w) (mg := mg) (base := base) (x := "Full") sh5 F_eFul (EX.T 3 (by decide)) gFul
  have O_is_whole_number := ok_is_whole_number (P := P) (w := w) (base := base) F_is_whole_number Z
  have O_is_count := ok_is_count (P := P) (w := w) (base := base) F_is_count Z g_is_whole_number F_is_whole_number O_is_whole_number 
  have O_is_count_below := ok_is_count_below (P := P) (w := w) (base := base) F_is_count_below Z g_is_count F_is_count O_is_count 
  have O_is_count_from_one := ok_is_count_from_one (P := P) (w := w) (base := base) F_is_count_from_one Z g_is_count F_is_count O_is_count 
  have O_is_tuple_of := ok_is_tuple_of (P := P) (w := w) (base := base) F_is_tuple_of Z  
  have O_ascends := ok_ascends (P := P) (w := w) (base := base) F_ascends Z  
  have O_are_ascending_counts := ok_are_ascending_counts (P := P) (w := w) (base := base) F_are_ascending_counts Z g_ascends F_ascends O_ascends g_is_count F_is_count O_is_count 
  have O_are_ascending_below := ok_are_ascending_below (P := P) (w := w) (base := base) F_are_ascending_below Z g_are_ascending_counts F_are_ascending_counts O_are_ascending_counts 
  have O_need_count := ok_need_count (P := P) (w := w) (base := base) F_need_count Z g_is_count F_is_count O_is_count E_cnt
  have O_need_count_from_one := ok_need_count_from_one (P := P) (w := w) (base := base) F_need_count_from_one Z g_is_count_from_one F_is_count_from_one O_is_count_from_one E_cnt
  have O_is_stand := ok_is_stand (P := P) (w := w) (base := base) F_is_stand Z g_is_tuple_of F_is_tuple_of O_is_tuple_of g_is_count F_is_count O_is_count 
  have O_is_event := ok_is_event (P := P) (w := w) (base := base) F_is_event Z g_is_stand F_is_stand O_is_stand C
  have O_is_life := ok_is_life (P := P) (w := w) (base := base) F_is_life Z g_is_event F_is_event O_is_event C
  have O_need_life := ok_need_life (P := P) (w := w) (base := base) F_need_life Z g_is_life F_is_life O_is_life E_run
  have O_need_life_and_places := ok_need_life_and_places (P := P) (w := w) (base := base) F_need_life_and_places Z g_need_life F_need_life O_need_life g_need_count_from_one F_need_count_from_one O_need_count_from_one 
  have O_need_moment := ok_need_moment (P := P) (w := w) (base := base) F_need_moment Z g_need_life F_need_life O_need_life g_is_count_below F_is_count_below O_is_count_below E_mom
  have O_numbers_given_up := ok_numbers_given_up (P := P) (w := w) (base := base) F_numbers_given_up Z g_is_stand F_is_stand O_is_stand C
  have O_line_places := ok_line_places (P := P) (w := w) (base := base) F_line_places Z  C
  have O_given_up := ok_given_up (P := P) (w := w) (base := base) F_given_up Z g_need_moment F_need_moment O_need_moment g_numbers_given_up F_numbers_given_up O_numbers_given_up 
  have O_still_needed := ok_still_needed (P := P) (w := w) (base := base) F_still_needed Z g_need_moment F_need_moment O_need_moment g_numbers_given_up F_numbers_given_up O_numbers_given_up C
  have O_wanted := ok_wanted (P := P) (w := w) (base := base) F_wanted Z g_numbers_given_up F_numbers_given_up O_numbers_given_up g_line_places F_line_places O_line_places 
  have O_fits := ok_fits (P := P) (w := w) (base := base) F_fits Z g_need_life_and_places F_need_life_and_places O_need_life_and_places g_wanted F_wanted O_wanted 
  have O_first_full := ok_first_full (P := P) (w := w) (base := base) F_first_full Z g_need_life_and_places F_need_life_and_places O_need_life_and_places g_wanted F_wanted O_wanted 
  have O_least_places := ok_least_places (P := P) (w := w) (base := base) F_least_places Z g_need_life F_need_life O_need_life g_numbers_given_up F_numbers_given_up O_numbers_given_up g_line_places F_line_places O_line_places 
  have O_spans_of := ok_spans_of (P := P) (w := w) (base := base) F_spans_of Z g_wanted F_wanted O_wanted g_is_stand F_is_stand O_is_stand 
  have O_spans_apart := ok_spans_apart (P := P) (w := w) (base := base) F_spans_apart Z g_spans_of F_spans_of O_spans_of 
  have O_roots_for := ok_roots_for (P := P) (w := w) (base := base) F_roots_for Z g_need_life_and_places F_need_life_and_places O_need_life_and_places g_spans_apart F_spans_apart O_spans_apart 
  have O_apart_lines := ok_apart_lines (P := P) (w := w) (base := base) F_apart_lines Z g_need_life_and_places F_need_life_and_places O_need_life_and_places g_spans_apart F_spans_apart O_spans_apart E_ful
  have O_are_apart_lines := ok_are_apart_lines (P := P) (w := w) (base := base) F_are_apart_lines Z g_need_life_and_places F_need_life_and_places O_need_life_and_places g_spans_apart F_spans_apart O_spans_apart g_spans_of F_spans_of O_spans_of g_is_count F_is_count O_is_count 
  have O_with_roots := ok_with_roots (P := P) (w := w) (base := base) F_with_roots Z g_need_life F_need_life O_need_life g_are_ascending_below F_are_ascending_below O_are_ascending_below C E_mom
  have O_is_enough_with := ok_is_enough_with (P := P) (w := w) (base := base) F_is_enough_with Z g_spans_apart F_spans_apart O_spans_apart 
  have O_places_with := ok_places_with (P := P) (w := w) (base := base) F_places_with Z g_need_life F_need_life O_need_life g_need_count F_need_count O_need_count g_is_enough_with F_is_enough_with O_is_enough_with C
  have O_need_two_counts := ok_need_two_counts (P := P) (w := w) (base := base) F_need_two_counts Z g_is_count_from_one F_is_count_from_one O_is_count_from_one E_cnt
  have O_disc_cells := ok_disc_cells (P := P) (w := w) (base := base) F_disc_cells Z g_need_two_counts F_need_two_counts O_need_two_counts gP gQ
  have O_most_places := ok_most_places (P := P) (w := w) (base := base) F_most_places Z g_need_two_counts F_need_two_counts O_need_two_counts gP gQ
  have O_purse := ok_purse (P := P) (w := w) (base := base) F_purse Z.toFree
  have O_draw := ok_draw (P := P) (w := w) (base := base) F_draw Z.toFree F_mixed g_mixed
  have O_exact := ok_exact (P := P) (w := w) (base := base) F_exact Z g_exact
  have O_is_very := ok_is_very (P := P) (w := w) (base := base) F_is_very Z g_exact F_exact O_exact 
  have O_life := ok_life (P := P) (w := w) (base := base) F_life Z g_draw F_draw O_draw 
  have O_door := ok_door (P := P) (w := w) (base := base) F_door Z g_are_apart_lines F_are_apart_lines O_are_apart_lines g_disc_cells F_disc_cells O_disc_cells g_most_places F_most_places O_most_places g_least_places F_least_places O_least_places g_with_roots F_with_roots O_with_roots g_places_with F_places_with O_places_with g_fits F_fits O_fits g_first_full F_first_full O_first_full g_roots_for F_roots_for O_roots_for g_apart_lines F_apart_lines O_apart_lines g_given_up F_given_up O_given_up g_still_needed F_still_needed O_still_needed 
  have O_by_name := ok_by_name (P := P) (w := w) (base := base) F_by_name Z g_disc_cells F_disc_cells O_disc_cells g_most_places F_most_places O_most_places g_least_places F_least_places O_least_places g_with_roots F_with_roots O_with_roots g_places_with F_places_with O_places_with g_are_apart_lines F_are_apart_lines O_are_apart_lines g_fits F_fits O_fits g_first_full F_first_full O_first_full g_roots_for F_roots_for O_roots_for g_apart_lines F_apart_lines O_apart_lines g_given_up F_given_up O_given_up g_still_needed F_still_needed O_still_needed 
  have O_word_of := ok_word_of (P := P) (w := w) (base := base) F_word_of Z  W
  have O_falls := ok_falls (P := P) (w := w) (base := base) F_falls Z g_is_very F_is_very O_is_very g_door F_door O_door g_word_of F_word_of O_word_of W
  have O_lives_fall := ok_lives_fall (P := P) (w := w) (base := base) F_lives_fall Z g_is_life F_is_life O_is_life g_falls F_falls O_falls W
  have O_counts_fall := ok_counts_fall (P := P) (w := w) (base := base) F_counts_fall Z g_falls F_falls O_falls W
  exact ok_law F_law Z g_purse F_purse O_purse g_life F_life O_life g_disc_cells F_disc_cells O_disc_cells g_most_places F_most_places O_most_places g_exact F_exact O_exact g_draw F_draw O_draw g_lives_fall F_lives_fall O_lives_fall g_counts_fall F_counts_fall O_counts_fall g_falls F_falls O_falls g_are_apart_lines F_are_apart_lines O_are_apart_lines g_by_name F_by_name O_by_name g_door F_door O_door W
end
end K36
open PySem PySem.W PySem.Calls PyProof.Rows
theorem PySem.Challenge.cw_weavestore_k36_room_refused_and_by_name_holds : PySem.Challenge.rw_weavestore_k36_room_refused_and_by_name.Holds := by
  w_on; o_law
  refine HandSHeadRun.head_any (r := OpenLaw.row PySem.Challenge.rw_weavestore_k36_room_refused_and_by_name) (q := view (OpenLaw.row PySem.Challenge.rw_weavestore_k36_room_refused_and_by_name).prog [61]) (H := K36.hk) (ob := K36.ob) (M := 20000) (loose := K36.names) (d := HandSHeadRun.topDef (OpenLaw.row PySem.Challenge.rw_weavestore_k36_room_refused_and_by_name).prog 61) (kwd := []) K36.ob_eq
    (by kernel_rfl) (fun s => by kernel_rfl) K36.run (by kernel_rfl) (by kernel_rfl) (by kernel_rfl) (by rfl) (by first | assumption | decide +kernel) (by decide +kernel) ⟨rfl, rfl, rfl, rfl, rfl, by decide +kernel⟩ ?hw ?hc
  case hw => w_witness2
  case hc =>
    refine L2.walk_ofE (l := PySem.Challenge.rw_weavestore_k36_room_refused_and_by_name) (n := 63) (k := 14) (x := "_law_script") (CX := L2.CX0) rfl (by decide) (by kernel_rfl) ⟨rfl, by decide, by decide⟩ ?F (fun _ _ _ _ h => h)
    intro w mg fa h Y G hmg0
    obtain ⟨K, KX, c, ex⟩ := Y
    have hmg : mg ("law" : PySem.Str) = some (.ref fa) := by
      have e : (HandSHeadRun.topDef (OpenLaw.row PySem.Challenge.rw_weavestore_k36_room_refused_and_by_name).prog 61).name = ("law" : PySem.Str) := by kernel_rfl
      rw [← e]
      exact hmg0
    obtain ⟨fd, hb, hF⟩ := K36.facts (P := (PySem.Challenge.rw_weavestore_k36_room_refused_and_by_name).prog) (w := w) KX G hmg c ex
    exact ⟨K, fd, K36.spLaw K, KX, hb, fun H a ns hl _ hS => ⟨a, ns, rfl, hS, fun _ => rfl⟩, hF⟩
