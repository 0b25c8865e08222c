import PyProof.Rows.All
import Wide.All
import OpenK.AllK
import Wide.FinOn
import KE.KStateDown
import KE.KIsAll
import HandS.Words
import HandS.Head0
import HandS.Head1
import HandS.Head2
import HandS.HeadHook1
import HandS.HeadHook2
import HandS.HeadHook4
import HandS.HeadWalk
import PySem.Challenge.RW_weavestore_k17_whole_fewest_barriers
import HandS.ForMost
import HandS.Wide
import HandS.WideBits
import HandS.Ends
import HandS.HeadEnd
import HandS.Exc
import HandS.Defaults
import HandS.Walk
import HandS.IsInst
import HandS.Style
import HandS.Zip
import HandS.Conv
import HandS.Deep
import HandS.SortKw
import HandS.SetBool
import HandS.Strs
import PyProof.MinMaxWalk
import PyProof.WalkInts
import HandS.Lambda
import HandS.Dict
import HandS.DictComp
import HandS.Iter
import HandS.DictEq
import HandS.More
import HandS.ListItems
import PyProof.EqAt
import PyProof.EqKinds
import PyProof.TupleCall
import KE.KTryMore
import HandS.ExcInit
import HandS.ExcIs
import HandS.ExcField
import HandS.SortRule
import KE.SortKeyHeap
import KE.SortData
import PyProof.NeData
import PyProof.Rows.SetFrom
import HandS.RevRange
import HandS.NoneIn
set_option Elab.async false
set_option linter.all false
set_option maxRecDepth 100000
set_option maxHeartbeats 0
/-! What is read of the heap that the module's top leaves, and the run of it. -/
namespace K17
open PySem PySem.Spec PyProof.Rows L2
def top (i : Nat) : Stmt := PySem.Challenge.pw_weavestore_k17_whole_fewest_barriers.main.body.getD i (.Pass ⟨0, 0, 0, 0⟩)
def exB (K : PySem.W.Frag) : Bool := true
def dT (i : Nat) (x : Str) : He.DefD := ⟨(x, none), x, x, defArgs (top i), defBody (top i), defScope (top i), [], []⟩
def fn0 : List He.DefD := [dT 5 "is_whole_number", dT 6 "is_count", dT 7 "is_count_below", dT 8 "is_tuple_of", dT 9 "ascends", dT 10 "are_ascending_counts", dT 11 "are_ascending_below", dT 13 "is_event", dT 14 "are_events", dT 15 "need_run", dT 16 "is_wait_of", dT 17 "are_waits_of", dT 18 "need_waits", dT 19 "barriers_ahead", dT 20 "broken_waits"]
def fn1 : List He.DefD := [dT 21 "apart_of", dT 22 "ends_of", dT 23 "many_fewest", dT 24 "reach_from", dT 26 "need_places", dT 27 "is_enough", dT 28 "with_these", dT 29 "barriers_for", dT 30 "many_least", dT 31 "apart_waits", dT 32 "are_apart", dT 34 "_law_purse", dT 35 "_law_mixed", dT 36 "_law_draw", dT 37 "_law_shuffled"]
def fn2 : List He.DefD := [dT 38 "_law_same", dT 39 "_law_exact", dT 40 "_law_event", dT 41 "_law_run", dT 42 "_law_pairs_of", dT 43 "_law_some_waits", dT 44 "_law_is_between", dT 45 "_law_enough", dT 46 "_law_place_lists", dT 47 "_law_fewest", dT 48 "_law_are_own_apart", dT 49 "_law_lists_right", dT 50 "law"]
def fn : List He.DefD := fn0 ++ (fn1 ++ (fn2))
def gn0 : List Str := ["is_whole_number", "is_count", "is_count_below", "is_tuple_of", "ascends", "are_ascending_counts", "are_ascending_below", "is_event", "are_events", "need_run", "is_wait_of", "are_waits_of", "need_waits", "barriers_ahead", "broken_waits"]
def gn1 : List Str := ["apart_of", "ends_of", "many_fewest", "reach_from", "need_places", "is_enough", "with_these", "barriers_for", "many_least", "apart_waits", "are_apart", "_law_purse", "_law_mixed", "_law_draw", "_law_shuffled"]
def gn2 : List Str := ["_law_same", "_law_exact", "_law_event", "_law_run", "_law_pairs_of", "_law_some_waits", "_law_is_between", "_law_enough", "_law_place_lists", "_law_fewest", "_law_are_own_apart", "_law_lists_right", "law"]
def gn : List Str := gn0 ++ (gn1 ++ (gn2))
def fa0 : List He.Fa := gn.map He.Fa.glo
def fa1 : List He.Fa := [.free "sum", .free "int", .free "max", .free "min", .free "len", .free "range", .free "isinstance", .free "all", .free "any", .free "zip", .free "divmod", .free "reversed", .free "enumerate", .free "set", .free "list", .free "tuple", .free "dict", .free "bool", .free "str", .free "sorted"]
def fa2 : List He.Fa := []
def fa : List He.Fa := fa0 ++ (fa1 ++ fa2)
def names0 : List Str := ["StoreError", "InvalidRun", "InvalidMoment", "is_whole_number", "is_count", "is_count_below", "is_tuple_of", "ascends", "are_ascending_counts", "are_ascending_below", "is_event", "are_events", "need_run", "is_wait_of", "are_waits_of"]
def names1 : List Str := ["need_waits", "barriers_ahead", "broken_waits", "apart_of", "ends_of", "many_fewest", "reach_from", "need_places", "is_enough", "with_these", "barriers_for", "many_least", "apart_waits", "are_apart", "_law_purse"]
def names2 : List Str := ["_law_mixed", "_law_draw", "_law_shuffled", "_law_same", "_law_exact", "_law_event", "_law_run", "_law_pairs_of", "_law_some_waits", "_law_is_between", "_law_enough", "_law_place_lists", "_law_fewest", "_law_are_own_apart", "_law_lists_right"]
def names : List Str := names0 ++ (names1 ++ (names2))
abbrev R : PySem.W.OpenRow := PySem.W.OpenLaw.row PySem.Challenge.rw_weavestore_k17_whole_fewest_barriers
abbrev qv : Program := PySem.W.view R.prog [50]
/-- the defs that make a lambda -/
def tf : List He.Defn := [("apart_of", none)]
def hk : PySem.W.Hook := He.hookX 4 fa fn [] tf exB
def ob (s : PySem.W.SharedT) : He.AlX := He.obsX 4 fa fn [] tf exB (HandSHeadRun.getT s)
theorem ob_eq (s : PySem.W.SharedT) : ob s = hk.obs s.abs := He.obsX_eq (HandSHeadRun.getT_eq s)
theorem run (w : World) : HandSHeadRun.RunEq R qv hk ob 20000 names w := by
  intro os
  kernel_rfl
end K17
set_option Elab.async false
set_option linter.all false
set_option maxRecDepth 100000
set_option maxHeartbeats 4000000
/-! What does not speak of a law: purses, what is left as it was, walks. -/
namespace L2
open PySem PySem.Spec PyProof.Rows
theorem Same.updf {H : Hp} {p : Addr} {o : HO} (h : H p = none) : Same H (L2.upd H p o) := fun b o' e => by
  rw [upd_ne (ne_of_none e h)]
  exact e
/-- a comprehension whose turns change nothing that stands: what it gives at each turn, if anything -/
theorem lc_sel {J : It} {n : Nat} {G : Hp → Prop} {Y : Nat → Hp → V → Hp → Prop} (w : Walk J n G Y) {g : TG} {tt : TT} {te : TE} {vs : List Nat} {σ : St} {H1 : Hp} {D : Addr} {Qd : Hp → Prop} (f : Nat → Option V) (hn : n ≤ 100000) (hD : H1 D = none)
    (hG : ∀ H, Same H1 H → G H)
    (hs : ∀ i x H H' (Qy : V → Hp → Prop) (Qn : Hp → Prop), i < n → Same H1 H → Y i H x H' → (∀ y H4, Same H H4 → f i = some y → Qy y H4) → (∀ H4, Same H H4 → f i = none → Qn H4) →
      g x (wipe σ vs) H' fun σ2 H2 => wipe σ2 vs = wipe σ vs ∧ tt σ2 H2 fun b H3 => if b = true then te σ2 H3 Qy else Qn H3)
    (hd : ∀ H, Same H1 H → H D = some (.lst ((List.range n).filterMap f)) → Qd H) :
    ∃ W : Nat → Nat → Hp → Prop, (∃ m, W 0 m (upd H1 D (.lst []))) ∧ ∀ i m H, W i m H →
      (J.stop i H ∧ Qd H) ∨ (J.go i H ∧ ∃ Nx : Hp → Prop, (∀ H', Nx H' → ∃ m', m' < m ∧ W (i + 1) m' H') ∧ ∀ x H', J.yld i H x H' → g x (wipe σ vs) H' fun σ2 H2 => wipe σ2 vs = wipe σ vs ∧ tt σ2 H2 fun b H3 =>
        if b = true then te σ2 H3 fun y H4 => ∃ acc, H4 D = some (.lst acc) ∧ acc.length < sizeLine ∧ Nx (upd H4 D (.lst (acc ++ [y]))) else Nx H3) := by
  refine lc_it w (fun i H => Same H1 H ∧ H D = some (.lst ((List.range i).filterMap f))) ⟨Same.updf hD, upd_same⟩ (fun i H _ h => hG H h.1) (fun i x H H' hi hP hy => ?_) (fun H h => hd H h.1 h.2)
  refine hs i x H H' _ _ hi hP.1 hy (fun y H4 s4 e => ?_) (fun H4 s4 e => ?_)
  · refine ⟨_, s4 _ _ hP.2, ?_, fun b o eb => ?_, ?_⟩
    · have l1 : ((List.range i).filterMap f).length ≤ i := by
        have := List.length_filterMap_le f (List.range i)
        rw [List.length_range] at this
        exact this
      have l2 : (100000 : Nat) < sizeLine := by decide
      omega
    · rw [upd_ne (ne_of_none eb hD)]
      exact s4 _ _ (hP.1 _ _ eb)
    · rw [upd_same, List.range_succ, List.filterMap_append, List.filterMap_cons, e]
      rfl
  · refine ⟨hP.1.trans s4, ?_⟩
    rw [List.range_succ, List.filterMap_append, List.filterMap_cons, e, List.filterMap_nil, List.append_nil]
    exact s4 _ _ hP.2
/-- a pair's two names: the tuple is new -/
theorem pair_st {i j : Nat} {xs ys : Nat → Option V} {t : Nat} {σ : St} {H H' : Hp} {v : V} {Q : St → Hp → Prop} (y : YPair xs ys t H v H') {K : PySem.W.Frag}
    (k : ∀ x z, xs t = some x → ys t = some z → Same H H' → ∃ T, v = .ref T ∧ SqT K H' T [x, z] ∧ Q ((σ.set i (some x)).set j (some z)) H') :
    ∃ x z T, v = .ref T ∧ SqT K H' T [x, z] ∧ Q ((σ.set i (some x)).set j (some z)) H' := by
  obtain ⟨T, x, z, h1, h2, h3, h4, h5⟩ := y
  obtain ⟨T', e1, e2, e3⟩ := k x z h4 h5 (by rw [h3]; exact Same.updf h2)
  exact ⟨x, z, T', e1, e2, e3⟩
end L2
namespace KB
open PySem PySem.Spec PyProof.Rows L2
/-- built-in names that the module leaves free -/
structure Free (mg : Str → Option Value) : Prop where
  sum : mg "sum" = none
  int : mg "int" = none
  max : mg "max" = none
  min : mg "min" = none
  len : mg "len" = none
  range : mg "range" = none
  isi : mg "isinstance" = none
  all : mg "all" = none
  any : mg "any" = none
  zip : mg "zip" = none
  divmod : mg "divmod" = none
  reversed : mg "reversed" = none
  enumerate : mg "enumerate" = none
  tset : mg "set" = none
  tlist : mg "list" = none
  ttuple : mg "tuple" = none
  tdict : mg "dict" = none
  tbool : mg "bool" = none
theorem op_powL {X : Cx} : OpR X (binaryOp .Pow) (rI (fun i n => 0 ≤ n ∧ (Builtin.Int.intBits i : Int) * n ≤ 2 ^ 27) fun i j => .int (i ^ j.toNat)) :=
  opI fun _ _ _ _ _ _ _ hc q => pow_int hc.1 hc.2 q
/-- a purse: what is left of a great number, the seed, how often it was mixed, the place -/
structure Purse (H : Hp) (p : Addr) (N : Nat) : Prop where
  at_ : ∃ A B c i : Int, H p = some (.lst [.int A, .int B, .int c, .int i]) ∧ (0 ≤ B ∧ B < 2147483648) ∧ 0 ≤ A ∧ 0 ≤ c ∧ c ≤ (N : Int)
theorem Purse.mono {H : Hp} {p : Addr} {N M : Nat} (h : Purse H p N) (l : N ≤ M) : Purse H p M := by
  obtain ⟨A, B, c, i, e, hB, h1, h2, h3⟩ := h
  exact ⟨A, B, c, i, e, hB, h1, h2, by omega⟩
theorem Purse.same {H H' : Hp} {p : Addr} {N : Nat} (k : Same H H') (h : Purse H p N) : Purse H' p N := by
  obtain ⟨A, B, c, i, e, r⟩ := h
  exact ⟨A, B, c, i, k _ _ e, r⟩
/-- all but p stands as it did -/
def But (p : Addr) (H H' : Hp) : Prop := ∀ b o, b ≠ p → H b = some o → H' b = some o
theorem But.refl (p : Addr) (H : Hp) : But p H H := fun _ _ _ e => e
theorem But.trans {p : Addr} {H H1 H2 : Hp} (a : But p H H1) (b : But p H1 H2) : But p H H2 := fun x o n e => b x o n (a x o n e)
theorem But.of {p : Addr} {H H' : Hp} (k : Same H H') : But p H H' := fun b o _ e => k b o e
theorem But.upd {p : Addr} {H : Hp} {o : HO} : But p H (L2.upd H p o) := fun b o' n e => by
  rw [upd_ne n]
  exact e
theorem Same.upd {H : Hp} {p : Addr} {o : HO} (h : H p = none) : Same H (L2.upd H p o) := fun b o' e => by
  rw [upd_ne (ne_of_none e h)]
  exact e
theorem cut_map (ns : List Int) (lo hi : Option Int) : cutV (ns.map V.int) lo hi = ((ns.drop (HT.sIx (ns.map V.int).length 0 lo)).take (HT.sIx (ns.map V.int).length (ns.map V.int).length hi - HT.sIx (ns.map V.int).length 0 lo)).map V.int := by
  unfold cutV
  rw [List.map_take, List.map_drop]
def spPurse (K : PySem.W.Frag) : Sp := fun vs H Q _ => ∃ (a : Addr) (ns : List Int) (i : Int), vs = [.ref a, .int i] ∧ SqL K H a (ns.map V.int) ∧
  ∀ p H', Same H H' → H p = none → Purse H' p 0 → Q (.ref p) H'
/-- any rest there is -/
def spMixed : Sp := fun vs H Q _ => ∃ B c i : Int, vs = [.int B, .int c, .int i] ∧ (0 ≤ c ∧ c ≤ 2 ^ 60) ∧ ∀ r : Int, 0 ≤ r → r < 2147483587 → Q (.int r) H
/-- how often a draw of one of m mixes -/
def mixes (m : Int) : Nat := (1 + (Builtin.Int.intBits m : Int) / 28).toNat
def spDraw : Sp := fun vs H Q _ => ∃ (p : Addr) (m : Int) (N : Nat), vs = [.ref p, .int m] ∧ 1 ≤ m ∧ m.natAbs.log2 < 9000 ∧ Purse H p N ∧ N + mixes m ≤ 2 ^ 50 ∧ mixes m ≤ 2 ^ 50 ∧
  ∀ (r : Int) (H' : Hp), 0 ≤ r → r < m → But p H H' → Purse H' p (N + mixes m) → Q (.int r) H'
theorem mixes_one {m : Int} (h0 : 1 ≤ m) (h : m < 2 ^ 27) : mixes m = 1 := by
  have e : Builtin.Int.intBits m ≤ 27 := PyProof.Rows.intBits_le (by omega)
  unfold mixes
  omega
theorem log_small {m : Int} (h0 : 1 ≤ m) (h : m < 2 ^ 27) : m.natAbs.log2 < 9000 := by
  have e : m.natAbs < 2 ^ 27 := by omega
  have := PySem.Flt.log2_lt_of (by decide) e
  omega
theorem But.seq {K : PySem.W.Frag} {p a : Addr} {H H' : Hp} {xs : List V} (k : But p H H') (n : a ≠ p) (h : SqL K H a xs) : SqL K H' a xs := by
  rcases h with (h | ⟨o, h⟩) | h
  · exact .inl (.inl (k _ _ n h))
  · exact .inl (.inr ⟨o, k _ _ n h⟩)
  · exact .inr h
/-- purses(script, 1): the list of one purse -/
def spPurses (K : PySem.W.Frag) : Sp := fun vs H Q _ => ∃ (a : Addr) (ns : List Int), vs = [.ref a, .int 1] ∧ SqL K H a (ns.map V.int) ∧
  ∀ q p H', Same H H' → H p = none → H q = none → p ≠ q → H' q = some (.lst [.ref p]) → Purse H' p 0 → Q (.ref q) H'
def spOne (K : PySem.W.Frag) : Sp := fun vs H Q _ => ∃ (p q : Addr) (xs : List V) (N : Nat), vs = [.ref p, .ref q] ∧ q ≠ p ∧ SqL K H q xs ∧ 1 ≤ xs.length ∧ xs.length ≤ 1000000 ∧ Purse H p N ∧ N ≤ 2 ^ 40 ∧
  ∀ x H', x ∈ xs → But p H H' → Purse H' p (N + 1) → Q x H'

theorem none_back {H H' : Hp} {q : Addr} (k : Same H H') (h : H' q = none) : H q = none := by
  cases e : H q with
  | none => rfl
  | some o =>
    have := k _ _ e
    rw [h] at this
    cases this
theorem mixes_le {m : Int} (h0 : 1 ≤ m) (h : m < 2 ^ 62) : mixes m ≤ 3 := by
  have e : Builtin.Int.intBits m ≤ 62 := PyProof.Rows.intBits_le (by omega)
  unfold mixes
  omega
theorem via_nx {f b c : L2.St → Hp → Prop} {r : VK} {σ : L2.St} {H : Hp} (h : f σ H) : (Ends.mk f r b c).nx σ H := h
theorem via_seq {t u : TS} {D : Ends} {σ : L2.St} {H : Hp} (h : t { D with nx := u D } σ H) : tSeq t u D σ H := h
theorem via_asg {te : TE} {g : TG} {D : Ends} {σ : L2.St} {H : Hp} (h : te σ H fun x H1 => g x σ H1 D.nx) : tAsg te g D σ H := h
theorem fresh_ne {X : Hp} {pu b : Addr} {M : Nat} (h : Purse X pu M) (hb : X b = none) : b ≠ pu := fun e => by
  obtain ⟨A0, B, c, i, e2, _⟩ := h
  rw [e, e2] at hb
  cases hb
theorem But.none {pu b : Addr} {X Y : Hp} (k : But pu X Y) (ne : b ≠ pu) (h : Y b = none) : X b = none := by
  cases e : X b with
  | none => rfl
  | some o =>
    have := k _ _ ne e
    rw [h] at this
    cases this
theorem Purse.same' {H H' : Hp} {p : Addr} {N : Nat} (k : H' p = H p) (h : Purse H p N) : Purse H' p N := by
  obtain ⟨A, B, c, i, e, r⟩ := h
  exact ⟨A, B, c, i, k.trans e, r⟩

/-- a statement that is never come to -/
theorem ps_dead {X : Cx} {st : Stmt} : PS X st (fun _ _ _ => False) := ⟨fun _ _ _ _ _ _ h => h.elim⟩
end KB
set_option Elab.async false
set_option linter.all false
set_option maxRecDepth 100000
set_option maxHeartbeats 4000000
/-! Data on the tracked heap; what is counted; the greatest of a list that may be empty. -/
namespace L2
open PySem PySem.Spec PyProof.Rows
open RZ
theorem walk_zipT {K : PySem.W.Frag} {a b : Addr} {xs ys : List V} {n : Nat} (hn : n = min xs.length ys.length) : Walk (ItzT K a b) n (fun H => SqT K H a xs ∧ SqT K H b ys) (YPair (fun i => xs[i]?) (fun i => ys[i]?)) where
  goes := fun i _ hi q => ⟨xs, ys, xs[i]'(by omega), ys[i]'(by omega), q.1, q.2, List.getElem?_eq_getElem _, List.getElem?_eq_getElem _⟩
  stops := fun _ q => ⟨xs, ys, q.1, q.2, by omega⟩
  yields := fun i H v H' _ q y => by
    obtain ⟨T, x, z, e1, e2, e3, e4, e5⟩ := y
    exact ⟨T, x, z, e1, e2, e3, e4 _ q.1, e5 _ q.2⟩
section
variable {X : Cx}
/-- how often a datum stands in a list of data -/
def rCountD (K : PySem.W.Frag) : V → List V → Hp → VK → Prop := fun x zs H Q => ∃ (a : Addr) (y : V) (d : PyData) (ds : List PyData), x = V.ref a ∧ zs = [y] ∧ Dp K H (V.ref a) (.list ds) ∧ Dp K H y d ∧ SeqAt.shaped (.list ds) = true ∧ SeqAt.shaped d = true ∧
  Q (.int ((ds.countP fun z => PyData.eqv z d : Nat) : Int)) H
theorem mt_countD (hu : X.A.units + 65 < cLine) : MtR X "list.count" (rCountD X.K) := by
  intro pins s σ H x zs v us Q I rx rz h
  obtain ⟨a, y, d, ds, rfl, rfl, hL, hY, sL, sY, q⟩ := h
  obtain ⟨w, rfl, rw'⟩ := rz.one
  cases rx
  obtain ⟨bs, rY⟩ := Dp.reads I d y w hY rw'
  have cL : PyData.canLayAll0 ds = true := SeqAt.canLay_of_shaped sL
  cases hL with
  | lst hs hA =>
    obtain ⟨its, rv, ⟨⟨c0, d0, dat, sl0⟩, k0, hob, hcl, _, hda⟩, _⟩ := I.list hs
    dsimp only at hcl hda
    subst hcl hda
    obtain ⟨as, rA⟩ := Dp.readsAll I ds _ its hA rv
    have em : its.map (SeqAt.readOf s.heap) = ds := SeqAt.readsAll_map ds its as cL rA
    refine call_meets PySem.F.slot_list_count ⟨_, hob, rfl⟩ PySem.F.entry_list_count (PySem.F.args_list_count_2 _ _)
      (SeqAt.list_countAt a its.toArray k0 d0 sl0 w fun u => PyData.eqv (SeqAt.readOf s.heap u) d) ⟨hob, ?_, ?_⟩
    · exact SeqAt.items_eqAt (vs := its.toArray) (show ReadsAll s.heap its.toArray.toList ds as from rA) rY cL (SeqAt.canLay_of_shaped sY) (room_in_shaped sY hu)
    · refine ⟨.int (its.toArray.toList.countP fun u => PyData.eqv (SeqAt.readOf s.heap u) d : Nat), H, I.tok _, ⟨_, rfl⟩, ?_⟩
      have e : ((its.toArray.toList.countP fun u => PyData.eqv (SeqAt.readOf s.heap u) d : Nat) : Int) = ((ds.countP fun z => PyData.eqv z d : Nat) : Int) := by
        rw [← em, List.countP_map]
        rfl
      rw [e]
      exact q
end
end L2
namespace KB
open PySem PySem.Spec PyProof.Rows L2
/-- a value that is no object -/
inductive FlatD : V → PyData → Prop
  | non : FlatD .non .none
  | bl (b : Bool) : FlatD (.bl b) (.bool b)
  | int (i : Int) : FlatD (.int i) (.int i)
  | str (x : Str) : FlatD (.str x) (.str x)
/-- a value that stands for a datum: lists and tuples, each tracked, nested at most so deep -/
def Tr (H : Hp) : Nat → V → PyData → Prop
  | 0, x, d => FlatD x d
  | n + 1, x, d => FlatD x d ∨ ∃ (a : Addr) (xs : List V) (ds : List PyData), x = .ref a ∧ xs.length = ds.length ∧ ds.length ≤ 1000 ∧ ((H a = some (.lst xs) ∧ d = .list ds) ∨ (H a = some (.tup xs) ∧ d = .tuple ds)) ∧
      ∀ (i : Nat) (u : V) (e : PyData), xs[i]? = some u → ds[i]? = some e → Tr H n u e
theorem Tr.same {H H' : Hp} (k : Same H H') : ∀ {n : Nat} {x : V} {d : PyData}, Tr H n x d → Tr H' n x d
  | 0, _, _, h => h
  | n + 1, _, _, h => by
    rcases h with h | ⟨a, xs, ds, e1, e2, e3, e4, e5⟩
    · exact .inl h
    · exact .inr ⟨a, xs, ds, e1, e2, e3, e4.elim (fun z => .inl ⟨k _ _ z.1, z.2⟩) (fun z => .inr ⟨k _ _ z.1, z.2⟩), fun i u e h1 h2 => Tr.same k (e5 i u e h1 h2)⟩
theorem Tr.up {H : Hp} : ∀ {n : Nat} {x : V} {d : PyData}, Tr H n x d → Tr H (n + 1) x d
  | 0, _, _, h => .inl h
  | n + 1, _, _, h => by
    rcases h with h | ⟨a, xs, ds, e1, e2, e3, e4, e5⟩
    · exact .inl h
    · exact .inr ⟨a, xs, ds, e1, e2, e3, e4, fun i u e h1 h2 => Tr.up (e5 i u e h1 h2)⟩
theorem Tr.flat {H : Hp} {n : Nat} {x : V} {d : PyData} (h : FlatD x d) : Tr H n x d := by
  cases n with
  | zero => exact h
  | succ n => exact .inl h
theorem Tr.lst {H : Hp} {n : Nat} {a : Addr} {xs : List V} {ds : List PyData} (h : H a = some (.lst xs)) (l : xs.length = ds.length) (s : ds.length ≤ 1000) (k : ∀ (i : Nat) (u : V) (e : PyData), xs[i]? = some u → ds[i]? = some e → Tr H n u e) : Tr H (n + 1) (.ref a) (.list ds) :=
  .inr ⟨a, xs, ds, rfl, l, s, .inl ⟨h, rfl⟩, k⟩
theorem Tr.tup {H : Hp} {n : Nat} {a : Addr} {xs : List V} {ds : List PyData} (h : H a = some (.tup xs)) (l : xs.length = ds.length) (s : ds.length ≤ 1000) (k : ∀ (i : Nat) (u : V) (e : PyData), xs[i]? = some u → ds[i]? = some e → Tr H n u e) : Tr H (n + 1) (.ref a) (.tuple ds) :=
  .inr ⟨a, xs, ds, rfl, l, s, .inr ⟨h, rfl⟩, k⟩
/-- item by item -/
theorem tr_cons {H : Hp} {n : Nat} {x : V} {xs : List V} {d : PyData} {ds : List PyData} (h : Tr H n x d) (k : ∀ (i : Nat) (u : V) (e : PyData), xs[i]? = some u → ds[i]? = some e → Tr H n u e) : ∀ (i : Nat) (u : V) (e : PyData), (x :: xs)[i]? = some u → (d :: ds)[i]? = some e → Tr H n u e
  | 0, _, _, h1, h2 => by
    obtain rfl := Option.some.inj h1
    obtain rfl := Option.some.inj h2
    exact h
  | i + 1, u, e, h1, h2 => k i u e h1 h2
theorem tr_nil {H : Hp} {n : Nat} : ∀ (i : Nat) (u : V) (e : PyData), ([] : List V)[i]? = some u → ([] : List PyData)[i]? = some e → Tr H n u e := fun i u e h1 h2 => by simp at h1
theorem tr_snoc {H : Hp} {n : Nat} {x : V} {xs : List V} {d : PyData} {ds : List PyData} (l : xs.length = ds.length) (k : ∀ (i : Nat) (u : V) (e : PyData), xs[i]? = some u → ds[i]? = some e → Tr H n u e) (h : Tr H n x d) :
    ∀ (i : Nat) (u : V) (e : PyData), (xs ++ [x])[i]? = some u → (ds ++ [d])[i]? = some e → Tr H n u e := fun i u e h1 h2 => by
  by_cases hi : i < xs.length
  · rw [List.getElem?_append_left hi] at h1
    rw [List.getElem?_append_left (by omega)] at h2
    exact k i u e h1 h2
  · rw [List.getElem?_append_right (by omega)] at h1
    rw [List.getElem?_append_right (by omega)] at h2
    cases hj : i - xs.length with
    | zero =>
      rw [hj] at h1
      rw [show i - ds.length = 0 by omega] at h2
      obtain rfl := Option.some.inj h1
      obtain rfl := Option.some.inj h2
      exact h
    | succ j =>
      rw [hj] at h1
      simp at h1
theorem FlatD.dp {K : PySem.W.Frag} {H : Hp} {x : V} {d : PyData} (h : FlatD x d) : Dp K H x d := by
  cases h
  · exact .non
  · exact .bl _
  · exact .int _
  · exact .str _
theorem dpAll_of {K : PySem.W.Frag} {H : Hp} : ∀ {xs : List V} {ds : List PyData}, xs.length = ds.length → (∀ (i : Nat) (u : V) (e : PyData), xs[i]? = some u → ds[i]? = some e → Dp K H u e) → DpAll K H xs ds
  | [], [], _, _ => .nil
  | [], _ :: _, h, _ => by simp at h
  | _ :: _, [], h, _ => by simp at h
  | x :: xs, d :: ds, h, k => .cons (k 0 x d rfl rfl) (dpAll_of (by simpa using h) fun i u e h1 h2 => k (i + 1) u e h1 h2)
theorem Tr.dp {K : PySem.W.Frag} {H : Hp} : ∀ {n : Nat} {x : V} {d : PyData}, Tr H n x d → Dp K H x d
  | 0, _, _, h => FlatD.dp h
  | n + 1, _, _, h => by
    rcases h with h | ⟨a, xs, ds, rfl, e2, e3, e4, e5⟩
    · exact FlatD.dp h
    · rcases e4 with ⟨h, rfl⟩ | ⟨h, rfl⟩
      · exact .lst (SqL.of h) (dpAll_of e2 fun i u e h1 h2 => (e5 i u e h1 h2).dp)
      · exact .tup (SqT.of h) (dpAll_of e2 fun i u e h1 h2 => (e5 i u e h1 h2).dp)
/-- alike: both stand for one datum -/
def spExact (n : Nat) : Sp := fun vs H Q _ => ∃ (x y : V) (d : PyData), vs = [x, y] ∧ Tr H n x d ∧ Tr H n y d ∧ ∀ H', Same H H' → Q (.bl true) H'
theorem FlatD.ty {K : PySem.W.Frag} {H : Hp} {x : V} {d : PyData} (h : FlatD x d) : ∃ t, TyX K H x (.type t) ∧ kitB t "list" = some false ∧ kitB t "tuple" = some false ∧ kitB t "dict" = some false ∧ ∃ i b, kitB t "int" = some i ∧ kitB t "bool" = some b := by
  cases h with
  | non => exact ⟨"NoneType", .base .non, by decide +kernel, by decide +kernel, by decide +kernel, false, false, by decide +kernel, by decide +kernel⟩
  | bl b => exact ⟨"bool", .base (.bl b), by decide +kernel, by decide +kernel, by decide +kernel, true, true, by decide +kernel, by decide +kernel⟩
  | int i => exact ⟨"int", .base (.int i), by decide +kernel, by decide +kernel, by decide +kernel, true, false, by decide +kernel, by decide +kernel⟩
  | str z => exact ⟨"str", .base (.str z), by decide +kernel, by decide +kernel, by decide +kernel, false, false, by decide +kernel, by decide +kernel⟩
theorem FlatD.scal {x : V} {d : PyData} (h : FlatD x d) : scal x x = true := by
  cases h <;> rfl
theorem FlatD.eq {x y : V} {d : PyData} (h : FlatD x d) (h' : FlatD y d) : x = y := by
  cases h <;> cases h' <;> rfl
theorem FlatD.noL {x : V} {ds : List PyData} (h : FlatD x (.list ds)) : False := nomatch h
theorem FlatD.noT {x : V} {ds : List PyData} (h : FlatD x (.tuple ds)) : False := nomatch h
/-- all of a list that is true at each place -/
theorem all_bits {K : PySem.W.Frag} {n : Nat} {H : Hp} {D : Addr} (hR : H D = some (.lst ((List.range n).filterMap fun _ => some (V.bl true)))) : ∃ bs : List Bool, SqL K H D (bs.map V.bl) ∧ bs.all id = true := by
  refine ⟨List.replicate n true, ?_, ?_⟩
  · have e : ((List.range n).filterMap fun _ => some (V.bl true)) = (List.replicate n true).map V.bl := by
      rw [List.filterMap_eq_map', List.map_const', List.length_range, List.map_replicate]
    rw [e] at hR
    exact SqL.of hR
  · rw [List.all_eq_true]
    intro b hb
    exact (List.eq_of_mem_replicate hb)
end KB
set_option Elab.async false
set_option linter.all false
set_option maxRecDepth 100000
set_option maxHeartbeats 4000000
namespace K17
open PySem PySem.Spec PyProof.Rows L2 KB
abbrev FnP (K : PySem.W.Frag) (x : Str) (st : Stmt) (f : Addr) (fd : FuncData) : Prop := FunD K x x (defArgs st) (defBody st) (defScope st) [] [] f fd
abbrev sPurse : Stmt := top 34
abbrev sMixed : Stmt := top 35
abbrev sDraw : Stmt := top 36
section
variable {P : Program} {w : World} {K : PySem.W.Frag} {mg : Str → Option Value} {base : Heap} {f fM : Addr} {fd fdM : FuncData}
theorem scPurse : FnScope ["_law_script", "_law_at", "_law_seed"] ["_law_script", "_law_at"] (defScope sPurse) := ⟨rfl, rfl, rfl, by decide +kernel, rfl, by decide +kernel, by decide +kernel⟩
theorem ok_purse (F : FnP K "_law_purse" sPurse f fd) (Z : Free mg) : FnOk P w K mg base CX0 1 f fd ["_law_script", "_law_at"] (spPurse K) := by
  refine F.ok scPurse (fun vs H Q E h => ?_) (fun cdv A outer s H vs Q E hr h => ?_)
  · obtain ⟨a, ns, i, rfl, _⟩ := h
    rfl
  · obtain ⟨a, ns, i, rfl, hS, k⟩ := h
    have nd := scPurse.nd
    refine ⟨_, PSs.nox (pss_cons (ps_set (i := 2) nd rfl (Or.inl rfl) (pe_callB (cr_sum rfl) (by rfl) Z.sum (by decide +kernel) (pa_cons (pe_slice sl_list (pv 0) (po_some (pv 1)) (po_some (pe_op op_add (pv 1) pe_int))) pa_nil)))
      (pss_one (ps_ret (pe_lst (pa_cons (pe_op op_mod (pe_callTy call_int1 (by rfl) Z.int (by decide +kernel) (pa_cons (pe_callB (call_max2 rfl) (by rfl) Z.max (by decide +kernel)
          (pa_cons (pe_op op_sub (pv 2) (pe_op op_pow pe_int pe_int)) (pa_cons pe_int pa_nil))) pa_nil)) (pe_op op_powL (pe_op op_pow pe_int pe_int) pe_int))
        (pa_cons (pe_op op_mod (pe_callTy call_int1 (by rfl) Z.int (by decide +kernel) (pa_cons (pv 2) pa_nil)) pe_int) (pa_cons pe_int (pa_cons (pv 1) pa_nil)))))))), ?_⟩
    refine ⟨_, rfl, _, rfl, i, rfl, ?_⟩
    refine ⟨_, rfl, _, _, rfl, rfl, ?_⟩
    refine ⟨i + 1, rfl, a, _, rfl, hS, fun q hq => ?_⟩
    rw [cut_map]
    refine ⟨q, _, rfl, SqL.of upd_same, ?_⟩
    -- the list
    refine ⟨_, rfl, _, _, rfl, rfl, ⟨by decide, by decide, by decide⟩, _, _, rfl, rfl, ?_⟩
    refine ⟨_, _, rfl, Or.inl ⟨_, rfl, ?_⟩⟩
    refine ⟨_, _, rfl, rfl, ⟨by decide, by decide, by decide⟩, ?_⟩
    refine ⟨_, _, rfl, rfl, ⟨by decide, by decide +kernel⟩, ?_⟩
    refine ⟨_, _, rfl, rfl, (by show (0 : Int) < _; decide +kernel), ?_⟩
    refine ⟨_, rfl, Or.inl ⟨_, rfl, ?_⟩⟩
    refine ⟨_, _, rfl, rfl, (by show (0 : Int) < _; decide), ?_⟩
    refine ⟨_, rfl, (by show 4 ≤ sizeLine; decide), fun p hp => ?_⟩
    refine k p _ (Same.trans (Same.upd hq) (Same.upd hp)) ?_ ⟨_, _, 0, i, upd_same, ⟨Int.emod_nonneg _ (by decide), Int.lt_trans (Int.emod_lt_of_pos _ (by decide)) (by decide)⟩, Int.emod_nonneg _ (by decide +kernel), Int.le_refl _, Int.le_refl _⟩
    rw [upd_ne (fun e => by rw [e, upd_same] at hp; cases hp)] at hp
    exact hp
theorem scMixed : FnScope ["_law_seed", "_law_spin", "_law_at", "_law_mixed_here"] ["_law_seed", "_law_spin", "_law_at"] (defScope sMixed) := ⟨rfl, rfl, rfl, by decide +kernel, rfl, by decide +kernel, by decide +kernel⟩
theorem ok_mixed (F : FnP K "_law_mixed" sMixed f fd) (Z : Free mg) : FnOk P w K mg base CX0 1 f fd ["_law_seed", "_law_spin", "_law_at"] spMixed := by
  refine F.ok scMixed (fun vs H Q E h => ?_) (fun cdv A outer s H vs Q E hr h => ?_)
  · obtain ⟨B, c, i, rfl, _⟩ := h
    rfl
  · obtain ⟨B, c, i, rfl, ⟨hc0, hc1⟩, k⟩ := h
    have nd := scMixed.nd
    refine ⟨_, PSs.nox (pss_cons (ps_set (i := 3) nd rfl (Or.inl rfl) (pe_op op_add (pe_op op_mul (pv 0) pe_int) (pe_op op_mul (pe_op op_mul pe_int (pv 1)) (pv 1))))
      (pss_cons (ps_set (i := 3) nd rfl (Or.inl rfl) (pe_op op_mod (pe_callTy call_int1 (by rfl) Z.int (by decide +kernel) (pa_cons (pe_op op_add (pe_op op_add (pv 3) (pe_op op_mul pe_int (pv 2))) (pv 1)) pa_nil)) pe_int))
      (pss_cons (ps_set (i := 3) nd rfl (Or.inl rfl) (pe_op op_mod (pe_callTy call_int1 (by rfl) Z.int (by decide +kernel) (pa_cons (pe_op op_add (pe_op op_mul (pv 3) (pv 3)) pe_int) pa_nil)) pe_int))
      (pss_one (ps_ret (pe_op op_mod (pe_callTy call_int1 (by rfl) Z.int (by decide +kernel) (pa_cons (pe_op op_mul (pv 3) pe_int) pa_nil)) pe_int)))))), ?_⟩
    have c64 : -(2 ^ 64) < c ∧ c < 2 ^ 64 := ⟨by omega, by omega⟩
    refine ⟨_, rfl, _, _, rfl, rfl, Or.inr ⟨by decide, by decide⟩, ?_⟩
    refine ⟨_, rfl, _, _, rfl, rfl, Or.inl ⟨by decide, by decide⟩, ?_⟩
    refine ⟨_, rfl, _, _, rfl, rfl, Or.inr c64, ?_⟩
    refine ⟨_, _, rfl, rfl, ?_⟩
    refine ⟨_, rfl, _, rfl, _, _, rfl, rfl, Or.inl ⟨by decide, by decide⟩, ?_⟩
    refine ⟨_, _, rfl, rfl, _, rfl, _, _, rfl, rfl, ?_⟩
    refine Or.inl ⟨_, rfl, ?_⟩
    refine ⟨_, _, rfl, rfl, (by show (0 : Int) < _; decide), ?_⟩
    generalize hm : (B * 69069 + 104729 * c * c + 7919 * i + c) % 2147483647 = m
    have h1 : 0 ≤ m := by rw [← hm]; exact Int.emod_nonneg _ (by decide)
    have h2 : m < 2147483647 := by rw [← hm]; exact Int.emod_lt_of_pos _ (by decide)
    refine ⟨_, rfl, _, rfl, _, _, rfl, rfl, Or.inl ⟨by omega, by omega⟩, ?_⟩
    refine ⟨_, _, rfl, rfl, Or.inl ⟨_, rfl, ?_⟩⟩
    refine ⟨_, _, rfl, rfl, (by show (0 : Int) < _; decide), ?_⟩
    refine ⟨_, rfl, _, _, rfl, rfl, Or.inr ⟨by decide, by decide⟩, Or.inl ⟨_, rfl, ?_⟩⟩
    refine ⟨_, _, rfl, rfl, (by show (0 : Int) < _; decide), ?_⟩
    exact k _ (Int.emod_nonneg _ (by decide)) (Int.emod_lt_of_pos _ (by decide))
theorem scDraw : FnScope ["_law_purse_here", "_law_many", "_law_drawn", "_law_found", "_law_piece"] ["_law_purse_here", "_law_many"] (defScope sDraw) := ⟨rfl, rfl, rfl, by decide +kernel, rfl, by decide +kernel, by decide +kernel⟩
theorem ok_draw (F : FnP K "_law_draw" sDraw f fd) (Z : Free mg) (FM : FnP K "_law_mixed" sMixed fM fdM) (gM : mg "_law_mixed" = some (.ref fM)) : FnOk P w K mg base CX0 2 f fd ["_law_purse_here", "_law_many"] spDraw := by
  have GM : FnOk P w K mg base CX0 1 fM fdM ["_law_seed", "_law_spin", "_law_at"] spMixed := ok_mixed FM Z
  have bM : Binds K fdM ["_law_seed", "_law_spin", "_law_at"] [] := FM.bindsN fun _ _ _ _ _ _ us hl => match us, hl with | [_, _, _], _ => rfl
  refine F.ok scDraw (fun vs H Q E h => ?_) (fun cdv A outer s H vs Q E hr h => ?_)
  · obtain ⟨p, m, N, rfl, _⟩ := h
    rfl
  · obtain ⟨p, m, N, rfl, hm1, hm2, hP, hN, hN2, k⟩ := h
    obtain ⟨A0, B, c, i, hp, hB, hA, hc, hcN⟩ := id hP
    have nd := scDraw.nd
    refine ⟨_, PSs.nox (pss_cons (ps_if (pt_cmpR op_gt (pe_ix ix_list (pv 0) pe_int (fun _ _ => rfl)) pe_int (nomark _))
        (pss_cons (ps_set (i := 2) nd rfl (Or.inl rfl) (pe_op op_mod (pe_callTy call_int1 (by rfl) Z.int (by decide +kernel) (pa_cons (pe_ix ix_list (pv 0) pe_int (fun _ _ => rfl)) pa_nil)) (pv 1)))
        (pss_cons (ps_asg (pe_op op_fdivW (pe_ix ix_list (pv 0) pe_int (fun _ _ => rfl)) (pv 1)) (pg_sub (pv 0) pe_int set_list))
        (pss_one (ps_ret (pv 2))))) pss_nil)
      (pss_cons (ps_set (i := 3) nd rfl (Or.inl rfl) pe_int)
      (pss_cons (ps_for PassesOwn.never rfl (pi_range1 rfl Z.range (pa_cons (pe_op op_add pe_int (pe_op op_fdiv (pe_bits (pv 1)) pe_int)) pa_nil)) (pg_name (i := 4) nd rfl (Or.inl rfl))
        (pss_cons (ps_asg (pe_op op_add (pe_ix ix_list (pv 0) pe_int (fun _ _ => rfl)) pe_int) (pg_sub (pv 0) pe_int set_list))
        (pss_one (ps_set (i := 3) nd rfl (Or.inl rfl) (pe_op op_add (pe_op op_mul (pv 3) pe_int) (pe_call GM hr rfl gM FM.kp bM .nil pass0
          (pa_cons (pe_ix ix_list (pv 0) pe_int (fun _ _ => rfl)) (pa_cons (pe_ix ix_list (pv 0) pe_int (fun _ _ => rfl)) (pa_cons (pe_ix ix_list (pv 0) pe_int (fun _ _ => rfl)) pa_nil)))))))))
      (pss_one (ps_ret (pe_op op_mod (pe_callTy call_int1 (by rfl) Z.int (by decide +kernel) (pa_cons (pv 3) pa_nil)) (pv 1))))))), ?_⟩
    -- if purse[0] > 0
    refine ⟨_, rfl, p, _, 0, .int A0, rfl, rfl, SqL.of hp, rfl, ?_⟩
    refine ⟨_, _, rfl, rfl, _, rfl, ?_⟩
    refine ite2 (fun hpos => ?_) (fun hneg => ?_)
    · refine ⟨_, rfl, p, _, 0, .int A0, rfl, rfl, SqL.of hp, rfl, Or.inl ⟨_, rfl, ?_⟩⟩
      refine ⟨_, rfl, _, _, rfl, rfl, (by show (0 : Int) < m; omega), ?_⟩
      refine ⟨_, rfl, p, _, 0, .int A0, rfl, rfl, SqL.of hp, rfl, ?_⟩
      refine ⟨_, rfl, _, _, rfl, rfl, ⟨by omega, hm2⟩, ?_⟩
      refine ⟨_, rfl, p, _, 0, 0, rfl, rfl, hp, rfl, ?_⟩
      refine ⟨_, rfl, ?_⟩
      refine k _ _ (Int.emod_nonneg _ (by omega)) (Int.emod_lt_of_pos _ (by omega)) But.upd ⟨A0 / m, B, c, i, upd_same, hB, Int.ediv_nonneg hA (by omega), hc, by omega⟩
    · -- found = 0; for piece in range(..)
      have hb : (0 : Int) ≤ 1 + (Builtin.Int.intBits m : Int) / 28 := by omega
      have hM : ((mixes m : Nat) : Int) = 1 + (Builtin.Int.intBits m : Int) / 28 := by
        unfold mixes
        exact Int.toNat_of_nonneg hb
      refine ⟨_, rfl, _, rfl, _, _, rfl, rfl, ⟨by decide, by decide⟩, _, _, rfl, rfl, ?_⟩
      refine ⟨1 + (Builtin.Int.intBits m : Int) / 28, rfl, by omega, by omega, ?_⟩
      refine for_range (lo := 0) (n := (1 + (Builtin.Int.intBits m : Int) / 28).toNat) (fun j σ H2 => ∃ (g : Int) (v2 v4 : Option V), σ = [some (.ref p), some (.int m), v2, some (.int g), v4] ∧ But p H H2 ∧
          ∃ c' : Int, H2 p = some (.lst [.int A0, .int B, .int c', .int i]) ∧ 0 ≤ c' ∧ c' ≤ (N : Int) + (j : Int))
        ⟨0, none, none, rfl, But.refl _ _, c, hp, hc, by omega⟩ ?_ ?_
      · rintro j σ H2 hj ⟨g, v2, v4, rfl, kb, c', hp2, h0, h1⟩
        have hj2 : (j : Int) < 2 ^ 50 := by
          have : j < mixes m := hj
          omega
        refine ⟨_, rfl, p, _, 2, .int c', rfl, rfl, SqL.of hp2, rfl, ?_⟩
        refine ⟨_, _, rfl, rfl, ?_⟩
        refine ⟨_, rfl, p, _, 2, 2, rfl, rfl, hp2, rfl, ?_⟩
        have hp3 : (L2.upd H2 p (.lst (List.set [V.int A0, .int B, .int c', .int i] 2 (.int (c' + 1))))) p = some (.lst [.int A0, .int B, .int (c' + 1), .int i]) := upd_same
        refine ⟨_, rfl, _, _, rfl, rfl, Or.inr ⟨by decide, by decide⟩, ?_⟩
        refine ⟨_, rfl, p, _, 1, .int B, rfl, rfl, SqL.of hp3, rfl, ?_⟩
        refine ⟨_, rfl, p, _, 2, .int (c' + 1), rfl, rfl, SqL.of hp3, rfl, ?_⟩
        refine ⟨_, rfl, p, _, 3, .int i, rfl, rfl, SqL.of hp3, rfl, ?_⟩
        refine ⟨B, c' + 1, i, rfl, ⟨by omega, by omega⟩, fun r hr0 hr1 => ?_⟩
        refine ⟨_, _, rfl, rfl, ?_⟩
        exact ⟨_, v2, _, rfl, But.trans kb But.upd, c' + 1, hp3, by omega, by omega⟩
      · rintro σ H2 ⟨g, v2, v4, rfl, kb, c', hp2, h0, h1⟩
        refine ⟨_, rfl, Or.inl ⟨_, rfl, ?_⟩⟩
        refine ⟨_, rfl, _, _, rfl, rfl, (by show (0 : Int) < m; omega), ?_⟩
        refine k _ _ (Int.emod_nonneg _ (by omega)) (Int.emod_lt_of_pos _ (by omega)) kb ⟨A0, B, c', i, hp2, hB, hA, h0, ?_⟩
        have : ((N + mixes m : Nat) : Int) = (N : Int) + (mixes m : Int) := by omega
        rw [this]
        exact h1
end
abbrev s_purse := sPurse
abbrev s_mixed := sMixed
abbrev s_draw := sDraw
end K17
set_option linter.all false
/-! Stabbing stretches by moments: theory alone. -/
namespace K17
/-- a moment serves a stretch -/
def stab (p : Nat) (w : Nat × Nat) : Bool := decide (w.1 < p) && decide (p ≤ w.2)
theorem stab_iff {p : Nat} {w : Nat × Nat} : stab p w = true ↔ w.1 < p ∧ p ≤ w.2 := by
  unfold stab
  rw [Bool.and_eq_true, decide_eq_true_eq, decide_eq_true_eq]
def served (ws : List (Nat × Nat)) (P : List Nat) : Bool := ws.all fun w => P.any fun p => stab p w
theorem served_iff {ws : List (Nat × Nat)} {P : List Nat} : served ws P = true ↔ ∀ w ∈ ws, ∃ p ∈ P, w.1 < p ∧ p ≤ w.2 := by
  unfold served
  rw [List.all_eq_true]
  refine forall_congr' fun w => imp_congr_right fun _ => ?_
  rw [List.any_eq_true]
  exact ⟨fun ⟨p, h, s⟩ => ⟨p, h, stab_iff.mp s⟩, fun ⟨p, h, s⟩ => ⟨p, h, stab_iff.mpr s⟩⟩
/-- stretches apart, picked from those in the order of their ends -/
def greedy : Nat → List (Nat × Nat) → List (Nat × Nat)
  | _, [] => []
  | z, w :: r => if z ≤ w.1 then w :: greedy w.2 r else greedy z r
def byEnd (ws : List (Nat × Nat)) : List (Nat × Nat) := ws.mergeSort fun u v => decide (u.2 ≤ v.2)
def apart (ws : List (Nat × Nat)) : List (Nat × Nat) := greedy 0 (byEnd ws)
def ends (ws : List (Nat × Nat)) : List Nat := (apart ws).map (·.2)
theorem greedy_sub : ∀ (ws : List (Nat × Nat)) (z : Nat), (greedy z ws).Sublist ws
  | [], _ => List.Sublist.refl _
  | w :: r, z => by
    unfold greedy
    split
    · exact (greedy_sub r _).cons_cons w
    · exact (greedy_sub r z).cons w
theorem byEnd_sorted (ws : List (Nat × Nat)) : (byEnd ws).Pairwise fun u v => u.2 ≤ v.2 := by
  have h := List.pairwise_mergeSort (le := fun u v : Nat × Nat => decide (u.2 ≤ v.2)) (fun a b c h1 h2 => by
    simp only [decide_eq_true_eq] at *
    omega) (fun a b => by
    simp only [Bool.or_eq_true, decide_eq_true_eq]
    omega) ws
  exact h.imp fun h => of_decide_eq_true h
theorem byEnd_mem {ws : List (Nat × Nat)} {w : Nat × Nat} : w ∈ byEnd ws ↔ w ∈ ws := List.mem_mergeSort
theorem greedy_stabs : ∀ {ws : List (Nat × Nat)} {z : Nat}, (∀ w ∈ ws, w.1 < w.2) → ws.Pairwise (fun u v => u.2 ≤ v.2) → ∀ w ∈ ws, w.1 < z ∨ ∃ g ∈ greedy z ws, w.1 < g.2 ∧ g.2 ≤ w.2
  | [], _, _, _, w, h => nomatch h
  | x :: r, z, hl, hp, w, hw => by
    obtain ⟨h1, h2⟩ := List.pairwise_cons.mp hp
    have hl' : ∀ w ∈ r, w.1 < w.2 := fun w h => hl w (.tail _ h)
    unfold greedy
    by_cases hz : z ≤ x.1
    · rw [if_pos hz]
      rcases List.mem_cons.mp hw with rfl | hw
      · exact .inr ⟨w, .head _, hl w (.head _), Nat.le_refl _⟩
      · rcases greedy_stabs (z := x.2) hl' h2 w hw with h | ⟨g, hg, q⟩
        · exact .inr ⟨x, .head _, h, h1 w hw⟩
        · exact .inr ⟨g, .tail _ hg, q⟩
    · rw [if_neg hz]
      rcases List.mem_cons.mp hw with rfl | hw
      · exact .inl (by omega)
      · exact greedy_stabs hl' h2 w hw
/-- one behind the other -/
def Chain : Nat → List (Nat × Nat) → Prop
  | _, [] => True
  | z, w :: r => z ≤ w.1 ∧ w.1 < w.2 ∧ Chain w.2 r
theorem greedy_chain : ∀ {ws : List (Nat × Nat)} {z : Nat}, (∀ w ∈ ws, w.1 < w.2) → Chain z (greedy z ws)
  | [], _, _ => trivial
  | x :: r, z, hl => by
    have hl' : ∀ w ∈ r, w.1 < w.2 := fun w h => hl w (.tail _ h)
    unfold greedy
    by_cases hz : z ≤ x.1
    · rw [if_pos hz]
      exact ⟨hz, hl x (.head _), greedy_chain hl'⟩
    · rw [if_neg hz]
      exact greedy_chain hl'
theorem chain_mono : ∀ {G : List (Nat × Nat)} {z y : Nat}, y ≤ z → Chain z G → Chain y G
  | [], _, _, _, _ => trivial
  | w :: r, z, y, h, ⟨a, b, c⟩ => ⟨by omega, b, c⟩
theorem chain_lt : ∀ {G : List (Nat × Nat)} {z : Nat}, Chain z G → ∀ g ∈ G, z ≤ g.1 ∧ g.1 < g.2
  | [], _, _, g, h => nomatch h
  | w :: r, z, ⟨a, b, c⟩, g, h => by
    rcases List.mem_cons.mp h with rfl | h
    · exact ⟨a, b⟩
    · have := chain_lt c g h
      exact ⟨by omega, this.2⟩
theorem chain_ends : ∀ {G : List (Nat × Nat)} {z : Nat}, Chain z G → (G.map (·.2)).Pairwise (· < ·)
  | [], _, _ => .nil
  | w :: r, z, ⟨a, b, c⟩ => by
    rw [List.map_cons, List.pairwise_cons]
    refine ⟨fun q hq => ?_, chain_ends c⟩
    obtain ⟨g, hg, rfl⟩ := List.mem_map.mp hq
    have := chain_lt c g hg
    omega
/-- ascending moments that serve a chain: as many, and none behind the chain's ends -/
theorem chain_le : ∀ {G : List (Nat × Nat)} {P : List Nat} {z : Nat}, Chain z G → P.Pairwise (· < ·) → (∀ g ∈ G, ∃ p ∈ P, g.1 < p ∧ p ≤ g.2) →
    G.length ≤ P.length ∧ (P.length = G.length → ∀ (i p : Nat) (g : Nat × Nat), P[i]? = some p → G[i]? = some g → p ≤ g.2)
  | [], P, _, _, _, _ => ⟨Nat.zero_le _, fun _ i p g _ h => by simp at h⟩
  | g :: r, [], _, _, _, hs => by
    obtain ⟨p, h, _⟩ := hs g (.head _)
    cases h
  | g :: r, x :: P, z, hc, hp, hs => by
    obtain ⟨h1, h2⟩ := List.pairwise_cons.mp hp
    obtain ⟨c1, c2, c3⟩ := hc
    by_cases hx : g.1 < x
    · have hx2 : x ≤ g.2 := by
        obtain ⟨p, hp, q⟩ := hs g (.head _)
        rcases List.mem_cons.mp hp with rfl | hp
        · exact q.2
        · have := h1 p hp
          omega
      obtain ⟨a, b⟩ := chain_le (P := P) c3 h2 fun g' hg' => by
        obtain ⟨p, hp, q⟩ := hs g' (.tail _ hg')
        have := chain_lt c3 g' hg'
        rcases List.mem_cons.mp hp with rfl | hp
        · omega
        · exact ⟨p, hp, q⟩
      refine ⟨by rw [List.length_cons, List.length_cons]; omega, fun e i p g' e1 e2 => ?_⟩
      cases i with
      | zero => cases e1; cases e2; exact hx2
      | succ i => exact b (by rw [List.length_cons, List.length_cons] at e; omega) i p g' e1 e2
    · have hs' : ∀ g' ∈ g :: r, ∃ p ∈ P, g'.1 < p ∧ p ≤ g'.2 := fun g' hg' => by
        obtain ⟨p, hp, q⟩ := hs g' hg'
        rcases List.mem_cons.mp hp with rfl | hp
        · rcases List.mem_cons.mp hg' with rfl | hg'
          · omega
          · have := chain_lt c3 g' hg'
            omega
        · exact ⟨p, hp, q⟩
      obtain ⟨a, b⟩ := chain_le (G := g :: r) (P := P) (z := z) ⟨c1, c2, c3⟩ h2 hs'
      rw [List.length_cons] at a
      exact ⟨by rw [List.length_cons, List.length_cons]; omega, fun e => by rw [List.length_cons, List.length_cons] at e; omega⟩
termination_by G P => G.length + P.length
section
variable {ws : List (Nat × Nat)} (hl : ∀ w ∈ ws, w.1 < w.2)
include hl
theorem apart_chain : Chain 0 (apart ws) := greedy_chain fun w h => hl w (byEnd_mem.mp h)
theorem ends_serve : served ws (ends ws) = true := by
  rw [served_iff]
  intro w hw
  rcases greedy_stabs (z := 0) (fun w h => hl w (byEnd_mem.mp h)) (byEnd_sorted ws) w (byEnd_mem.mpr hw) with h | ⟨g, hg, q⟩
  · omega
  · exact ⟨g.2, List.mem_map.mpr ⟨g, hg, rfl⟩, q⟩
theorem apart_mem {g : Nat × Nat} (h : g ∈ apart ws) : g ∈ ws := byEnd_mem.mp ((greedy_sub _ 0).subset h)
theorem ends_asc : (ends ws).Pairwise (· < ·) := chain_ends (apart_chain hl)
theorem ends_least {P : List Nat} (hp : P.Pairwise (· < ·)) (hs : served ws P = true) : (ends ws).length ≤ P.length ∧ (P.length = (ends ws).length → ∀ (i p q : Nat), P[i]? = some p → (ends ws)[i]? = some q → p ≤ q) := by
  have h := chain_le (apart_chain hl) hp fun g hg => served_iff.mp hs g (apart_mem hl hg)
  unfold ends
  rw [List.length_map]
  refine ⟨h.1, fun e i p q e1 e2 => ?_⟩
  rw [List.getElem?_map] at e2
  cases hg : (apart ws)[i]? with
  | none => rw [hg] at e2; cases e2
  | some g =>
    rw [hg] at e2
    cases e2
    exact h.2 e i p g e1 hg
end
end K17
set_option linter.all false
/-! Runs: barriers put in and left out: theory alone. -/
namespace K17
/-- an event of a run -/
inductive Ev where
  | wr (c : Nat)
  | bar
  | tell
deriving DecidableEq
def isB (es : List Ev) (i : Nat) : Bool := decide (es[i]? = some .bar)
def bars (es : List Ev) : List Nat := (List.range es.length).filter (isB es)
/-- how many barriers stand ahead of a place -/
def ahead (es : List Ev) (i : Nat) : Nat := (es.take i).countP fun e => decide (e = .bar)
theorem ahead_zero (es : List Ev) : ahead es 0 = 0 := rfl
theorem ahead_succ (es : List Ev) (i : Nat) : ahead es (i + 1) = ahead es i + (if isB es i = true then 1 else 0) := by
  unfold ahead isB
  rw [List.take_succ, List.countP_append]
  congr 1
  cases es[i]? with
  | none => rfl
  | some e =>
    show List.countP _ [e] = _
    rw [List.countP_cons, List.countP_nil]
    by_cases h : e = .bar
    · subst h
      rfl
    · simp [h]
theorem ahead_mono (es : List Ev) {a b : Nat} (h : a ≤ b) : ahead es a ≤ ahead es b := by
  induction b with
  | zero =>
    obtain rfl : a = 0 := by omega
    exact Nat.le_refl _
  | succ b ih =>
    by_cases e : a = b + 1
    · rw [e]; exact Nat.le_refl _
    · rw [ahead_succ]
      have := ih (by omega)
      omega
theorem isB_lt {es : List Ev} {i : Nat} (h : isB es i = true) : i < es.length := by
  unfold isB at h
  have := of_decide_eq_true h
  rcases Nat.lt_or_ge i es.length with q | q
  · exact q
  · rw [List.getElem?_eq_none q] at this
    cases this
theorem ahead_lt {es : List Ev} {a b : Nat} : ahead es a < ahead es b ↔ ∃ i, a ≤ i ∧ i < b ∧ isB es i = true := by
  constructor
  · intro h
    induction b with
    | zero =>
      rw [ahead_zero] at h
      omega
    | succ b ih =>
      by_cases q : isB es b = true
      · by_cases hab : a ≤ b
        · exact ⟨b, hab, by omega, q⟩
        · have := ahead_mono es (show b + 1 ≤ a by omega)
          omega
      · rw [ahead_succ, if_neg q] at h
        obtain ⟨i, h1, h2, h3⟩ := ih h
        exact ⟨i, h1, by omega, h3⟩
  · rintro ⟨i, h1, h2, h3⟩
    have q1 := ahead_mono es h1
    have q2 := ahead_mono es (show i + 1 ≤ b by omega)
    rw [ahead_succ, if_pos h3] at q2
    omega
theorem range_filter_len (es : List Ev) : ∀ i, ((List.range i).filter (isB es)).length = ahead es i
  | 0 => rfl
  | i + 1 => by
    rw [List.range_succ, List.filter_append, List.length_append, range_filter_len es i, ahead_succ]
    by_cases q : isB es i = true
    · rw [if_pos q, List.filter_cons, if_pos q]
      rfl
    · rw [if_neg q, List.filter_cons, if_neg q]
      rfl
theorem bars_len (es : List Ev) : (bars es).length = ahead es es.length := range_filter_len es _
theorem bars_get {es : List Ev} {p : Nat} (h : isB es p = true) : (bars es)[ahead es p]? = some p := by
  have hl := isB_lt h
  unfold bars
  have e : List.range es.length = List.range p ++ (p :: (List.range (es.length - p - 1)).map (· + (p + 1))) := by
    apply List.ext_getElem
    · simp
      omega
    · intro i h1 h2
      rw [List.getElem_range]
      rcases Nat.lt_or_ge i p with q | q
      · rw [List.getElem_append_left (by simpa using q), List.getElem_range]
      · rw [List.getElem_append_right (by simpa using q)]
        simp only [List.length_range]
        rcases Nat.lt_or_ge p i with q2 | q2
        · obtain ⟨k, rfl⟩ : ∃ k, i = p + (k + 1) := ⟨i - p - 1, by omega⟩
          simp only [show p + (k + 1) - p = k + 1 by omega, List.getElem_cons_succ, List.getElem_map, List.getElem_range]
          omega
        · obtain rfl : i = p := by omega
          simp
  rw [e, List.filter_append, List.filter_cons, if_pos h, List.getElem?_append_right (by rw [range_filter_len]; exact Nat.le_refl _), range_filter_len, Nat.sub_self]
  rfl
theorem mem_bars {es : List Ev} {p : Nat} : p ∈ bars es ↔ isB es p = true := by
  unfold bars
  rw [List.mem_filter, List.mem_range]
  exact ⟨fun h => h.2, fun h => ⟨isB_lt h, h⟩⟩
theorem bars_asc (es : List Ev) : (bars es).Pairwise (· < ·) := List.Pairwise.filter _ List.pairwise_lt_range
/-- a wait of a run -/
structure WaitOk (es : List Ev) (w : Nat × Nat) : Prop where
  lt : w.1 < w.2
  len : w.2 < es.length
  ev : ∃ c, es[w.1]? = some (.wr c) ∧ (es[w.2]? = some .tell ∨ ∃ c', es[w.2]? = some (.wr c') ∧ c' ≠ c)
theorem WaitOk.fst {es : List Ev} {w : Nat × Nat} (h : WaitOk es w) : isB es w.1 = false := by
  obtain ⟨c, h, _⟩ := h.ev
  unfold isB
  rw [h]
  rfl
theorem WaitOk.snd {es : List Ev} {w : Nat × Nat} (h : WaitOk es w) : isB es w.2 = false := by
  obtain ⟨c, _, h | ⟨c', h, _⟩⟩ := h.ev <;> (unfold isB; rw [h]; rfl)
def lexP (u v : Nat × Nat) : Prop := u.1 < v.1 ∨ u.1 = v.1 ∧ u.2 < v.2
structure WaitsOk (es : List Ev) (ws : List (Nat × Nat)) : Prop where
  ok : ∀ w ∈ ws, WaitOk es w
  asc : ws.Pairwise lexP
def keptL (es : List Ev) (ws : List (Nat × Nat)) : List (Nat × Nat) := ws.filter fun w => decide (ahead es w.1 < ahead es w.2)
def brokenL (es : List Ev) (ws : List (Nat × Nat)) : List (Nat × Nat) := ws.filter fun w => decide (ahead es w.1 = ahead es w.2)
/-! barriers put in -/
def wr (es : List Ev) (P : List Nat) : Nat → List Ev
  | 0 => []
  | i + 1 => wr es P i ++ (if P.contains i then [Ev.bar] else []) ++ es[i]?.toList
def pre (es : List Ev) (P : List Nat) (i : Nat) : List Ev := wr es P i ++ (if P.contains i then [Ev.bar] else [])
theorem wr_succ (es : List Ev) (P : List Nat) (i : Nat) : wr es P (i + 1) = pre es P i ++ es[i]?.toList := rfl
/-- the new place -/
def sent (P : List Nat) (i : Nat) : Nat := i + (P.filter fun p => decide (p < i + 1)).length
theorem cnt_succ {P : List Nat} (nd : P.Nodup) (i : Nat) : (P.filter fun p => decide (p < i + 1)).length = (P.filter fun p => decide (p < i)).length + (if P.contains i then [Ev.bar] else []).length := by
  induction P with
  | nil => rfl
  | cons x r ih =>
    obtain ⟨h1, h2⟩ := List.nodup_cons.mp nd
    have ih := ih h2
    rw [List.filter_cons, List.filter_cons, List.contains_cons]
    by_cases e : x = i
    · subst e
      have hc : r.contains x = false := by
        rw [← Bool.not_eq_true, List.contains_iff_mem]
        exact h1
      rw [hc] at ih
      simp at ih ⊢
      omega
    · have e2 : (i == x) = false := by
        rw [beq_eq_false_iff_ne]
        exact fun z => e z.symm
      rw [e2, Bool.false_or]
      by_cases l : x < i
      · rw [if_pos (decide_eq_true (show x < i + 1 by omega)), if_pos (decide_eq_true l), List.length_cons, List.length_cons, ih]
        omega
      · rw [if_neg (by rw [decide_eq_true_eq]; omega), if_neg (by rw [decide_eq_true_eq]; omega), ih]
theorem wr_len {es : List Ev} {P : List Nat} (nd : P.Nodup) : ∀ i, i ≤ es.length → (wr es P i).length = i + (P.filter fun p => decide (p < i)).length
  | 0, _ => by
    show 0 = 0 + _
    rw [List.filter_eq_nil_iff.mpr (fun p _ => by rw [decide_eq_true_eq]; omega)]
    rfl
  | i + 1, h => by
    rw [wr_succ, List.length_append, List.getElem?_eq_getElem (by omega)]
    unfold pre
    rw [List.length_append, wr_len nd i (by omega), cnt_succ nd i]
    show _ + 1 = _
    omega
theorem pre_len {es : List Ev} {P : List Nat} (nd : P.Nodup) {i : Nat} (h : i ≤ es.length) : (pre es P i).length = sent P i := by
  unfold pre sent
  rw [List.length_append, wr_len nd i h, cnt_succ nd i]
  omega
theorem wr_pre {es : List Ev} {P : List Nat} {i : Nat} : ∀ {n : Nat}, i ≤ n → ∃ r, wr es P n = wr es P i ++ r
  | n, h => by
    induction n with
    | zero =>
      obtain rfl : i = 0 := by omega
      exact ⟨[], rfl⟩
    | succ n ih =>
      by_cases e : i = n + 1
      · subst e
        exact ⟨[], (List.append_nil _).symm⟩
      · obtain ⟨r, hr⟩ := ih (by omega)
        exact ⟨r ++ (if P.contains n then [Ev.bar] else []) ++ es[n]?.toList, by rw [wr_succ]; unfold pre; rw [hr]; simp [List.append_assoc]⟩
theorem pre_pre {es : List Ev} {P : List Nat} {i n : Nat} (h : i < n) : ∃ r, wr es P n = pre es P i ++ (es[i]?.toList ++ r) := by
  obtain ⟨r, hr⟩ := wr_pre (es := es) (P := P) (show i + 1 ≤ n from h)
  exact ⟨r, by rw [hr, wr_succ, List.append_assoc]⟩
theorem wr_get {es : List Ev} {P : List Nat} (nd : P.Nodup) {i : Nat} (h : i < es.length) : (wr es P es.length)[sent P i]? = es[i]? := by
  obtain ⟨r, hr⟩ := pre_pre (es := es) (P := P) h
  rw [hr, ← pre_len nd (Nat.le_of_lt h), List.getElem?_append_right (Nat.le_refl _), Nat.sub_self, List.getElem?_eq_getElem h]
  rfl
theorem count_wr {es : List Ev} {P : List Nat} (nd : P.Nodup) : ∀ i, (wr es P i).countP (fun e => decide (e = .bar)) = ahead es i + (P.filter fun p => decide (p < i)).length
  | 0 => by
    show 0 = 0 + _
    rw [List.filter_eq_nil_iff.mpr (fun p _ => by rw [decide_eq_true_eq]; omega)]
    rfl
  | i + 1 => by
    rw [wr_succ, List.countP_append]
    unfold pre
    rw [List.countP_append, count_wr nd i, cnt_succ nd i, ahead_succ]
    have e1 : (if P.contains i then [Ev.bar] else []).countP (fun e => decide (e = .bar)) = (if P.contains i then [Ev.bar] else []).length := by
      cases P.contains i <;> rfl
    have e2 : (es[i]?.toList).countP (fun e => decide (e = .bar)) = if isB es i = true then 1 else 0 := by
      unfold isB
      cases es[i]? with
      | none => rfl
      | some e => cases e <;> rfl
    rw [e1, e2]
    omega
theorem ahead_wr {es : List Ev} {P : List Nat} (nd : P.Nodup) {i : Nat} (h : i < es.length) : ahead (wr es P es.length) (sent P i) = ahead es i + (P.filter fun p => decide (p < i + 1)).length := by
  obtain ⟨r, hr⟩ := pre_pre (es := es) (P := P) h
  unfold ahead
  rw [hr, ← pre_len nd (Nat.le_of_lt h), List.take_left]
  unfold pre
  rw [List.countP_append, count_wr nd i, cnt_succ nd i]
  have e1 : (if P.contains i then [Ev.bar] else []).countP (fun e => decide (e = .bar)) = (if P.contains i then [Ev.bar] else []).length := by
    cases P.contains i <;> rfl
  rw [e1]
  show ahead es i + _ + _ = ahead es i + _
  omega
theorem cnt_mono {P : List Nat} {a b : Nat} (h : a ≤ b) : (P.filter fun p => decide (p < a)).length ≤ (P.filter fun p => decide (p < b)).length := by
  induction P with
  | nil => exact Nat.le_refl _
  | cons x r ih =>
    rw [List.filter_cons, List.filter_cons]
    by_cases l : x < a
    · rw [if_pos (decide_eq_true l), if_pos (decide_eq_true (show x < b by omega)), List.length_cons, List.length_cons]
      omega
    · rw [if_neg (by rw [decide_eq_true_eq]; omega)]
      split
      · rw [List.length_cons]
        omega
      · exact ih
theorem cnt_lt {P : List Nat} {a b p : Nat} (hp : p ∈ P) (h1 : a ≤ p) (h2 : p < b) : (P.filter fun p => decide (p < a)).length < (P.filter fun p => decide (p < b)).length := by
  induction P with
  | nil => cases hp
  | cons x r ih =>
    rw [List.filter_cons, List.filter_cons]
    rcases List.mem_cons.mp hp with rfl | m
    · rw [if_neg (by rw [decide_eq_true_eq]; omega), if_pos (decide_eq_true h2), List.length_cons]
      have := cnt_mono (P := r) (show a ≤ b by omega)
      omega
    · have := ih m
      by_cases l : x < a
      · rw [if_pos (decide_eq_true l), if_pos (decide_eq_true (show x < b by omega)), List.length_cons, List.length_cons]
        omega
      · rw [if_neg (by rw [decide_eq_true_eq]; omega)]
        split
        · rw [List.length_cons]
          omega
        · exact this
theorem sent_lt {P : List Nat} {a b : Nat} (h : a < b) : sent P a < sent P b := by
  unfold sent
  have := cnt_mono (P := P) (show a + 1 ≤ b + 1 by omega)
  omega
theorem sent_le_len {es : List Ev} {P : List Nat} (nd : P.Nodup) {i : Nat} (h : i < es.length) : sent P i < (wr es P es.length).length := by
  have e := wr_get nd h
  rcases Nat.lt_or_ge (sent P i) (wr es P es.length).length with q | q
  · exact q
  · rw [List.getElem?_eq_none q, List.getElem?_eq_getElem h] at e
    cases e
def movedL (P : List Nat) (ws : List (Nat × Nat)) : List (Nat × Nat) := ws.map fun w => (sent P w.1, sent P w.2)
theorem waits_wr {es : List Ev} {P : List Nat} {ws : List (Nat × Nat)} (nd : P.Nodup) (h : WaitsOk es ws) : WaitsOk (wr es P es.length) (movedL P ws) := by
  refine ⟨fun v hv => ?_, ?_⟩
  · obtain ⟨w, hw, rfl⟩ := List.mem_map.mp hv
    have ok := h.ok w hw
    have l1 := ok.lt
    have l2 := ok.len
    refine ⟨sent_lt l1, sent_le_len nd l2, ?_⟩
    show ∃ c, (wr es P es.length)[sent P w.1]? = _ ∧ ((wr es P es.length)[sent P w.2]? = _ ∨ ∃ c', (wr es P es.length)[sent P w.2]? = _ ∧ _)
    rw [wr_get nd (show w.1 < es.length by omega), wr_get nd l2]
    exact ok.ev
  · unfold movedL
    rw [List.pairwise_map]
    refine h.asc.imp fun {u v} q => ?_
    rcases q with q | ⟨q1, q2⟩
    · exact .inl (sent_lt q)
    · exact .inr ⟨by show sent P u.1 = sent P v.1; rw [q1], sent_lt q2⟩
/-- all are kept when each stretch of a broken one has a new barrier -/
theorem none_broken {es : List Ev} {P : List Nat} {ws : List (Nat × Nat)} (nd : P.Nodup) (h : WaitsOk es ws) (hs : ∀ w ∈ brokenL es ws, ∃ p ∈ P, w.1 < p ∧ p ≤ w.2) : brokenL (wr es P es.length) (movedL P ws) = [] := by
  unfold brokenL movedL
  rw [List.filter_eq_nil_iff]
  intro v hv
  obtain ⟨w, hw, rfl⟩ := List.mem_map.mp hv
  have ok := h.ok w hw
  have l1 := ok.lt
  have l2 := ok.len
  rw [decide_eq_true_eq]
  show ¬ ahead (wr es P es.length) (sent P w.1) = ahead (wr es P es.length) (sent P w.2)
  rw [ahead_wr nd (by omega), ahead_wr nd l2]
  have m1 := ahead_mono es (Nat.le_of_lt l1)
  have m2 := cnt_mono (P := P) (show w.1 + 1 ≤ w.2 + 1 by omega)
  by_cases e : ahead es w.1 = ahead es w.2
  · obtain ⟨p, hp, q1, q2⟩ := hs w (List.mem_filter.mpr ⟨hw, decide_eq_true e⟩)
    have := cnt_lt hp (show w.1 + 1 ≤ p from q1) (show p < w.2 + 1 by omega)
    omega
  · omega
/-! barriers left out -/
def exB' (es : List Ev) (w : Nat × Nat) (f : Nat → Bool) : Bool := (List.range (w.2 - w.1)).any fun k => isB es (w.1 + k) && f (w.1 + k)
theorem exB_iff {es : List Ev} {w : Nat × Nat} {f : Nat → Bool} : exB' es w f = true ↔ ∃ i, w.1 ≤ i ∧ i < w.2 ∧ isB es i = true ∧ f i = true := by
  unfold exB'
  rw [List.any_eq_true]
  constructor
  · rintro ⟨k, hk, h⟩
    have hk := List.mem_range.mp hk
    rw [Bool.and_eq_true] at h
    exact ⟨w.1 + k, by omega, by omega, h.1, h.2⟩
  · rintro ⟨i, h1, h2, h3, h4⟩
    refine ⟨i - w.1, List.mem_range.mpr (by omega), ?_⟩
    rw [show w.1 + (i - w.1) = i by omega, h3, h4]
    rfl
/-- what is kept stays kept when these are gone -/
def keptB (es : List Ev) (ws : List (Nat × Nat)) (gone : List Nat) : Bool := ws.all fun w => !exB' es w (fun _ => true) || exB' es w (fun i => !gone.contains i)
theorem keptB_iff {es : List Ev} {ws : List (Nat × Nat)} {gone : List Nat} : keptB es ws gone = true ↔ ∀ w ∈ ws, ahead es w.1 < ahead es w.2 → ∃ i, w.1 ≤ i ∧ i < w.2 ∧ isB es i = true ∧ i ∉ gone := by
  unfold keptB
  rw [List.all_eq_true]
  refine forall_congr' fun w => imp_congr_right fun _ => ?_
  rw [Bool.or_eq_true, Bool.not_eq_true', exB_iff]
  have e : exB' es w (fun _ => true) = true ↔ ahead es w.1 < ahead es w.2 := by
    rw [exB_iff, ahead_lt]
    simp
  have e2 : ∀ i, ((!gone.contains i) = true ↔ i ∉ gone) := fun i => by
    rw [Bool.not_eq_true', ← Bool.not_eq_true, List.contains_iff_mem]
  constructor
  · rintro (h | ⟨i, h1, h2, h3, h4⟩) hl
    · rw [e.mpr hl] at h
      cases h
    · exact ⟨i, h1, h2, h3, (e2 i).mp h4⟩
  · intro h
    cases q : exB' es w (fun _ => true) with
    | false => exact .inl rfl
    | true =>
      obtain ⟨i, h1, h2, h3, h4⟩ := h (e.mp q)
      exact .inr ⟨i, h1, h2, h3, (e2 i).mpr h4⟩
/-- as the program tells it -/
def wantedB (es : List Ev) (ws : List (Nat × Nat)) (p : Nat) : Bool := ws.any fun w => decide (ahead es w.2 - ahead es w.1 = 1) && decide ((bars es)[ahead es w.1]? = some p)
theorem alone_iff {es : List Ev} {ws : List (Nat × Nat)} {p : Nat} (hp : isB es p = true) : keptB es ws [p] = !wantedB es ws p := by
  rw [Bool.eq_iff_iff, keptB_iff, Bool.not_eq_true', ← Bool.not_eq_true]
  unfold wantedB
  rw [List.any_eq_true]
  constructor
  · rintro h ⟨w, hw, q⟩
    rw [Bool.and_eq_true, decide_eq_true_eq, decide_eq_true_eq] at q
    obtain ⟨q1, q2⟩ := q
    obtain ⟨i, h1, h2, h3, h4⟩ := h w hw (by omega)
    have hip : i ≠ p := fun z => h4 (by rw [z]; exact List.mem_singleton.mpr rfl)
    -- the first barrier behind w.1 is p
    have gi := bars_get h3
    have m1 := ahead_mono es h1
    have m2 := ahead_mono es (show i + 1 ≤ w.2 by omega)
    rw [ahead_succ, if_pos h3] at m2
    have : ahead es i = ahead es w.1 := by omega
    rw [this, q2] at gi
    exact hip (Option.some.inj gi).symm
  · intro h w hw hl
    obtain ⟨i, h1, h2, h3⟩ := ahead_lt.mp hl
    by_cases e : i = p
    · subst e
      by_cases e2 : ahead es w.2 - ahead es w.1 = 1
      · refine absurd ⟨w, hw, ?_⟩ h
        rw [Bool.and_eq_true, decide_eq_true_eq, decide_eq_true_eq]
        refine ⟨e2, ?_⟩
        have m1 := ahead_mono es h1
        have m2 := ahead_mono es (show i + 1 ≤ w.2 by omega)
        rw [ahead_succ, if_pos h3] at m2
        rw [show ahead es w.1 = ahead es i by omega]
        exact bars_get h3
      · by_cases c : ahead es w.1 < ahead es i
        · obtain ⟨j, j1, j2, j3⟩ := ahead_lt.mp c
          exact ⟨j, j1, by omega, j3, fun z => by have := List.mem_singleton.mp z; omega⟩
        · have m1 := ahead_mono es h1
          have : ahead es (i + 1) < ahead es w.2 := by
            rw [ahead_succ, if_pos h3]
            omega
          obtain ⟨j, j1, j2, j3⟩ := ahead_lt.mp this
          exact ⟨j, by omega, j2, j3, fun z => by have := List.mem_singleton.mp z; omega⟩
    · exact ⟨i, h1, h2, h3, fun z => e (List.mem_singleton.mp z)⟩
def aloneL (es : List Ev) (ws : List (Nat × Nat)) : List Nat := (bars es).filter fun p => keptB es ws [p]
theorem alone_eq (es : List Ev) (ws : List (Nat × Nat)) : (bars es).filter (fun p => !wantedB es ws p) = aloneL es ws := by
  unfold aloneL
  refine List.filter_congr fun p hp => ?_
  rw [alone_iff (mem_bars.mp hp)]
/-- as the law tells it -/
def goneL (es : List Ev) (ws : List (Nat × Nat)) : Nat → List Nat
  | 0 => []
  | i + 1 => match (bars es)[i]? with
    | some p => if keptB es ws (goneL es ws i ++ [p]) then goneL es ws i ++ [p] else goneL es ws i
    | none => goneL es ws i
/-- as the program tells it: what goes, and the last one that stays, counted from one -/
def stayB (es : List Ev) (ws : List (Nat × Nat)) (last p on : Nat) : Bool := (keptL es ws).any fun w => decide (last ≤ w.1) && (decide (w.1 < p) && (decide (p < w.2) && decide (w.2 < on)))
def spareL (es : List Ev) (ws : List (Nat × Nat)) : Nat → List Nat × Nat
  | 0 => ([], 0)
  | i + 1 => match (bars es)[i]? with
    | some p => if stayB es ws (spareL es ws i).2 p (((bars es)[i + 1]?).getD es.length) then ((spareL es ws i).1, p + 1) else ((spareL es ws i).1 ++ [p], (spareL es ws i).2)
    | none => spareL es ws i
theorem bars_ends {es : List Ev} {i p q : Nat} (h1 : (bars es)[i]? = some p) (h2 : isB es q = true) (h : p < q) : ((bars es)[i + 1]?).getD es.length ≤ q := by
  have hp : isB es p = true := mem_bars.mp (List.mem_of_getElem? h1)
  have gq := bars_get h2
  have gp := bars_get hp
  have asc := List.pairwise_iff_getElem.mp (bars_asc es)
  obtain ⟨b1, e1⟩ := List.getElem?_eq_some_iff.mp h1
  obtain ⟨b2, e2⟩ := List.getElem?_eq_some_iff.mp gq
  have li : i < ahead es q := by
    rcases Nat.lt_trichotomy i (ahead es q) with c | c | c
    · exact c
    · subst c
      rw [h1] at gq
      have := Option.some.inj gq
      omega
    · have := asc _ _ b2 b1 c
      omega
  rw [List.getElem?_eq_getElem (show i + 1 < (bars es).length by omega), Option.getD_some]
  rcases Nat.lt_or_ge (i + 1) (ahead es q) with c | c
  · have := asc _ _ (show i + 1 < _ by omega) b2 c
    omega
  · have : (bars es)[i + 1] = (bars es)[ahead es q] := by
      congr 1
      omega
    omega
theorem bars_lt {es : List Ev} {i j p q : Nat} (h1 : (bars es)[i]? = some p) (h2 : (bars es)[j]? = some q) : i < j ↔ p < q := by
  have asc := List.pairwise_iff_getElem.mp (bars_asc es)
  obtain ⟨b1, e1⟩ := List.getElem?_eq_some_iff.mp h1
  obtain ⟨b2, e2⟩ := List.getElem?_eq_some_iff.mp h2
  constructor
  · intro h
    have := asc _ _ b1 b2 h
    omega
  · intro h
    rcases Nat.lt_trichotomy i j with c | c | c
    · exact c
    · subst c
      omega
    · have := asc _ _ b2 b1 c
      omega
theorem next_bar {es : List Ev} {i p q : Nat} (h1 : (bars es)[i]? = some p) (h2 : (bars es)[i + 1]? = some q) : p < q ∧ isB es q = true := ⟨(bars_lt h1 h2).mp (by omega), mem_bars.mp (List.mem_of_getElem? h2)⟩
/-- both tell the same; the last that stays is the greatest of those that stay -/
theorem spare_gone {es : List Ev} {ws : List (Nat × Nat)} (hw : ∀ w ∈ ws, WaitOk es w) : ∀ i, i ≤ (bars es).length → (spareL es ws i).1 = goneL es ws i ∧ keptB es ws (goneL es ws i) = true ∧ (∀ x ∈ goneL es ws i, ∃ j, j < i ∧ (bars es)[j]? = some x) ∧
    (∀ j x, j < i → (bars es)[j]? = some x → x ∉ goneL es ws i → x < (spareL es ws i).2) ∧ ((spareL es ws i).2 = 0 ∨ ∃ j x, j < i ∧ (bars es)[j]? = some x ∧ x ∉ goneL es ws i ∧ (spareL es ws i).2 = x + 1)
  | 0, _ => ⟨rfl, keptB_iff.mpr fun w m h => by
      obtain ⟨i, a, b, c⟩ := ahead_lt.mp h
      exact ⟨i, a, b, c, fun z => by cases z⟩, fun x h => (nomatch h), fun j x h => absurd h (Nat.not_lt_zero _), .inl rfl⟩
  | i + 1, hi => by
    obtain ⟨e1, e2, e3, e4, e5⟩ := spare_gone hw i (by omega)
    obtain ⟨p, hp⟩ : ∃ p, (bars es)[i]? = some p := ⟨_, List.getElem?_eq_getElem (show i < (bars es).length by omega)⟩
    have bp : isB es p = true := mem_bars.mp (List.mem_of_getElem? hp)
    have npg : p ∉ goneL es ws i := fun z => by
      obtain ⟨j, j1, j2⟩ := e3 p z
      have := (bars_lt j2 hp).mp j1
      omega
    have key : keptB es ws (goneL es ws i ++ [p]) = !stayB es ws (spareL es ws i).2 p (((bars es)[i + 1]?).getD es.length) := by
      rw [Bool.eq_iff_iff, keptB_iff, Bool.not_eq_true', ← Bool.not_eq_true]
      unfold stayB keptL
      rw [List.any_eq_true]
      constructor
      · rintro h ⟨w, hw', q⟩
        obtain ⟨hw1, hw2⟩ := List.mem_filter.mp hw'
        rw [decide_eq_true_eq] at hw2
        simp only [Bool.and_eq_true, decide_eq_true_eq] at q
        obtain ⟨q1, q2, q3, q4⟩ := q
        obtain ⟨x, x1, x2, x3, x4⟩ := h w hw1 hw2
        rw [List.mem_append, List.mem_singleton, not_or] at x4
        rcases Nat.lt_trichotomy x p with c | c | c
        · have gx := bars_get x3
          have := e4 _ x ((bars_lt gx hp).mpr c) gx x4.1
          omega
        · exact x4.2 c
        · have := bars_ends hp x3 c
          omega
      · intro h w hw1 hl
        obtain ⟨x, x1, x2, x3, x4⟩ := keptB_iff.mp e2 w hw1 hl
        by_cases exp : x = p
        · subst exp
          have ok := hw w hw1
          have nf := ok.fst
          have ns := ok.snd
          by_cases c1 : (spareL es ws i).2 ≤ w.1
          · -- the next barrier lies within
            have nw : w.1 ≠ x := fun z => by rw [z, bp] at nf; cases nf
            by_cases c2 : w.2 < ((bars es)[i + 1]?).getD es.length
            · refine absurd ⟨w, List.mem_filter.mpr ⟨hw1, decide_eq_true hl⟩, ?_⟩ h
              simp only [Bool.and_eq_true, decide_eq_true_eq]
              exact ⟨c1, by omega, x2, c2⟩
            · cases hn : (bars es)[i + 1]? with
              | none =>
                rw [hn, Option.getD_none] at c2
                have := ok.len
                omega
              | some y =>
                rw [hn, Option.getD_some] at c2
                obtain ⟨y1, y2⟩ := next_bar hp hn
                have ny : w.2 ≠ y := fun z => by rw [z, y2] at ns; cases ns
                refine ⟨y, by omega, by omega, y2, fun z => ?_⟩
                rcases List.mem_append.mp z with m | m
                · obtain ⟨j, j1, j2⟩ := e3 y m
                  have := (bars_lt j2 hp).mp j1
                  omega
                · have := List.mem_singleton.mp m
                  omega
          · rcases e5 with z | ⟨j, y, j1, j2, j3, j4⟩
            · omega
            · have yb := mem_bars.mp (List.mem_of_getElem? j2)
              have ylt := (bars_lt j2 hp).mp j1
              refine ⟨y, by omega, by omega, yb, fun z => ?_⟩
              rcases List.mem_append.mp z with m | m
              · exact j3 m
              · have := List.mem_singleton.mp m
                omega
        · exact ⟨x, x1, x2, x3, fun z => by
            rcases List.mem_append.mp z with m | m
            · exact x4 m
            · exact exp (List.mem_singleton.mp m)⟩
    have eg : goneL es ws (i + 1) = if keptB es ws (goneL es ws i ++ [p]) then goneL es ws i ++ [p] else goneL es ws i := by
      show (match (bars es)[i]? with | some p => _ | none => _) = _
      rw [hp]
    have es' : spareL es ws (i + 1) = if stayB es ws (spareL es ws i).2 p (((bars es)[i + 1]?).getD es.length) then ((spareL es ws i).1, p + 1) else ((spareL es ws i).1 ++ [p], (spareL es ws i).2) := by
      show (match (bars es)[i]? with | some p => _ | none => _) = _
      rw [hp]
    rw [eg, es', key]
    cases q : stayB es ws (spareL es ws i).2 p (((bars es)[i + 1]?).getD es.length) with
    | true =>
      simp only [Bool.not_true, if_true, Bool.false_eq_true, if_false]
      refine ⟨e1, e2, fun x hx => ?_, fun j x hj hx hn => ?_, .inr ⟨i, p, by omega, hp, npg, rfl⟩⟩
      · obtain ⟨j, j1, j2⟩ := e3 x hx
        exact ⟨j, by omega, j2⟩
      · by_cases c : j = i
        · subst c
          rw [hp] at hx
          cases hx
          omega
        · have := (bars_lt hx hp).mp (by omega)
          omega
    | false =>
      simp only [Bool.not_false, if_true, Bool.false_eq_true, if_false]
      refine ⟨by rw [e1], by rw [key, q]; rfl, fun x hx => ?_, fun j x hj hx hn => ?_, ?_⟩
      · rcases List.mem_append.mp hx with m | m
        · obtain ⟨j, j1, j2⟩ := e3 x m
          exact ⟨j, by omega, j2⟩
        · rw [List.mem_singleton.mp m]
          exact ⟨i, by omega, hp⟩
      · rw [List.mem_append, not_or] at hn
        by_cases c : j = i
        · subst c
          rw [hp] at hx
          cases hx
          exact absurd (List.mem_singleton.mpr rfl) hn.2
        · exact e4 j x (by omega) hx hn.1
      · rcases e5 with z | ⟨j, y, j1, j2, j3, j4⟩
        · exact .inl z
        · refine .inr ⟨j, y, by omega, j2, fun z => ?_, j4⟩
          rcases List.mem_append.mp z with m | m
          · exact j3 m
          · have h1 := (bars_lt j2 hp).mp j1
            have := List.mem_singleton.mp m
            omega
/-! who is served first -/
/-- the first place of a moment that serves -/
def firstAt (ms : List Nat) (w : Nat × Nat) : List Nat := ((List.range ms.length).filter fun i => decide (w.1 < ms.getD i 0) && decide (ms.getD i 0 ≤ w.2)).take 1
def servedBy (due : List (Nat × Nat)) (ms : List Nat) (i : Nat) : List Nat := (List.range due.length).filter fun k => decide (firstAt ms (due.getD k (0, 0)) = [i])
/-- as the law tells it: those served at a place, those served ahead of it -/
def ownDone (due : List (Nat × Nat)) (ms : List Nat) : Nat → List Nat
  | 0 => []
  | i + 1 => ownDone due ms i ++ (List.range due.length).filter fun k => !(ownDone due ms i).contains k && (decide ((due.getD k (0, 0)).1 < ms.getD i 0) && decide (ms.getD i 0 < (due.getD k (0, 0)).2 + 1))
def ownAt (due : List (Nat × Nat)) (ms : List Nat) (i : Nat) : List Nat := (List.range due.length).filter fun k => !(ownDone due ms i).contains k && (decide ((due.getD k (0, 0)).1 < ms.getD i 0) && decide (ms.getD i 0 < (due.getD k (0, 0)).2 + 1))
theorem take1_filter {n i : Nat} {f : Nat → Bool} : ((List.range n).filter f).take 1 = [i] ↔ i < n ∧ f i = true ∧ ∀ j, j < i → f j = false := by
  induction n with
  | zero => simp
  | succ n ih =>
    rw [List.range_succ, List.filter_append]
    cases h : (List.range n).filter f with
    | nil =>
      have hn : ∀ j, j < n → f j = false := fun j hj => by
        have := List.filter_eq_nil_iff.mp h j (List.mem_range.mpr hj)
        simpa using this
      rw [List.nil_append, List.filter_cons, List.filter_nil]
      by_cases q : f n = true
      · rw [if_pos q]
        constructor
        · intro e
          have e : [n] = [i] := e
          have : n = i := (List.cons.inj e).1
          subst this
          exact ⟨by omega, q, hn⟩
        · rintro ⟨h1, h2, h3⟩
          by_cases c : i = n
          · rw [c]; rfl
          · rw [hn i (by omega)] at h2
            cases h2
      · rw [if_neg q]
        constructor
        · intro e
          cases e
        · rintro ⟨h1, h2, h3⟩
          by_cases c : i = n
          · rw [c] at h2
            exact absurd h2 q
          · rw [hn i (by omega)] at h2
            cases h2
    | cons x r =>
      rw [h] at ih
      rw [List.cons_append, List.take_succ_cons, List.take_zero]
      rw [List.take_succ_cons, List.take_zero] at ih
      rw [ih]
      have hx : x < n ∧ f x = true := by
        have := List.mem_filter.mp (show x ∈ (List.range n).filter f by rw [h]; exact List.mem_cons_self)
        exact ⟨List.mem_range.mp this.1, this.2⟩
      constructor
      · rintro ⟨a, b, c⟩
        exact ⟨by omega, b, c⟩
      · rintro ⟨a, b, c⟩
        refine ⟨?_, b, c⟩
        rcases Nat.lt_or_ge i n with q | q
        · exact q
        · have := c x (by omega)
          rw [hx.2] at this
          cases this
theorem firstAt_iff {ms : List Nat} {w : Nat × Nat} {i : Nat} : firstAt ms w = [i] ↔ i < ms.length ∧ (w.1 < ms.getD i 0 ∧ ms.getD i 0 ≤ w.2) ∧ ∀ j, j < i → ¬ (w.1 < ms.getD j 0 ∧ ms.getD j 0 ≤ w.2) := by
  unfold firstAt
  rw [take1_filter]
  refine and_congr_right fun _ => and_congr (by simp) (forall_congr' fun j => imp_congr_right fun _ => ?_)
  rw [← Bool.not_eq_true]
  simp
theorem own_done {due : List (Nat × Nat)} {ms : List Nat} : ∀ {i : Nat}, i ≤ ms.length → ∀ k, k ∈ ownDone due ms i ↔ k < due.length ∧ ∃ j, j < i ∧ ((due.getD k (0, 0)).1 < ms.getD j 0 ∧ ms.getD j 0 ≤ (due.getD k (0, 0)).2)
  | 0, _, k => by
    constructor
    · intro h; cases h
    · rintro ⟨_, j, h, _⟩; omega
  | i + 1, hi, k => by
    show k ∈ ownDone due ms i ++ _ ↔ _
    rw [List.mem_append, own_done (by omega), List.mem_filter, List.mem_range]
    simp only [Bool.and_eq_true, Bool.not_eq_true', decide_eq_true_eq, ← Bool.not_eq_true, List.contains_iff_mem, own_done (show i ≤ ms.length by omega)]
    constructor
    · rintro (⟨h1, j, h2, h3⟩ | ⟨h1, _, h3, h4⟩)
      · exact ⟨h1, j, by omega, h3⟩
      · exact ⟨h1, i, by omega, h3, by omega⟩
    · rintro ⟨h1, j, h2, h3, h4⟩
      by_cases c : ∃ j, j < i ∧ ((due.getD k (0, 0)).1 < ms.getD j 0 ∧ ms.getD j 0 ≤ (due.getD k (0, 0)).2)
      · exact .inl ⟨h1, c⟩
      · have : j = i := by
          rcases Nat.lt_or_ge j i with q | q
          · exact absurd ⟨j, q, h3, h4⟩ c
          · omega
        subst this
        exact .inr ⟨h1, fun z => c z.2, h3, by omega⟩
theorem own_served {due : List (Nat × Nat)} {ms : List Nat} {i : Nat} (hi : i < ms.length) : ownAt due ms i = servedBy due ms i := by
  unfold ownAt servedBy
  refine List.filter_congr fun k hk => ?_
  have hk := List.mem_range.mp hk
  rw [Bool.eq_iff_iff, decide_eq_true_eq, firstAt_iff]
  simp only [Bool.and_eq_true, Bool.not_eq_true', decide_eq_true_eq, ← Bool.not_eq_true, List.contains_iff_mem, own_done (show i ≤ ms.length by omega)]
  constructor
  · rintro ⟨h1, h2, h3⟩
    refine ⟨hi, ⟨h2, by omega⟩, fun j hj z => h1 ⟨hk, j, hj, z⟩⟩
  · rintro ⟨_, ⟨h2, h3⟩, h4⟩
    exact ⟨fun ⟨_, j, hj, z⟩ => h4 j hj z, h2, by omega⟩
end K17
set_option Elab.async false
set_option linter.all false
set_option maxRecDepth 100000
set_option maxHeartbeats 4000000
/-! Set comprehensions of any members, of one clause or two: the loop of a clause once and for all. -/
namespace KB
open PySem PySem.Spec PyProof.Rows L2
/-- no error leaves -/
abbrev F0 : Value → Shared → Prop := fun _ _ => False
/-- the tests of a clause -/
abbrev tests (ifs : List Expr) (env : Env) : Sem Bool := forIn ifs true fun q r => if r = true then (do let b ← isTrue q env (eval q env); pure (ForInStep.yield b)) else pure (ForInStep.yield r)
/-- the loop c of a clause over it, the rest of a turn being B -/
structure Cl (P : Program) (w : World) (A : Around) (c : Code) (it : Value) (tg : Expr) (env : Env) (ifs : List Expr) (B : (Shared → Prop) → Shared → Prop) : Prop where
  quiet : c.quiet = true
  mono : ∀ (N N' : Shared → Prop) (s : Shared), (∀ s', N s' → N' s') → B N s → B N' s
  den : ∀ (Q : PySem.Fin → Shared → Prop) (E : Value → Shared → Prop) (s : Shared), wpAny (model P w) A (pyNext it) (fun r s1 => match r with
      | none => Q (.done .next) s1
      | some v => wpAny (model P w) A (letOwnedTupleGo tg it v) (fun _ s2 => wpAny (model P w) A (assign tg env v) (fun _ s3 => wpAny (model P w) A (tests ifs env) (fun b s4 =>
          if b = true then B (fun s5 => Q (.again c) s5) s4 else Q (.again c) s4) F0 s3) F0 s2) F0 s1) F0 s → wpAny (model P w) (A.under c) ((model P w).den c) Q E s
/-- what of the slots is known stays known, but for those of vs -/
def Kp (vs : List Nat) (σ σ' : L2.St) : Prop := σ'.length = σ.length ∧ ∀ (j : Nat) (v : V), (wipe σ vs)[j]? = some (some v) → σ'[j]? = some (some v)
theorem Kp.refl (vs : List Nat) (σ : L2.St) : Kp vs σ σ := ⟨rfl, fun _ _ e => (wipe_some e).1⟩
theorem Kp.wipe {vs vs1 : List Nat} (h : ∀ i ∈ vs1, i ∈ vs) (σ : L2.St) : Kp vs σ (wipe σ vs1) := ⟨wipe_length _ _, fun j v e => by
  obtain ⟨e1, e2⟩ := wipe_some e
  rw [wipe_out fun z => e2 (h j z)]
  exact e1⟩
/-- the turns of a clause; tb: the rest of a turn, by what has to hold behind it -/
def tCl (g : TG) (tt : TT) (tb : L2.St → Hp → (Hp → Prop) → Prop) (vs : List Nat) (σ : L2.St) (Z : Hp → Prop) (J : It) (H : Hp) : Prop :=
  ∃ W : Nat → Nat → Hp → Prop, (∃ m, W 0 m H) ∧ ∀ i m G, W i m G → (J.stop i G ∧ Z G) ∨ (J.go i G ∧ ∃ N : Hp → Prop, (∀ G', N G' → ∃ m', m' < m ∧ W (i + 1) m' G') ∧
    ∀ x G', J.yld i G x G' → g x (wipe σ vs) G' fun σ2 H2 => wipe σ2 vs = wipe σ vs ∧ tt σ2 H2 fun b H3 => if b = true then tb σ2 H3 N else N H3)
section
variable {X : Cx} {c : Code} {it : Addr} {tg : Expr} {ifs : List Expr} {B : (Shared → Prop) → Shared → Prop} {J : It} {fp : List Addr} {tn : Nat → Heap → Prop} {g : TG} {tt : TT}
  {tb : L2.St → Hp → (Hp → Prop) → Prop} {vs : List Nat} {pins : List (Addr × Obj)} {σ : L2.St} {H : Hp} {s : Shared} {Z : Hp → Prop} {R : Result → Shared → Prop}
theorem cl_run (hc : X.calm = true) (hx : X.xe = F0) (L : Cl X.prog X.w X.A c (.ref it) tg X.env ifs B) (T : Turn X.prog X.w X.K tg J fp it tn) (pg : PG X tg g) (pt : PTs X ifs tt)
    (pb : ∀ (pl : List (Addr × Obj)) (s1 : Shared) (τ : L2.St) (G : Hp) (N : Hp → Prop), Inv X pl τ G s1 → (∀ b ∈ pl, b ∈ pins ∨ b.1 ∈ fp) → tb τ G N → B (fun s2 => ∃ τ' G', Inv X pl τ' G' s2 ∧ Kp vs τ τ' ∧ N G') s1)
    (I : Inv X pins (wipe σ vs) H s) (fr : ∀ b ∈ fp, FpOk X pins H b) (t0 : tn 0 s.heap) (q : tCl g tt tb vs σ Z J H) (k : ∀ s' G, Inv X pins (wipe σ vs) G s' → (∀ b ∈ fp, G b = none) → Z G → R (.ok .next) s') :
    codeAny (model X.prog X.w) X.A c R s := by
  obtain ⟨W, ⟨m0, w0⟩, turn⟩ := q
  refine codeAny_loop L.quiet (fun n u => ∃ i G, Inv X pins (wipe σ vs) G u ∧ tn i u.heap ∧ (∀ b ∈ fp, G b = none) ∧ W i n G) ?_ m0 ⟨0, H, I, t0, fun b hb => (fr b hb).1, w0⟩
  rintro n s1 ⟨i, G, I1, t1, n1, w1⟩
  refine L.den _ _ _ ?_
  have ok1 : ∀ b ∈ fp, FpOk X pins G b := fun b hb => ⟨n1 b hb, (fr b hb).2⟩
  rcases turn i n G w1 with ⟨stp, z⟩ | ⟨go, N, hN, step⟩
  · refine thnF (T.done X rfl rfl rfl hc i pins s1 _ G F0 I1 ok1 t1 stp) fun r s2 ⟨er, I2⟩ => ?_
    subst er
    exact k _ _ I2 n1 z
  · refine thnF (T.item X rfl rfl rfl hc i pins s1 _ G F0 I1 ok1 t1 go) fun r s2 ⟨u, er, h2⟩ => ?_
    subst er
    refine thnF h2 fun _ s3 ⟨x, G3, I3, r3, y3, t3, n3⟩ => ?_
    have J3 := I3.pinned (fun b hb => ⟨n3 b hb, (fr b hb).2⟩) (T.obj _ _ t3)
    have a1 := pg.run _ s3 _ G3 x u _ J3 r3 (step x G3 y3)
    rw [hx] at a1
    refine thnF a1 fun _ s4 ⟨τ, G4, I4, ew, q4⟩ => ?_
    have a2 := pt.run _ s4 τ G4 _ I4 q4
    rw [hx] at a2
    refine thnF a2 fun ok s5 ⟨G5, I5, q5⟩ => ?_
    have fin : ∀ (τ' : L2.St) (G' : Hp) (s' : Shared), Inv X (pins ++ pinsAt fp s3.heap) τ' G' s' → Kp vs τ τ' → N G' → ∃ m, m < n ∧ ∃ i G, Inv X pins (wipe σ vs) G s' ∧ tn i s'.heap ∧ (∀ b ∈ fp, G b = none) ∧ W i m G := fun τ' G' s' I' kp nx => by
      obtain ⟨m', hm, w'⟩ := hN G' nx
      have at_ : ∀ b ∈ fp, ∀ o, s3.heap.get? b = some o → s'.heap.get? b = some o ∧ G' b = none := fun b hb o e => by
        have z := I'.pin (b, o) (List.mem_append_right _ (List.mem_append_right _ (mem_pinsAt hb e)))
        exact ⟨z.1, z.2.1⟩
      refine ⟨m', hm, i + 1, G', I'.unpinned.weak ?_ (fun j v e => kp.2 j v (by rw [ew]; exact e)), T.keep _ _ _ t3 fun b hb o e => (at_ b hb o e).1, fun b hb => ?_, w'⟩
      · rw [kp.1, ← wipe_length τ vs, ew]
      · obtain ⟨o, e, _⟩ := T.obj _ _ t3 b hb
        exact (at_ b hb o e).2
    cases ok with
    | false => exact ⟨rfl, fin _ _ _ I5 (Kp.refl _ _) q5⟩
    | true =>
      have mem : ∀ b ∈ pins ++ pinsAt fp s3.heap, b ∈ pins ∨ b.1 ∈ fp := fun b hb => by
        rcases List.mem_append.mp hb with z | z
        · exact .inl z
        · refine .inr ?_
          obtain ⟨a, ha, e⟩ := List.mem_filterMap.mp z
          obtain ⟨o, _, rfl⟩ := Option.map_eq_some_iff.mp e
          exact ha
      refine L.mono _ _ _ (fun s6 ⟨τ', G6, I6, kp, nx⟩ => ?_) (pb _ s5 τ G5 N I5 mem q5)
      exact ⟨rfl, fin _ _ _ I6 kp nx⟩
end
end KB
set_option Elab.async false
set_option linter.all false
set_option maxRecDepth 100000
set_option maxHeartbeats 4000000
namespace KB
open PySem PySem.Spec PyProof.Rows L2
abbrev sc1 (elt t0 i0 : Expr) (if0 : List Expr) (scope : Scope) (pos : Pos) : Expr := .SetComp elt [⟨t0, i0, if0, 0⟩] scope pos
abbrev sc2 (elt t0 i0 t1 i1 : Expr) (if0 if1 : List Expr) (scope : Scope) (pos : Pos) : Expr := .SetComp elt [⟨t0, i0, if0, 0⟩, ⟨t1, i1, if1, 0⟩] scope pos
section
variable {P : Program} {w : World} {A : Around} {env : Env} {elt t0 i0 t1 i1 : Expr} {if0 if1 : List Expr} {scope : Scope} {pos : Pos} {it acc : Value}
theorem turn1 : compTurn (sc1 elt t0 i0 if0 scope pos) 0 it acc env = (do
      standAt i0.pos
      match ← pyNext it with
      | none => pure (.done .next)
      | some u =>
        letOwnedTupleGo t0 it u
        assign t0 env u
        let mut b := true
        for q in if0 do
          if b then b ← isTrue q env (eval q env)
        if b then
          (do let y ← eval elt env; standAt elt.pos; let _ ← call (.builtin "set.add") [acc, y])
        again (.compLoop (sc1 elt t0 i0 if0 scope pos) 0 it acc env)) := by rfl
theorem turn2i : compTurn (sc2 elt t0 i0 t1 i1 if0 if1 scope pos) 1 it acc env = (do
      standAt i1.pos
      match ← pyNext it with
      | none => pure (.done .next)
      | some u =>
        letOwnedTupleGo t1 it u
        assign t1 env u
        let mut b := true
        for q in if1 do
          if b then b ← isTrue q env (eval q env)
        if b then
          (do let y ← eval elt env; standAt elt.pos; let _ ← call (.builtin "set.add") [acc, y])
        again (.compLoop (sc2 elt t0 i0 t1 i1 if0 if1 scope pos) 1 it acc env)) := by rfl
theorem turn2o : compTurn (sc2 elt t0 i0 t1 i1 if0 if1 scope pos) 0 it acc env = (do
      standAt i0.pos
      match ← pyNext it with
      | none => pure (.done .next)
      | some u =>
        letOwnedTupleGo t0 it u
        assign t0 env u
        let mut b := true
        for q in if0 do
          if b then b ← isTrue q env (eval q env)
        if b then
          let y ← eval i1 env
          standAt i1.pos
          let y ← foldedSetIterable i1 env y
          let _ ← runOwn (.compStart (sc2 elt t0 i0 t1 i1 if0 if1 scope pos) 1 (← holding [y] (pyIter y)) acc env) env
        again (.compLoop (sc2 elt t0 i0 t1 i1 if0 if1 scope pos) 0 it acc env)) := by rfl
/-- a member is made and put in -/
def bAdd (P : Program) (w : World) (A : Around) (elt : Expr) (env : Env) (acc : Value) : (Shared → Prop) → Shared → Prop := fun N s =>
  wpAny (model P w) A (eval elt env) (fun y s1 => wpAny (model P w) A (call (.builtin "set.add") [acc, y]) (fun _ s2 => N s2) F0 s1) F0 s
theorem noF {α : Type} {t : Sem α} {Q : α → Shared → Prop} {M : Model} {E : Value → Shared → Prop} {s : Shared} (h : wpAny M A t Q F0 s) : wpAny M A t Q E s := wpAny_mono h (fun _ _ x => x) fun _ _ z => z.elim
theorem bAdd_mono (N N' : Shared → Prop) (s : Shared) (h : ∀ s', N s' → N' s') (b : bAdd P w A elt env acc N s) : bAdd P w A elt env acc N' s :=
  wpAny_mono b (fun _ _ x => wpAny_mono x (fun _ s' z => h s' z) fun _ _ z => z) fun _ _ z => z
theorem cl_add1 : Cl P w A (.compLoop (sc1 elt t0 i0 if0 scope pos) 0 it acc env) it t0 env if0 (bAdd P w A elt env acc) := by
  refine ⟨rfl, bAdd_mono, fun Q E s h => ?_⟩
  show wpAny _ A ((compTurn (sc1 elt t0 i0 if0 scope pos) 0 it acc env).onRaise _) _ _ s
  refine wpAny_noted ?_
  rw [turn1]
  refine wpAny_bind (wpAny_standAt (wpAny_bind (noF (wpAny_mono h (fun r s1 h1 => ?_) fun _ _ z => z))))
  cases r with
  | none => exact wpAny_pure h1
  | some u =>
    refine wpAny_bind (noF (wpAny_mono h1 (fun _ s2 h2 => wpAny_bind (noF (wpAny_mono h2 (fun _ s3 h3 => wpAny_bind (noF (wpAny_mono h3 (fun b s4 h4 => ?_) fun _ _ z => z))) fun _ _ z => z))) fun _ _ z => z))
    cases b with
    | false => exact wpAny_pure h4
    | true => exact wpAny_bind (wpAny_bind (noF (wpAny_mono h4 (fun y s5 h5 => wpAny_bind (wpAny_standAt (wpAny_bind (noF (wpAny_mono h5 (fun _ s6 h6 => wpAny_pure (wpAny_pure h6)) fun _ _ z => z))))) fun _ _ z => z)))
theorem cl_add2 : Cl P w A (.compLoop (sc2 elt t0 i0 t1 i1 if0 if1 scope pos) 1 it acc env) it t1 env if1 (bAdd P w A elt env acc) := by
  refine ⟨rfl, bAdd_mono, fun Q E s h => ?_⟩
  show wpAny _ A ((compTurn (sc2 elt t0 i0 t1 i1 if0 if1 scope pos) 1 it acc env).onRaise _) _ _ s
  refine wpAny_noted ?_
  rw [turn2i]
  refine wpAny_bind (wpAny_standAt (wpAny_bind (noF (wpAny_mono h (fun r s1 h1 => ?_) fun _ _ z => z))))
  cases r with
  | none => exact wpAny_pure h1
  | some u =>
    refine wpAny_bind (noF (wpAny_mono h1 (fun _ s2 h2 => wpAny_bind (noF (wpAny_mono h2 (fun _ s3 h3 => wpAny_bind (noF (wpAny_mono h3 (fun b s4 h4 => ?_) fun _ _ z => z))) fun _ _ z => z))) fun _ _ z => z))
    cases b with
    | false => exact wpAny_pure h4
    | true => exact wpAny_bind (wpAny_bind (noF (wpAny_mono h4 (fun y s5 h5 => wpAny_bind (wpAny_standAt (wpAny_bind (noF (wpAny_mono h5 (fun _ s6 h6 => wpAny_pure (wpAny_pure h6)) fun _ _ z => z))))) fun _ _ z => z)))
/-- the second clause is run -/
def bIn (P : Program) (w : World) (A : Around) (e i1 : Expr) (env : Env) (acc : Value) : (Shared → Prop) → Shared → Prop := fun N s =>
  wpAny (model P w) A (eval i1 env) (fun y s1 => wpAny (model P w) A (pyIter y) (fun j s2 => codeAny (model P w) A (.compStart e 1 j acc env) (fun r s' => match r with
    | .ok _ => N s'
    | .error _ => False) s2) F0 s1) F0 s
theorem bIn_mono {e : Expr} (N N' : Shared → Prop) (s : Shared) (h : ∀ s', N s' → N' s') (b : bIn P w A e i1 env acc N s) : bIn P w A e i1 env acc N' s :=
  wpAny_mono b (fun _ _ x => wpAny_mono x (fun _ _ y => codeAny_mono y fun r s' z => match r, z with
    | .ok _, z => h s' z
    | .error _, z => z) fun _ _ z => z) fun _ _ z => z
theorem cl_in (hs : ∀ x, foldedSetIterable i1 env x = pure x) : Cl P w A (.compLoop (sc2 elt t0 i0 t1 i1 if0 if1 scope pos) 0 it acc env) it t0 env if0 (bIn P w A (sc2 elt t0 i0 t1 i1 if0 if1 scope pos) i1 env acc) := by
  refine ⟨rfl, bIn_mono, fun Q E s h => ?_⟩
  show wpAny _ A ((compTurn (sc2 elt t0 i0 t1 i1 if0 if1 scope pos) 0 it acc env).onRaise _) _ _ s
  refine wpAny_noted ?_
  rw [turn2o]
  refine wpAny_bind (wpAny_standAt (wpAny_bind (noF (wpAny_mono h (fun r s1 h1 => ?_) fun _ _ z => z))))
  cases r with
  | none => exact wpAny_pure h1
  | some u =>
    refine wpAny_bind (noF (wpAny_mono h1 (fun _ s2 h2 => wpAny_bind (noF (wpAny_mono h2 (fun _ s3 h3 => wpAny_bind (noF (wpAny_mono h3 (fun b s4 h4 => ?_) fun _ _ z => z))) fun _ _ z => z))) fun _ _ z => z))
    cases b with
    | false => exact wpAny_pure h4
    | true =>
      refine wpAny_bind (noF (wpAny_mono h4 (fun y s5 h5 => ?_) fun _ _ z => z))
      refine wpAny_bind (wpAny_standAt (wpAny_bind (wpAny_of_eq (hs y) (wpAny_bind (wpAny_holding (noF (wpAny_mono h5 (fun j s6 h6 => ?_) fun _ _ z => z)))))))
      refine wpAny_bind (wpAny_runOwn ?_)
      rw [Around.mark_none]
      refine codeAny_mono h6 fun r s7 z => ?_
      cases r with
      | ok f => first
        | exact wpAny_pure z
        | exact wpAny_bind (wpAny_pure (wpAny_pure z))
      | error e => exact z.elim
theorem start2 {R : Result → Shared → Prop} {s : Shared} (h0 : codeAny (model P w) A (.compLoop (sc2 elt t0 i0 t1 i1 if0 if1 scope pos) 1 it acc env) R s)
    (h : wpAny (model P w) A (pyIter it) (fun j s' => codeAny (model P w) A (.compLoop (sc2 elt t0 i0 t1 i1 if0 if1 scope pos) 1 j acc env) R s') F0 s) :
    codeAny (model P w) A (.compStart (sc2 elt t0 i0 t1 i1 if0 if1 scope pos) 1 it acc env) R s := by
  refine codeAny_of_tree ?_
  show wpAny _ _ ((compStart (sc2 elt t0 i0 t1 i1 if0 if1 scope pos) 1 it acc env).onRaise _) _ _ s
  refine wpAny_notedAt ?_
  unfold compStart
  show wpAny _ _ (ask >>= _) _ _ s
  refine wpAny_bind (wpAny_askSetting (wpAny_ite ?_))
  split
  · first
      | exact wpAny_bind (wpAny_pure (wpAny_pure ⟨rfl, h0⟩))
      | exact wpAny_pure ⟨rfl, h0⟩
  · refine wpAny_bind (wpAny_rule ?_)
    show wpAny _ _ (standAt i1.pos >>= _) _ _ s
    exact wpAny_bind (wpAny_standAt (wpAny_bind (noF (wpAny_mono h (fun j s' h' => wpAny_pure ⟨rfl, h'⟩) fun _ _ z => z))))
end
end KB
set_option Elab.async false
set_option linter.all false
set_option maxRecDepth 100000
set_option maxHeartbeats 4000000
namespace KB
open PySem PySem.Spec PyProof.Rows L2
/-- the set's methods: what add asks and does -/
abbrev AddR := V → List V → Hp → VK → Prop
/-- a member is made, and put into the set at D -/
def tAdd (r : AddR) (te : TE) (D : Addr) : L2.St → Hp → (Hp → Prop) → Prop := fun τ G N => te τ G fun y G1 => r (.ref D) [y] G1 fun _ G2 => N G2
/-- the second clause -/
def tInn (r : AddR) (wi1 : TI) (g1 : TG) (tt1 : TT) (te : TE) (vs1 : List Nat) (D : Addr) : L2.St → Hp → (Hp → Prop) → Prop := fun τ G N => wi1 τ G fun J1 G1 => tCl g1 tt1 (tAdd r te D) vs1 τ N J1 G1
/-- {elt for t0 in i0 if ..}, D the new set -/
def tSc1 (O0 : Addr → HO) (r : AddR) (wi : TI) (g : TG) (tt : TT) (te : TE) (vs : List Nat) : TE := fun σ H Q => wi σ H fun J H1 => ∀ D, H1 D = none → tCl g tt (tAdd r te D) vs σ (fun G => Q (.ref D) G) J (upd H1 D (O0 D))
/-- {elt for t0 in i0 if .. for t1 in i1 if ..} -/
def tSc2 (O0 : Addr → HO) (r : AddR) (wi : TI) (g : TG) (tt : TT) (wi1 : TI) (g1 : TG) (tt1 : TT) (te : TE) (vs vs1 : List Nat) : TE := fun σ H Q =>
  wi σ H fun J H1 => ∀ D, H1 D = none → tCl g tt (tInn r wi1 g1 tt1 te vs1 D) vs σ (fun G => Q (.ref D) G) J (upd H1 D (O0 D))
abbrev freshSet (w : World) : Obj := { cls := .type "set", dict := none, data := .set #[] 0 (.fresh 0 0 (!w.params.followText "set-order")) }
theorem ev_sc (elt : Expr) (gs : List Comprehension) (scope : Scope) (pos : Pos) (env : Env) : eval (.SetComp elt gs scope pos) env = comprehension (.SetComp elt gs scope pos) scope env (firstIterPos gs pos) (newSet (.type "set")) (firstAsync gs) (firstIter gs env) := rfl
section
variable {X : Cx} {O0 : Addr → HO} {r : AddR} {elt t0 i0 t1 i1 : Expr} {if0 if1 : List Expr} {scope : Scope} {own : List (Str × Nat)} {vs1 : List Nat} {pos : Pos} {wi wi1 : TI} {g g1 : TG} {tt tt1 : TT} {te : TE}
/-- what stands in the block, in its context -/
abbrev InBlk (X : Cx) (scope : Scope) (p : Cx → Prop) : Prop := ∀ (s : Shared) (H : Hp) (C : Addr) (cl : List (Str × Addr)) (fp : List Addr), p (X.blk s H scope (compEnvC scope cl C X.env) fp)
/-- put in: the rest of a turn -/
theorem add_ok {Y : Cx} {D : Addr} {vs : List Nat} (hx : Y.xe = F0) (he : PE Y elt te) (ha : MtR Y "set.add" r) (pl : List (Addr × Obj)) (s : Shared) (τ : L2.St) (G : Hp) (N : Hp → Prop) (I : Inv Y pl τ G s) (q : tAdd r te D τ G N) :
    bAdd Y.prog Y.w Y.A elt Y.env (.ref D) (fun s2 => ∃ τ' G', Inv Y pl τ' G' s2 ∧ Kp vs τ τ' ∧ N G') s := by
  have a1 := he.run pl s τ G _ I q
  rw [hx] at a1
  refine wpAny_mono a1 (fun u s1 ⟨y, G1, I1, r1, q1⟩ => ?_) fun _ _ z => z
  have a2 := ha pl s1 τ G1 (.ref D) [y] (.ref D) [u] _ I1 rfl (.cons r1 .nil) q1
  rw [hx] at a2
  exact wpAny_mono a2 (fun _ s2 ⟨z, G2, I2, r2, q2⟩ => ⟨τ, G2, I2, Kp.refl _ _, q2⟩) fun _ _ z => z
/-- the second clause: the rest of a turn of the first -/
theorem inn_ok {Y : Cx} {D : Addr} {vs : List Nat} (hc : Y.calm = true) (hx : Y.xe = F0) (hv : ∀ i ∈ vs1, i ∈ vs) (hi1 : PI Y t1 i1 wi1) (hg1 : PG Y t1 g1) (ht1 : PTs Y if1 tt1) (he : PE Y elt te) (ha : MtR Y "set.add" r)
    (pl : List (Addr × Obj)) (s : Shared) (τ : L2.St) (G : Hp) (N : Hp → Prop) (I : Inv Y pl τ G s) (q : tInn r wi1 g1 tt1 te vs1 D τ G N) :
    bIn Y.prog Y.w Y.A (sc2 elt t0 i0 t1 i1 if0 if1 scope pos) i1 Y.env (.ref D) (fun s2 => ∃ τ' G', Inv Y pl τ' G' s2 ∧ Kp vs τ τ' ∧ N G') s := by
  have a1 := hi1.run pl s τ G _ I q
  rw [hx] at a1
  refine wpAny_mono a1 (fun u s1 a2 => wpAny_mono a2 (fun j s2 h2 => ?_) fun _ _ z => z) fun _ _ z => z
  obtain ⟨it, fp, tn, J, G1, e, I1, T, st, fr, q1⟩ := h2
  subst e
  have run := cl_run (R := fun rr s' => match rr with
      | .ok _ => ∃ τ' G', Inv Y pl τ' G' s' ∧ Kp vs τ τ' ∧ N G'
      | .error _ => False) hc hx (cl_add2 (elt := elt) (t0 := t0) (i0 := i0) (i1 := i1) (if0 := if0) (scope := scope) (pos := pos) (acc := .ref D)) T hg1 ht1
    (fun pl' s' τ' G' N' I' _ q' => add_ok (vs := vs1) hx he ha pl' s' τ' G' N' I' q') (I1.weak (wipe_length _ _) fun i v e => (wipe_some e).1) fr st q1
    fun s' G' I' _ z => ⟨_, G', I', Kp.wipe hv τ, z⟩
  exact start2 run (T.self Y.A 0 _ _ _ st run)
/-- from the block's loop to the def's context -/
theorem blk_ok {e : Expr} (hcl : ∃ gs, e = .SetComp elt (⟨t0, i0, if0, 0⟩ :: gs) scope pos) (hN : X.N.Nodup) (hi : PI X t0 i0 wi) (ok : BlkOk X.N X.env.scope scope own)
    (new : ∀ (H : Hp) (h : Heap), ObjOk X.prog X.w H (h.push (freshSet X.w)) h.objs.size (O0 h.objs.size)) {tb : Addr → L2.St → Hp → (Hp → Prop) → Prop}
    (loop : ∀ (s : Shared) (H : Hp) (C : Addr) (cl : List (Str × Addr)) (fp : List Addr) (it : Addr) (tn : Nat → Heap → Prop) (J : It) (D : Addr) (σ : L2.St) (s1 : Shared) (Z : Hp → Prop) (R : Result → Shared → Prop),
      Inv (X.blk s H scope (compEnvC scope cl C X.env) fp) [] (wipe σ (own.map (·.2))) H s1 → Turn X.prog X.w X.K t0 J fp it tn → (∀ b ∈ fp, FpOk (X.blk s H scope (compEnvC scope cl C X.env) fp) [] H b) → tn 0 s1.heap → tCl g tt (tb D) (own.map (·.2)) σ Z J H →
      (∀ s' G, Inv (X.blk s H scope (compEnvC scope cl C X.env) fp) [] (wipe σ (own.map (·.2))) G s' → Z G → R (.ok .next) s') → codeAny (model X.prog X.w) X.A (.compLoop e 0 (.ref it) (.ref D) (compEnvC scope cl C X.env)) R s1)
    (hs : ∀ x, foldedSetIterable i0 X.env x = pure x) : PE X e (fun σ H Q => wi σ H fun J H1 => ∀ D, H1 D = none → tCl g tt (tb D) (own.map (·.2)) σ (fun G => Q (.ref D) G) J (upd H1 D (O0 D))) := by
  obtain ⟨gs, rfl⟩ := hcl
  refine ⟨fun pins s σ H Q I h => ?_⟩
  rw [ev_sc]
  have hfree : ∀ y ∈ scope.names, y.2 = .free → ∃ c, X.env.cells.lookup y.1 = some c := fun y hy e => I.ok.has _ (ok.free y hy e)
  refine wpAny_comprehension_free (use := none) rfl hs (closure_ok hfree) ok.kind (fun y hy e => by rw [ok.uniq y hy, e]) (thn (hi.run pins s σ H _ I h) fun xv s1 hx => thn hx fun itv s2 h2 => ?_)
  obtain ⟨it, fp, tn, J, H2, e, I2, T, st, fr, q⟩ := h2
  subst e
  refine PpSet.newSet_ok (newEnv_comp ?_)
  have hDn : H2 s2.heap.objs.size = none := I2.hok.fresh (Nat.le_refl _)
  have q0 := q _ hDn
  generalize hD : s2.heap.objs.size = D at hDn q0
  have I3 : Inv X pins σ (upd H2 D (O0 D)) { s2 with heap := s2.heap.push (freshSet X.w) } :=
    I2.laid (t' := s2.toks) (fun b o e => Heap.get?_push_of_some _ e) (Nat.le_of_eq hD) (hD ▸ new _ _)
  generalize h3 : ({ s2 with heap := s2.heap.push (freshSet X.w) } : Shared) = s3 at I3
  have e3 : s3.heap = s2.heap.push (freshSet X.w) := by rw [← h3]
  have lt : ∀ b ∈ fp, b < s2.heap.objs.size := fun b hb => by
    obtain ⟨o, e, _⟩ := T.obj _ _ st b hb
    exact Heap.lt_size e
  have fr3 : ∀ b ∈ fp, FpOk X pins (upd H2 D (O0 D)) b ∧ b < s3.heap.objs.size := fun b hb => by
    have l := lt b hb
    refine ⟨⟨?_, (fr b hb).2⟩, by rw [e3, Heap.size_push]; exact Nat.lt_succ_of_lt l⟩
    rw [upd_ne (by rw [← hD]; exact Nat.ne_of_lt l)]
    exact (fr b hb).1
  have st3 : tn 0 s3.heap := T.keep _ _ _ st fun b _ o e => by rw [e3]; exact Heap.get?_push_of_some _ e
  have I4 := block_start I3 ok hN fr3
  have st4 : tn 0 (pushCells (s3.heap.push { cls := .type "dict", data := .dict #[] }) scope.names) := T.keep _ _ _ st3 fun b _ o e => pushCells_keeps _ _ _ _ (Heap.get?_push_of_some _ e)
  have fr4 : ∀ b ∈ fp, FpOk (X.blk s3 (upd H2 D (O0 D)) scope (compEnvC scope (cellsFrom (s3.heap.objs.size + 1) scope.names (cloFrom X.env.cells scope.names [])) s3.heap.objs.size X.env) fp) [] (upd H2 D (O0 D)) b := fun b hb =>
    ⟨(fr3 b hb).1.1, (I4.ok.exf b hb).1, I4.ok.exfs b hb, .inl hb, fun x c e => (I4.ok.exf b hb).2 x c e, fun p hp => absurd (show p ∈ ([] : List (Addr × Obj)) ++ [] from hp) (by simp)⟩
  have run := loop s3 (upd H2 D (O0 D)) _ _ fp it tn J D σ _ _ (compPost (model X.prog X.w) X.A X.xe none (EP X pins σ Q) (.ref D) s3.heap.objs.size) I4 T fr4 st4 q0 fun s' G I' z => by
    have I7 : Inv X pins σ G s' := I3.call' (ch := fp) I'.os I'.base I'.hok I'.bare fun b hb => ⟨(fr3 b hb).1.2.2.2.1, (fr3 b hb).1.2.1, (fr3 b hb).1.2.2.2.2.1, (fr3 b hb).1.2.2.2.2.2⟩
    have nC : G s3.heap.objs.size = none := I'.free
    obtain ⟨m, hm, _⟩ := I'.loc
    obtain ⟨f0, f1, f2, f3, f4, f5⟩ := I3.fpOk (Nat.le_refl _) nC
    exact ⟨m, hm, fun h' sb => ⟨.ref D, G, I7.turned (t' := s'.toks) (fun b o hb e => (sb.2 b hb).trans e) f0 f1 f3 f4 f5, rfl, z⟩⟩
  have fin := PpSet.codeAny_compStart_set run (T.self X.A 0 _ _ _ st4 run)
  subst h3
  subst hD
  exact fin
end
end KB
set_option Elab.async false
set_option linter.all false
set_option maxRecDepth 100000
set_option maxHeartbeats 4000000
namespace KB
open PySem PySem.Spec PyProof.Rows L2
section
variable {X : Cx} {O0 : Addr → HO} {r : AddR} {elt t0 i0 t1 i1 : Expr} {if0 if1 : List Expr} {scope : Scope} {own : List (Str × Nat)} {vs1 : List Nat} {pos : Pos} {wi wi1 : TI} {g g1 : TG} {tt tt1 : TT} {te : TE}
theorem pe_sc1R (hc : X.calm = true) (hN : X.N.Nodup) (hi : PI X t0 i0 wi) (ok : BlkOk X.N X.env.scope scope own) (hg : ∀ (s : Shared) (H : Hp) (C : Addr) (cl : List (Str × Addr)) (fp : List Addr), PG (X.blk s H scope (compEnvC scope cl C X.env) fp) t0 g) (ht : ∀ (s : Shared) (H : Hp) (C : Addr) (cl : List (Str × Addr)) (fp : List Addr), PTs (X.blk s H scope (compEnvC scope cl C X.env) fp) if0 tt) (he : ∀ (s : Shared) (H : Hp) (C : Addr) (cl : List (Str × Addr)) (fp : List Addr), PE (X.blk s H scope (compEnvC scope cl C X.env) fp) elt te)
    (new : ∀ (H : Hp) (h : Heap), ObjOk X.prog X.w H (h.push (freshSet X.w)) h.objs.size (O0 h.objs.size)) (ha : ∀ (s : Shared) (H : Hp) (C : Addr) (cl : List (Str × Addr)) (fp : List Addr), MtR (X.blk s H scope (compEnvC scope cl C X.env) fp) "set.add" r) (hs : ∀ x, foldedSetIterable i0 X.env x = pure x := by intro _; rfl) :
    PE X (sc1 elt t0 i0 if0 scope pos) (tSc1 O0 r wi g tt te (own.map (·.2))) :=
  blk_ok (tb := fun D => tAdd r te D) ⟨_, rfl⟩ hN hi ok new (fun s H C cl fp it tn J D σ s1 Z R I T fr st q k =>
    cl_run (X := X.blk s H scope (compEnvC scope cl C X.env) fp) hc rfl (cl_add1 (elt := elt) (i0 := i0) (scope := scope) (pos := pos) (acc := .ref D)) T (hg s H C cl fp) (ht s H C cl fp)
      (fun pl s' τ G N I' _ q' => add_ok (Y := X.blk s H scope (compEnvC scope cl C X.env) fp) rfl (he s H C cl fp) (ha s H C cl fp) pl s' τ G N I' q') I fr st q fun s' G I' _ z => k s' G I' z) hs
theorem pe_sc2R (hc : X.calm = true) (hN : X.N.Nodup) (hi : PI X t0 i0 wi) (ok : BlkOk X.N X.env.scope scope own) (hv : ∀ i ∈ vs1, i ∈ own.map (·.2)) (hg : ∀ (s : Shared) (H : Hp) (C : Addr) (cl : List (Str × Addr)) (fp : List Addr), PG (X.blk s H scope (compEnvC scope cl C X.env) fp) t0 g) (ht : ∀ (s : Shared) (H : Hp) (C : Addr) (cl : List (Str × Addr)) (fp : List Addr), PTs (X.blk s H scope (compEnvC scope cl C X.env) fp) if0 tt)
    (hi1 : ∀ (s : Shared) (H : Hp) (C : Addr) (cl : List (Str × Addr)) (fp : List Addr), PI (X.blk s H scope (compEnvC scope cl C X.env) fp) t1 i1 wi1) (hg1 : ∀ (s : Shared) (H : Hp) (C : Addr) (cl : List (Str × Addr)) (fp : List Addr), PG (X.blk s H scope (compEnvC scope cl C X.env) fp) t1 g1) (ht1 : ∀ (s : Shared) (H : Hp) (C : Addr) (cl : List (Str × Addr)) (fp : List Addr), PTs (X.blk s H scope (compEnvC scope cl C X.env) fp) if1 tt1) (he : ∀ (s : Shared) (H : Hp) (C : Addr) (cl : List (Str × Addr)) (fp : List Addr), PE (X.blk s H scope (compEnvC scope cl C X.env) fp) elt te)
    (new : ∀ (H : Hp) (h : Heap), ObjOk X.prog X.w H (h.push (freshSet X.w)) h.objs.size (O0 h.objs.size)) (ha : ∀ (s : Shared) (H : Hp) (C : Addr) (cl : List (Str × Addr)) (fp : List Addr), MtR (X.blk s H scope (compEnvC scope cl C X.env) fp) "set.add" r) (hs : ∀ x, foldedSetIterable i0 X.env x = pure x := by intro _; rfl) (hs1 : ∀ env x, foldedSetIterable i1 env x = pure x := by intro _ _; rfl) :
    PE X (sc2 elt t0 i0 t1 i1 if0 if1 scope pos) (tSc2 O0 r wi g tt wi1 g1 tt1 te (own.map (·.2)) vs1) :=
  blk_ok (tb := fun D => tInn r wi1 g1 tt1 te vs1 D) ⟨_, rfl⟩ hN hi ok new (fun s H C cl fp it tn J D σ s1 Z R I T fr st q k =>
    cl_run (X := X.blk s H scope (compEnvC scope cl C X.env) fp) hc rfl (cl_in (elt := elt) (t0 := t0) (i0 := i0) (t1 := t1) (if0 := if0) (if1 := if1) (scope := scope) (pos := pos) (acc := .ref D) (hs1 _)) T (hg s H C cl fp) (ht s H C cl fp)
      (fun pl s' τ G N I' _ q' => inn_ok (Y := X.blk s H scope (compEnvC scope cl C X.env) fp) hc rfl hv (hi1 s H C cl fp) (hg1 s H C cl fp) (ht1 s H C cl fp) (he s H C cl fp) (ha s H C cl fp) pl s' τ G N I' q') I fr st q fun s' G I' _ z => k s' G I' z) hs
/-- of ints -/
theorem pe_sc1I (hc : X.calm = true) (hN : X.N.Nodup) (hi : PI X t0 i0 wi) (ok : BlkOk X.N X.env.scope scope own) (hg : ∀ (s : Shared) (H : Hp) (C : Addr) (cl : List (Str × Addr)) (fp : List Addr), PG (X.blk s H scope (compEnvC scope cl C X.env) fp) t0 g) (ht : ∀ (s : Shared) (H : Hp) (C : Addr) (cl : List (Str × Addr)) (fp : List Addr), PTs (X.blk s H scope (compEnvC scope cl C X.env) fp) if0 tt) (he : ∀ (s : Shared) (H : Hp) (C : Addr) (cl : List (Str × Addr)) (fp : List Addr), PE (X.blk s H scope (compEnvC scope cl C X.env) fp) elt te) (hs : ∀ x, foldedSetIterable i0 X.env x = pure x := by intro _; rfl) :
    PE X (sc1 elt t0 i0 if0 scope pos) (tSc1 (fun D => SetO X.w D (fun _ => false) 0) (rSAdd X.w) wi g tt te (own.map (·.2))) :=
  pe_sc1R hc hN hi ok hg ht he (fun _ _ => setO_new (setR_fresh X.w)) (fun _ _ _ _ _ => mt_sadd) hs
theorem pe_sc2I (hc : X.calm = true) (hN : X.N.Nodup) (hi : PI X t0 i0 wi) (ok : BlkOk X.N X.env.scope scope own) (hv : ∀ i ∈ vs1, i ∈ own.map (·.2)) (hg : ∀ (s : Shared) (H : Hp) (C : Addr) (cl : List (Str × Addr)) (fp : List Addr), PG (X.blk s H scope (compEnvC scope cl C X.env) fp) t0 g) (ht : ∀ (s : Shared) (H : Hp) (C : Addr) (cl : List (Str × Addr)) (fp : List Addr), PTs (X.blk s H scope (compEnvC scope cl C X.env) fp) if0 tt)
    (hi1 : ∀ (s : Shared) (H : Hp) (C : Addr) (cl : List (Str × Addr)) (fp : List Addr), PI (X.blk s H scope (compEnvC scope cl C X.env) fp) t1 i1 wi1) (hg1 : ∀ (s : Shared) (H : Hp) (C : Addr) (cl : List (Str × Addr)) (fp : List Addr), PG (X.blk s H scope (compEnvC scope cl C X.env) fp) t1 g1) (ht1 : ∀ (s : Shared) (H : Hp) (C : Addr) (cl : List (Str × Addr)) (fp : List Addr), PTs (X.blk s H scope (compEnvC scope cl C X.env) fp) if1 tt1) (he : ∀ (s : Shared) (H : Hp) (C : Addr) (cl : List (Str × Addr)) (fp : List Addr), PE (X.blk s H scope (compEnvC scope cl C X.env) fp) elt te)
    (hs : ∀ x, foldedSetIterable i0 X.env x = pure x := by intro _; rfl) (hs1 : ∀ env x, foldedSetIterable i1 env x = pure x := by intro _ _; rfl) :
    PE X (sc2 elt t0 i0 t1 i1 if0 if1 scope pos) (tSc2 (fun D => SetO X.w D (fun _ => false) 0) (rSAdd X.w) wi g tt wi1 g1 tt1 te (own.map (·.2)) vs1) :=
  pe_sc2R hc hN hi ok hv hg ht hi1 hg1 ht1 he (fun _ _ => setO_new (setR_fresh X.w)) (fun _ _ _ _ _ => mt_sadd) hs hs1
end
/-- a clause over what a Walk tells: I holds ahead of each turn -/
theorem cl_walk {J : It} {n : Nat} {G0 : Hp → Prop} {Y : Nat → Hp → V → Hp → Prop} {g : TG} {tt : TT} {tb : L2.St → Hp → (Hp → Prop) → Prop} {vs : List Nat} {σ : L2.St} {Z : Hp → Prop} {H : Hp} (w : Walk J n G0 Y) (I : Nat → Hp → Prop) (h0 : I 0 H) (hp : ∀ i G, i ≤ n → I i G → G0 G)
    (turn : ∀ (i : Nat) (x : V) (G G' : Hp), i < n → I i G → Y i G x G' → g x (wipe σ vs) G' fun σ2 H2 => wipe σ2 vs = wipe σ vs ∧ tt σ2 H2 fun b H3 => if b = true then tb σ2 H3 (I (i + 1)) else I (i + 1) H3) (fin : ∀ G, I n G → Z G) :
    tCl g tt tb vs σ Z J H := by
  refine ⟨fun i m G => m = n - i ∧ i ≤ n ∧ I i G, ⟨n, by simp, Nat.zero_le _, h0⟩, ?_⟩
  rintro i m G ⟨rfl, hi, z⟩
  by_cases lt : i < n
  · exact .inr ⟨w.goes i G lt (hp i G hi z), I (i + 1), fun G' z' => ⟨n - (i + 1), by omega, rfl, lt, z'⟩, fun x G' y => turn i x G G' lt z (w.yields i G x G' lt (hp i G hi z) y)⟩
  · obtain rfl : i = n := by omega
    exact .inl ⟨w.stops G (hp i G hi z), fin G z⟩
end KB
set_option Elab.async false
set_option linter.all false
set_option maxRecDepth 100000
set_option maxHeartbeats 4000000
/-! max(xs, default=d), xs a list of ints. -/
namespace KB
open PySem PySem.Spec PyProof.Rows L2
def kwD (dv : Value) : List (Str × Value) := [(Str.ofString "default", dv)]
abbrev mxC (J S : Addr) (dv : Value) : Code := .builtin "max.loop" ⟨[.ref J, .none, .ref S], kwD dv⟩
section
variable {prog : Program} {w : World} {A : Around} {R : Result → Shared → Prop} {J S : Addr} {fq wq : List Addr} {N : Nat} {Iv : Nat → Value → Prop} {Sv : Nat → Heap → Prop} {dv : Value}
theorem mx_name : (toString "max" ++ toString ".loop" : String) = "max.loop" := by decide
/-- what is promised of the end -/
def MxEnd (R : Result → Shared → Prop) (S : Addr) (wq : List Addr) (G : Value → Prop) (s : Shared) : Prop :=
  ∀ (v : Value) (h' : Heap) (tk : Nat), G v → (∀ (b : Addr) (o : Obj), b ∉ wq → b ≠ S → s.heap.get? b = some o → h'.get? b = some o) → R (.ok (.ret v)) { s with heap := h', toks := tk }
theorem MxEnd.on {G : Value → Prop} {s : Shared} {h1 : Heap} {t1 : Nat} (m : MxEnd R S wq G s) (k : ∀ (b : Addr) (o : Obj), b ∉ wq → b ≠ S → s.heap.get? b = some o → h1.get? b = some o) : MxEnd R S wq G { s with heap := h1, toks := t1 } :=
  fun v h' tk g kk => m v h' tk g fun b o n1 n2 e => kk b o n1 n2 (k b o n1 n2 e)
theorem mx_turns (Wk : Walks prog w A.in1 J fq wq N Iv Sv) (bt : Nat → Nat → Bool) (C : CmpOf prog w A.in1 .Gt Iv bt) (nS : S ∉ fq) (d : Nat) : ∀ (i : Nat) (s : Shared) (u : Value) (cap : Nat), N = (i + 1) + d → Sv (i + 1) s.heap → Iv (argBest bt i) u →
    s.heap.get? S = some { cls := .type "list", dict := none, data := .seq #[u, u] cap, slots := #[] } → MxEnd R S wq (Iv (argBest bt (N - 1))) s → codeAny (model prog w) A (mxC J S dv) R s := by
  have nw : S ∉ wq := fun m => nS (Wk.sub _ m)
  induction d with
  | zero =>
    intro i s u cap hN hSt hI hS hE
    have eN : i + 1 = N := by omega
    refine codeAny_builtin PySem.F.entry_max_loop ?_
    rw [Around.under_plainId PySem.F.plain_max_loop _]
    show wpAny _ A.in1 (seqItems? (.ref S) >>= _) _ _ s
    refine wpAny_bind (wpAny_seqItems hS rfl ?_)
    show wpAny _ A.in1 (tryCatch (pyNext (.ref J)) _ >>= _) _ _ s
    refine wpAny_bind (wpAny_tryCatch (Wk.done s _ _ (by rw [← eN]; exact hSt) fun h1 t1 k1 => ?_))
    have hS1 := k1 S _ nw hS
    show wpAny _ A.in1 (updateSeq S (fun _ => #[]) >>= _) _ _ _
    refine wpAny_bind (wpAny_updateSeq hS1 rfl (wpAny_bind (wpAny_letGo (wpAny_pure ?_))))
    refine hE u _ t1 (by rw [← eN]; exact hI) fun b o n1 n2 e => ?_
    exact (Heap.get?_update_other _ _ (Ne.symm n2)).trans (k1 b o n1 e)
  | succ d ih =>
    intro i s u cap hN hSt hI hS hE
    have hi : i + 1 < N := by omega
    refine codeAny_builtin PySem.F.entry_max_loop ?_
    rw [Around.under_plainId PySem.F.plain_max_loop _]
    show wpAny _ A.in1 (seqItems? (.ref S) >>= _) _ _ s
    refine wpAny_bind (wpAny_seqItems hS rfl ?_)
    show wpAny _ A.in1 (tryCatch (pyNext (.ref J)) _ >>= _) _ _ s
    refine wpAny_bind (wpAny_tryCatch (Wk.item (i + 1) s _ _ hi hSt fun v h1 t1 hv hSt1 k1 => ?_))
    have hS1 := k1 S _ nw hS
    show wpAny _ A.in1 (tryCatch (holding [v, v] (richCompare .Gt v u >>= _)) _ >>= _) _ _ _
    refine wpAny_bind (wpAny_tryCatch (wpAny_holding (wpAny_bind (C (i + 1) (argBest bt i) v u _ _ _ hv hI ?_))))
    refine wpAny_bind (wpAny_holding (wpAny_truthy_bool (wpAny_bind (wpAny_letGo (wpAny_pure ?_)))))
    cases q : bt (i + 1) (argBest bt i) with
    | true =>
      have eB : argBest bt (i + 1) = i + 1 := by simp only [argBest, q, if_true]
      simp only [if_true]
      refine wpAny_bind (wpAny_updateSeq hS1 rfl (wpAny_bind (wpAny_letGo ?_)))
      rw [mx_name]
      refine wpAny_pure ⟨plainId_quiet PySem.F.plain_max_loop _, ih (i + 1) _ v _ (by omega) (Wk.frame _ _ _ hSt1 fun b hb o e => ?_) (by rw [eB]; exact hv) (Heap.get?_update_self _ hS1 rfl) (hE.on fun b o n1 n2 e => ?_)⟩
      · exact (Heap.get?_update_other _ _ (fun z : S = b => nS (z ▸ hb))).trans e
      · exact (Heap.get?_update_other _ _ (Ne.symm n2)).trans (k1 b o n1 e)
    | false =>
      have eB : argBest bt (i + 1) = argBest bt i := by simp only [argBest, q, Bool.false_eq_true, if_false]
      simp only [Bool.false_eq_true, if_false]
      refine wpAny_bind (wpAny_letGo ?_)
      rw [mx_name]
      exact wpAny_pure ⟨plainId_quiet PySem.F.plain_max_loop _, ih (i + 1) _ u cap (by omega) hSt1 (by rw [eB]; exact hI) hS1 (hE.on fun b o n1 n2 e => k1 b o n1 e)⟩
/-- from the first turn on -/
theorem mx_first (Wk : Walks prog w A.in1 J fq wq N Iv Sv) (bt : Nat → Nat → Bool) (C : CmpOf prog w A.in1 .Gt Iv bt) (nS : S ∉ fq) {s : Shared} {cap : Nat} (hSt : Sv 0 s.heap)
    (hS : s.heap.get? S = some { cls := .type "list", dict := none, data := .seq #[] cap, slots := #[] }) (h0 : N = 0 → MxEnd R S wq (fun v => v = dv) s) (h1 : 0 < N → MxEnd R S wq (Iv (argBest bt (N - 1))) s) : codeAny (model prog w) A (mxC J S dv) R s := by
  have nw : S ∉ wq := fun m => nS (Wk.sub _ m)
  refine codeAny_builtin PySem.F.entry_max_loop ?_
  rw [Around.under_plainId PySem.F.plain_max_loop _]
  show wpAny _ A.in1 (seqItems? (.ref S) >>= _) _ _ s
  refine wpAny_bind (wpAny_seqItems hS rfl ?_)
  show wpAny _ A.in1 (tryCatch (pyNext (.ref J)) _ >>= _) _ _ s
  rcases Nat.eq_zero_or_pos N with e | hN
  · refine wpAny_bind (wpAny_tryCatch (Wk.done s _ _ (by rw [e]; exact hSt) fun h' tk k' => ?_))
    show wpAny _ A.in1 (rule (toString "max" ++ toString ".default") >>= fun _ => ret dv) _ _ _
    refine wpAny_bind (wpAny_rule ?_)
    exact wpAny_pure (h0 e dv h' tk rfl fun b o n1 n2 ee => k' b o n1 ee)
  · refine wpAny_bind (wpAny_tryCatch (Wk.item 0 s _ _ hN hSt fun v h' tk hv hSt1 k' => ?_))
    have hS1 := k' S _ nw hS
    show wpAny _ A.in1 (updateSeq S (fun _ => #[v, v]) >>= _) _ _ _
    refine wpAny_bind (wpAny_updateSeq hS1 rfl ?_)
    rw [mx_name]
    refine wpAny_pure ⟨plainId_quiet PySem.F.plain_max_loop _, mx_turns Wk bt C nS (N - 1) 0 _ v _ (by omega) (Wk.frame _ _ _ hSt1 fun b hb o e => ?_) hv (Heap.get?_update_self _ hS1 rfl) ((h1 hN).on fun b o n1 n2 e => ?_)⟩
    · exact (Heap.get?_update_other _ _ (fun z : S = b => nS (z ▸ hb))).trans e
    · exact (Heap.get?_update_other _ _ (Ne.symm n2)).trans (k' b o n1 e)
end
section
variable {prog : Program} {w : World} {A : Around} {E : Value → Shared → Prop} {s : Shared} {l : Addr}
theorem mx_args (a v : Value) : argsOk "max" ⟨[a], kwD v⟩ := by unfold argsOk kwD; kernel_rfl
theorem max_dflt {xs : Array (Int × Tok)} {dv : Value} {Q : Value → Shared → Prop} (hh : A.handled = none) (hl : s.heap.IsList l (intItems xs))
    (k0 : xs.size = 0 → ∀ h' tk, (∀ b o, s.heap.get? b = some o → h'.get? b = some o) → Q dv { s with heap := h', toks := tk })
    (k1 : 0 < xs.size → ∀ v h' tk, (intItems xs)[argBest (fun i j => decide (numAt xs i > numAt xs j)) (xs.size - 1)]? = some v → (∀ b o, s.heap.get? b = some o → h'.get? b = some o) → Q v { s with heap := h', toks := tk }) :
    wpAny (model prog w) A (call (.builtin "max") [.ref l] (kwD dv)) Q E s := by
  have fin : wpAny (model prog w) A.in1 (Builtin.«max» ⟨[.ref l], kwD dv⟩) (fun z s' => match z with
      | .done f => (match (Except.ok f : Result) with | .ok (.ret v) => Q v s' | .ok _ => False | .error e => E e s')
      | .again c' => c'.quiet = true ∧ codeAny (model prog w) A c' (fun r s' => match r with | .ok (.ret v) => Q v s' | .ok _ => False | .error e => E e s') s') E s := by
    show wpAny _ A.in1 (Builtin.Builtins.bindParams "max" ["key", "default"] 0 ⟨[], kwD dv⟩ >>= _) _ _ s
    refine wpAny_bind (wpAny_of_eq (show Builtin.Builtins.bindParams "max" ["key", "default"] 0 ⟨[], kwD dv⟩ = pure [none, some dv] from rfl) ?_)
    refine wpAny_bind (wpAny_pure ?_)
    refine wpAny_bind (iter_intList hl fun s2 e hI hlt ne => ?_)
    subst e
    refine wpAny_bind (wpAny_newObj_type ?_)
    rw [mx_name]
    have nS : s.heap.objs.size + 1 ∉ [s.heap.objs.size, l] := fun m => by
      have hl' : l < s.heap.objs.size := by
        obtain ⟨_, e, _⟩ := hl
        exact Heap.lt_size e
      rcases List.mem_cons.mp m with e | m
      · exact absurd e (Nat.succ_ne_self _)
      · rw [List.mem_singleton] at m
        rw [← m] at hl'
        exact Nat.lt_irrefl _ (Nat.lt_of_succ_lt hl')
    have sz : (s.heap.push { cls := .type "list_iterator", data := .fields #[.ref l, .int 0 0] }).objs.size = s.heap.objs.size + 1 := Heap.size_push ..
    have Wk := Walks.list (prog := prog) (w := w) (A := A.in1) hh s.heap.objs.size l ne (intItems xs)
    have old : ∀ (b : Addr) (o : Obj), s.heap.get? b = some o → b ∉ [s.heap.objs.size] ∧ b ≠ s.heap.objs.size + 1 := fun b o e => by
      have := Heap.lt_size e
      refine ⟨fun m => ?_, Nat.ne_of_lt (Nat.lt_succ_of_lt this)⟩
      rw [List.mem_singleton] at m
      exact Nat.ne_of_lt this m
    refine wpAny_pure ⟨plainId_quiet PySem.F.plain_max_loop _, ?_⟩
    rw [sz]
    refine mx_first (S := s.heap.objs.size + 1) (dv := dv) Wk (fun i j => decide (numAt xs i > numAt xs j)) (CmpOf.ints_gt (numAt xs) fun _ _ => intItems_at) nS (Wk.frame _ _ _ hI fun b _ o e => Heap.get?_push_of_some _ e) (by rw [← sz]; exact Heap.get?_push_size _ rfl) (fun h0 v h' tk g k => ?_) (fun h1 v h' tk g k => ?_)
    · subst g
      exact k0 (by simpa [intItems] using h0) h' tk fun b o e => k b o (old b o e).1 (old b o e).2 (Heap.get?_push_of_some _ (Heap.get?_push_of_some _ e))
    · exact k1 (by simpa [intItems] using h1) v h' tk (by simpa [intItems] using g) fun b o e => k b o (old b o e).1 (old b o e).2 (Heap.get?_push_of_some _ (Heap.get?_push_of_some _ e))
  refine wpAny_call (codeAny_call_builtin PySem.F.plain_max PySem.F.entry_max ?_)
  simp only [checkBuiltinCall, PySem.F.kind_max]
  cases q : Manifest.signature? "max" with
  | none => exact wpAny_pure fin
  | some sig =>
    have ha := mx_args (.ref l) dv
    simp only [argsOk, q] at ha
    show wpAny _ A.in1 (Bind.checkArgs "max" sig ⟨[.ref l], kwD dv⟩) _ _ s
    rw [show Bind.checkArgs "max" sig ⟨[.ref l], kwD dv⟩ = pure () from ha]
    exact wpAny_pure fin
end
section
variable {X : Cx}
/-- max(xs, default=d) -/
def rMaxDf (K : PySem.W.Frag) : List V → List V → Hp → VK → Prop := fun vs zs H Q => ∃ (a : Addr) (ns : List Int) (d : Int), vs = [.ref a] ∧ zs = [.int d] ∧ SqL K H a (ns.map V.int) ∧ ∀ m : Int, (ns = [] → m = d) → (ns ≠ [] → m ∈ ns ∧ ∀ y ∈ ns, y ≤ m) → Q (.int m) H
theorem cr_maxDf (hc : X.calm = true) : CallRK X (.builtin "max") [Str.ofString "default"] (rMaxDf X.K) := by
  intro pins s σ H vs zs us ws Q I r rz h
  obtain ⟨a, ns, d, rfl, rfl, hs, q⟩ := h
  obtain ⟨dv, rfl, rd⟩ := rz.one
  obtain ⟨its, rv, hl, _⟩ := I.list hs
  rw [Vals.ref1 r]
  obtain ⟨xs, e⟩ := rv.ints.allInts.items
  have hn : numsOf (intItems xs).toList = ns := by
    rw [← e]
    exact rv.ints.numsOf
  rw [nums_intItems] at hn
  have hl' := hl.isList
  rw [e] at hl'
  have ln : ns.length = xs.size := by rw [← hn, List.length_map, Array.length_toList]
  refine max_dflt (I.ok.hd hc) hl' (fun h0 h' tk k => ?_) (fun h1 v h' tk hv k => ?_)
  · have e0 : ns = [] := List.eq_nil_of_length_eq_zero (by omega)
    exact ⟨.int d, H, I.kept k, rd, q d (fun _ => rfl) fun z => absurd e0 z⟩
  · obtain ⟨t, rfl⟩ := intItems_at hv
    obtain ⟨b1, b2⟩ := argBest_gt (numAt xs) (xs.size - 1)
    have ne : ns ≠ [] := fun z => by
      rw [z] at ln
      simp at ln
      omega
    refine ⟨.int _, H, I.kept k, ⟨_, rfl⟩, q _ (fun z => absurd z ne) fun _ => ⟨?_, fun y hy => ?_⟩⟩
    · rw [numAt_eq, hn]
      exact PySem.getD_mem (by omega)
    · obtain ⟨j, hj, rfl⟩ := mem_getD hy
      rw [← hn, ← numAt_eq]
      exact b2 j (by omega)
end
end KB
set_option Elab.async false
set_option linter.all false
set_option maxRecDepth 100000
set_option maxHeartbeats 4000000
/-! Lives as data; dictionaries from numbers to things. -/
namespace K17
open PySem PySem.Spec PyProof.Rows L2 KB
structure FreeS (mg : Str → Option Value) : Prop extends Free mg where
  tstr : mg "str" = none
  sorted : mg "sorted" = none
theorem SqT_up {K : PySem.W.Frag} {H H' : Hp} {a : Addr} {xs : List V} (k : Same H H') (h : SqT K H a xs) : SqT K H' a xs := by
  rcases h with (h | ⟨o, h⟩) | h
  · exact .inl (.inl (k _ _ h))
  · exact .inl (.inr ⟨o, k _ _ h⟩)
  · exact .inr h
theorem SqT_but {K : PySem.W.Frag} {H H' : Hp} {a pu : Addr} {xs : List V} (k : But pu H H') (h : SqT K H a xs) (q : ∃ ys, H pu = some (.lst ys)) : SqT K H' a xs := by
  obtain ⟨ys, q⟩ := q
  rcases h with (h | ⟨o, h⟩) | h
  · refine .inl (.inl (k _ _ (fun z => ?_) h))
    rw [z, q] at h
    cases h
  · refine .inl (.inr ⟨o, k _ _ (fun z => ?_) h⟩)
    rw [z, q] at h
    cases h
  · exact .inr h
theorem sqT_ty {K : PySem.W.Frag} {H : Hp} {a : Addr} {xs : List V} (h : SqT K H a xs) : TyX K H (.ref a) (.type "tuple") := by
  rcases h with (h | ⟨o, h⟩) | ⟨o, its, n, e1, e2, _⟩
  · exact .base (.tup h)
  · exact .fTuple h
  · exact .kTuple e1 e2
def Ev.v : Ev → List V
  | .wr c => [.str "write", .int (c : Int)]
  | .bar => [.str "barrier"]
  | .tell => [.str "tell"]
def Ev.d : Ev → PyData
  | .wr c => .tuple [.str "write", .int (c : Int)]
  | .bar => .tuple [.str "barrier"]
  | .tell => .tuple [.str "tell"]
def numsV (l : List Nat) : List V := l.map fun x : Nat => V.int (x : Int)
/-- a dictionary made over what a Walk tells -/
theorem dc_walk {J : It} {n : Nat} {G0 : Hp → Prop} {Y : Nat → Hp → V → Hp → Prop} {g : TG} {tt : TT} {tk tv : TE} {vs : List Nat} {σ : L2.St} {H1 : Hp} {D : Addr} {Z : Hp → Prop} (w : Walk J n G0 Y) (I : Nat → Hp → Prop) (h0 : I 0 (upd H1 D (.dK []))) (hp : ∀ i G, i ≤ n → I i G → G0 G)
    (turn : ∀ (i : Nat) (x : V) (G G' : Hp), i < n → I i G → Y i G x G' → g x (wipe σ vs) G' fun σ2 H2 => wipe σ2 vs = wipe σ vs ∧ tt σ2 H2 fun b H3 =>
      if b = true then tk σ2 H3 fun y H4 => tv σ2 H4 fun z H5 => ∃ kvs k, y = kV k ∧ H5 D = some (.dK kvs) ∧ kvs.length < sizeLine ∧ I (i + 1) (upd H5 D (.dK (putK kvs k z))) else I (i + 1) H3) (fin : ∀ G, I n G → Z G) :
    ∃ W : Nat → Nat → Hp → Prop, (∃ m, W 0 m (upd H1 D (.dK []))) ∧ ∀ i m H, W i m H → (J.stop i H ∧ Z H) ∨ (J.go i H ∧ ∃ Nx : Hp → Prop, (∀ H', Nx H' → ∃ m', m' < m ∧ W (i + 1) m' H') ∧ ∀ x H', J.yld i H x H' → g x (wipe σ vs) H' fun σ2 H2 => wipe σ2 vs = wipe σ vs ∧ tt σ2 H2 fun b H3 =>
      if b = true then tk σ2 H3 fun y H4 => tv σ2 H4 fun z H5 => ∃ kvs k, y = kV k ∧ H5 D = some (.dK kvs) ∧ kvs.length < sizeLine ∧ Nx (upd H5 D (.dK (putK kvs k z))) else Nx H3) := by
  refine ⟨fun i m G => m = n - i ∧ i ≤ n ∧ I i G, ⟨n, by simp, Nat.zero_le _, h0⟩, ?_⟩
  rintro i m G ⟨rfl, hi, z⟩
  by_cases lt : i < n
  · exact .inr ⟨w.goes i G lt (hp i G hi z), I (i + 1), fun G' z' => ⟨n - (i + 1), by omega, rfl, lt, z'⟩, fun x G' y => turn i x G G' lt z (w.yields i G x G' lt (hp i G hi z) y)⟩
  · obtain rfl : i = n := by omega
    exact .inl ⟨w.stops G (hp i G hi z), fin G z⟩
abbrev ky (p : Nat) : Key := Sum.inl (p : Int)
def dV (ps : List Nat) (f : Nat → V) : List (Key × V) := ps.map fun p => (ky p, f p)
theorem ky_inj {p q : Nat} : ky p = ky q ↔ p = q := by
  constructor
  · intro h
    have := Sum.inl.inj h
    omega
  · exact fun h => h ▸ rfl
theorem dV_len (ps : List Nat) (f : Nat → V) : (dV ps f).length = ps.length := List.length_map _
theorem dV_val {ps : List Nat} {f : Nat → V} {p : Nat} (h : p ∈ ps) : valV (dV ps f) (ky p) = some (f p) := by
  induction ps with
  | nil => cases h
  | cons q ps ih =>
    by_cases e : q = p
    · subst e
      exact valV_pos rfl
    · have h' : p ∈ ps := by
        rcases List.mem_cons.mp h with h | h
        · exact absurd h.symm e
        · exact h
      unfold valV at ih ⊢
      have ne : ¬ (ky q = ky p) := fun z => e (ky_inj.mp z)
      show ((dV (q :: ps) f).find? _).map _ = _
      unfold dV
      rw [List.map_cons, List.find?_cons_of_neg (by simpa using ne)]
      exact ih h'
theorem dV_none {ps : List Nat} {f : Nat → V} {p : Nat} (h : p ∉ ps) : valV (dV ps f) (ky p) = none := by
  unfold valV dV
  rw [Option.map_eq_none_iff, List.find?_eq_none]
  intro kv hkv
  obtain ⟨q, hq, rfl⟩ := List.mem_map.mp hkv
  intro z
  exact h (ky_inj.mp (of_decide_eq_true z) ▸ hq)
def put (f : Nat → V) (p : Nat) (v : V) : Nat → V := fun q => if q = p then v else f q
theorem dV_any {ps : List Nat} {f : Nat → V} {p : Nat} : ((dV ps f).any fun kv => decide (kv.1 = ky p)) = decide (p ∈ ps) := by
  unfold dV
  rw [List.any_map]
  by_cases h : p ∈ ps
  · rw [decide_eq_true h, List.any_eq_true]
    exact ⟨p, h, decide_eq_true rfl⟩
  · rw [decide_eq_false h, List.any_eq_false]
    intro q hq z
    exact h (ky_inj.mp (of_decide_eq_true z) ▸ hq)
theorem dV_put {ps : List Nat} {f : Nat → V} {p : Nat} {v : V} (h : p ∈ ps) : putK (dV ps f) (ky p) v = dV ps (put f p v) := by
  unfold putK
  rw [dV_any, decide_eq_true h, if_pos rfl]
  unfold dV
  rw [List.map_map]
  refine List.map_congr_left fun q hq => ?_
  show (if ky q = ky p then (ky q, v) else (ky q, f q)) = (ky q, put f p v q)
  unfold put
  by_cases e : q = p
  · rw [if_pos e, if_pos (ky_inj.mpr e)]
  · rw [if_neg e, if_neg fun z => e (ky_inj.mp z)]
theorem dV_new {ps : List Nat} {f : Nat → V} {p : Nat} {v : V} (h : p ∉ ps) : putK (dV ps f) (ky p) v = dV (ps ++ [p]) (put f p v) := by
  unfold putK
  rw [dV_any, decide_eq_false h, if_neg Bool.false_ne_true]
  unfold dV
  rw [List.map_append]
  refine congr (congrArg _ (List.map_congr_left fun q hq => ?_)) ?_
  · unfold put
    rw [if_neg (fun e : q = p => h (e ▸ hq))]
  · simp [put]
theorem dV_congr {ps : List Nat} {f g : Nat → V} (h : ∀ p ∈ ps, f p = g p) : dV ps f = dV ps g := List.map_congr_left fun p hp => by rw [h p hp]
/-- marks: a number for each page -/
abbrev mV (ps : List Nat) (m : Nat → Nat) : List (Key × V) := dV ps fun p => .int (m p : Int)
def putN (m : Nat → Nat) (p n : Nat) : Nat → Nat := fun q => if q = p then n else m q
theorem mV_put {ps : List Nat} {m : Nat → Nat} {p n : Nat} (h : p ∈ ps) : putK (mV ps m) (ky p) (.int (n : Int)) = mV ps (putN m p n) := by
  rw [dV_put h]
  refine dV_congr fun q _ => ?_
  unfold put putN
  by_cases e : q = p
  · rw [if_pos e, if_pos e]
  · rw [if_neg e, if_neg e]
theorem merge_dV : ∀ {qs ps : List Nat} {f : Nat → V}, (ps ++ qs).Nodup → mergeK (dV ps f) (dV qs f) = dV (ps ++ qs) f
  | [], ps, f, _ => by
    rw [List.append_nil]
    rfl
  | q :: qs, ps, f, h => by
    have nq : q ∉ ps := fun m => by
      have := List.nodup_append.mp h
      exact this.2.2 q m q List.mem_cons_self rfl
    have e : mergeK (dV ps f) (dV (q :: qs) f) = mergeK (putK (dV ps f) (ky q) (f q)) (dV qs f) := rfl
    have e2 : dV (ps ++ [q]) (put f q (f q)) = dV (ps ++ [q]) f := dV_congr fun p _ => by
      unfold put
      split
      · next z => rw [z]
      · rfl
    rw [e, dV_new nq, e2, merge_dV (by rw [List.append_assoc]; exact h), List.append_assoc]
    rfl
theorem merge_dV0 {qs : List Nat} {f : Nat → V} (h : qs.Nodup) : mergeK [] (dV qs f) = dV qs f := merge_dV (ps := []) h
end K17
set_option Elab.async false
set_option linter.all false
namespace KB
open PySem PySem.Spec PyProof.Rows L2
/-- all but what stands at D -/
def off (H : Hp) (D : Addr) : Hp := fun b => if b = D then none else H b
theorem off_at {H : Hp} {D b : Addr} (n : b ≠ D) : off H D b = H b := if_neg n
theorem off_same {H H' : Hp} (D : Addr) (k : Same H H') : Same (off H D) (off H' D) := fun b o e => by
  by_cases n : b = D
  · unfold off at e
    rw [if_pos n] at e
    cases e
  · rw [off_at n] at e ⊢
    exact k _ _ e
theorem off_le (H : Hp) (D : Addr) : Same (off H D) H := fun b o e => by
  by_cases n : b = D
  · unfold off at e
    rw [if_pos n] at e
    cases e
  · rw [off_at n] at e
    exact e
theorem off_upd (H : Hp) (D : Addr) (o : HO) : off (upd H D o) D = off H D := by
  funext b
  unfold off
  by_cases n : b = D
  · rw [if_pos n, if_pos n]
  · rw [if_neg n, if_neg n, upd_ne n]
theorem off_in {H G : Hp} {D : Addr} (k : Same H G) (n : H D = none) : Same H (off G D) := fun b o e => by
  rw [off_at (ne_of_none e n)]
  exact k b o e
end KB
set_option Elab.async false
set_option linter.all false
set_option maxRecDepth 100000
set_option maxHeartbeats 8000000
namespace K17
open PySem PySem.Spec PyProof.Rows L2 KB RZ
abbrev s_exact : Stmt := top 39
abbrev N_exact : List Str := ["_law_mine", "_law_theirs", "_law_alike", "_law_a", "_law_b", "_law_key"]
theorem sc_exact : FnScope N_exact ["_law_mine", "_law_theirs"] (defScope s_exact) := ⟨rfl, rfl, rfl, by decide +kernel, rfl, by decide +kernel, by decide +kernel⟩
/-- as Tr, with dictionaries of marks -/
def TD (K : PySem.W.Frag) (H : Hp) : Nat → V → PyData → Prop
  | 0, x, d => FlatD x d
  | n + 1, x, d => FlatD x d ∨ (∃ (a : Addr) (xs : List V) (ds : List PyData), x = .ref a ∧ xs.length = ds.length ∧ ds.length ≤ 1000 ∧ ((H a = some (.lst xs) ∧ d = .list ds) ∨ (SqT K H a xs ∧ d = .tuple ds)) ∧
      ∀ (i : Nat) (u : V) (e : PyData), xs[i]? = some u → ds[i]? = some e → TD K H n u e) ∨ ∃ (a : Addr) (ps : List Nat) (m : Nat → Nat), x = .ref a ∧ (1 ≤ n ∧ ps.length ≤ 1000 ∧ ps.Nodup) ∧ H a = some (.dK (mV ps m)) ∧ d = .dict (ps.map fun p : Nat => (.int (p : Int), .int (m p : Int)))
theorem TD.same {K : PySem.W.Frag} {H H' : Hp} (k : Same H H') : ∀ {n : Nat} {x : V} {d : PyData}, TD K H n x d → TD K H' n x d
  | 0, _, _, h => h
  | n + 1, _, _, h => by
    rcases h with h | ⟨a, xs, ds, e, l, l1, t, c⟩ | ⟨a, ps, m, e, n1, ha, ed⟩
    · exact .inl h
    · refine .inr (.inl ⟨a, xs, ds, e, l, l1, ?_, fun i u v e1 e2 => TD.same k (c i u v e1 e2)⟩)
      rcases t with ⟨t1, t2⟩ | ⟨t1, t2⟩
      · exact .inl ⟨k _ _ t1, t2⟩
      · exact .inr ⟨SqT_up k t1, t2⟩
    · exact .inr (.inr ⟨a, ps, m, e, n1, k _ _ ha, ed⟩)
theorem TD.of {K : PySem.W.Frag} {H : Hp} : ∀ {n : Nat} {x : V} {d : PyData}, Tr H n x d → TD K H n x d
  | 0, _, _, h => h
  | n + 1, _, _, h => by
    rcases h with h | ⟨a, xs, ds, e, l, l1, t, c⟩
    · exact .inl h
    · exact .inr (.inl ⟨a, xs, ds, e, l, l1, t.imp id (fun z => ⟨SqT.of z.1, z.2⟩), fun i u v e1 e2 => TD.of (c i u v e1 e2)⟩)
theorem TD.up {K : PySem.W.Frag} {H : Hp} : ∀ {n : Nat} {x : V} {d : PyData}, TD K H n x d → TD K H (n + 1) x d
  | 0, _, _, h => .inl h
  | n + 1, _, _, h => by
    rcases h with h | ⟨a, xs, ds, e, l, l1, t, c⟩ | h
    · exact .inl h
    · exact .inr (.inl ⟨a, xs, ds, e, l, l1, t, fun i u v e1 e2 => TD.up (c i u v e1 e2)⟩)
    · obtain ⟨a, ps, m, e, n1, r⟩ := h
      exact .inr (.inr ⟨a, ps, m, e, ⟨by omega, n1.2⟩, r⟩)
theorem TD.lst {K : PySem.W.Frag} {H : Hp} {n : Nat} {a : Addr} {xs : List V} {ds : List PyData} (h : H a = some (.lst xs)) (l : xs.length = ds.length) (s : ds.length ≤ 1000) (k : ∀ (i : Nat) (u : V) (e : PyData), xs[i]? = some u → ds[i]? = some e → TD K H n u e) : TD K H (n + 1) (.ref a) (.list ds) :=
  .inr (.inl ⟨a, xs, ds, rfl, l, s, .inl ⟨h, rfl⟩, k⟩)
theorem TD.dct {K : PySem.W.Frag} {H : Hp} {n : Nat} {a : Addr} {ps : List Nat} {m : Nat → Nat} (h : H a = some (.dK (mV ps m))) (l : ps.length ≤ 1000) (nd : ps.Nodup) : TD K H (n + 2) (.ref a) (.dict (ps.map fun p : Nat => (.int (p : Int), .int (m p : Int)))) := .inr (.inr ⟨a, ps, m, rfl, ⟨by omega, l, nd⟩, h, rfl⟩)
theorem TD.flat {K : PySem.W.Frag} {H : Hp} {n : Nat} {x : V} {d : PyData} (h : FlatD x d) : TD K H n x d := by
  cases n with
  | zero => exact h
  | succ n => exact .inl h
theorem td_cons {K : PySem.W.Frag} {H : Hp} {n : Nat} {x : V} {xs : List V} {d : PyData} {ds : List PyData} (h : TD K H n x d) (k : ∀ (i : Nat) (u : V) (e : PyData), xs[i]? = some u → ds[i]? = some e → TD K H n u e) : ∀ (i : Nat) (u : V) (e : PyData), (x :: xs)[i]? = some u → (d :: ds)[i]? = some e → TD K H n u e := fun i u e h1 h2 => by
  cases i with
  | zero =>
    cases h1
    cases h2
    exact h
  | succ i => exact k i u e h1 h2
theorem td_nil {K : PySem.W.Frag} {H : Hp} {n : Nat} : ∀ (i : Nat) (u : V) (e : PyData), ([] : List V)[i]? = some u → ([] : List PyData)[i]? = some e → TD K H n u e := fun i u e h1 h2 => by simp at h1
theorem dict_inj : ∀ {ps qs : List Nat} {m m' : Nat → Nat}, (ps.map fun p : Nat => (PyData.int (p : Int), PyData.int (m p : Int))) = (qs.map fun p : Nat => (PyData.int (p : Int), PyData.int (m' p : Int))) → ps = qs ∧ ∀ p ∈ ps, m p = m' p
  | [], [], _, _, _ => ⟨rfl, fun p h => nomatch h⟩
  | [], q :: qs, _, _, e => by cases e
  | p :: ps, [], _, _, e => by cases e
  | p :: ps, q :: qs, m, m', e => by
    rw [List.map_cons, List.map_cons] at e
    obtain ⟨e1, e2⟩ := List.cons.inj e
    have h1 := PyData.int.inj (congrArg Prod.fst e1)
    have h2 := PyData.int.inj (congrArg Prod.snd e1)
    have hp : p = q := by omega
    subst hp
    obtain ⟨h3, h4⟩ := dict_inj e2
    refine ⟨by rw [h3], fun r hr => ?_⟩
    rcases List.mem_cons.mp hr with rfl | hr
    · omega
    · exact h4 r hr
theorem mV_val {ps : List Nat} {m : Nat → Nat} {p : Nat} (h : p ∈ ps) : valV (mV ps m) (ky p) = some (.int (m p : Int)) := dV_val h
def spExactD (K : PySem.W.Frag) (n : Nat) : Sp := fun vs H Q _ => ∃ (x y : V) (d : PyData), vs = [x, y] ∧ TD K H n x d ∧ TD K H n y d ∧ ∀ H', Same H H' → Q (.bl true) H'
section
variable {P : Program} {w : World} {K : PySem.W.Frag} {mg : Str → Option Value} {base : Heap} {f : Addr} {fd : FuncData}
theorem ok_exact (F : FnP K "_law_exact" s_exact f fd) (Z : FreeS mg) (gE : mg "_law_exact" = some (.ref f)) : ∀ n : Nat, FnOk P w K mg base CX0 (n + 1) f fd ["_law_mine", "_law_theirs"] (spExactD K n) := by
  have bE : Binds K fd ["_law_mine", "_law_theirs"] [] := F.bindsN fun _ _ _ _ _ _ us hl => match us, hl with | [_, _], _ => rfl
  have kitF : ∀ {t : String}, kitB t "list" = some false → kitB t "tuple" = some false → PySem.W.kitAny K (.type t) [.type "list", .type "tuple"] = some false := fun h1 h2 =>
    kitAny_cons (kit_ty h1) (fun _ => kitAny_cons (kit_ty h2) (fun _ => kitAny_nil) (fun z => nomatch z)) (fun z => nomatch z)
  have la : kitB "list" "list" = some true := by decide +kernel
  have lt : kitB "list" "tuple" = some false := by decide +kernel
  have ta : kitB "tuple" "tuple" = some true := by decide +kernel
  have tl : kitB "tuple" "list" = some false := by decide +kernel
  intro n
  induction n with
  | zero =>
    refine F.ok sc_exact (fun vs H Q E h => ?_) (fun cdv A outer s H vs Q E hr h => ?_)
    · obtain ⟨x, y, d, rfl, _⟩ := h
      rfl
    · obtain ⟨x, y, d, rfl, hx, hy, k⟩ := h
      have hx : FlatD x d := hx
      obtain rfl : y = x := FlatD.eq hy hx
      have nd := sc_exact.nd
      refine ⟨_, PSs.nox (pss_cons (ps_if (pt_val (pe_callB call_isiT (by rfl) Z.isi (by decide +kernel) (pa_cons (pv 0) (pa_cons (pe_tup (pa_cons (pe_bltn (v := .ty "list") (by rfl) Z.tlist (by decide +kernel) rfl) (pa_cons (pe_bltn (v := .ty "tuple") (by rfl) Z.ttuple (by decide +kernel) rfl) (pa_nil)))) pa_nil)))) (pss_cons ps_dead (pss_one ps_dead)) (pss_nil))
      (pss_cons (ps_if (pt_val (pe_callB call_isi (by rfl) Z.isi (by decide +kernel) (pa_cons (pv 0) (pa_cons (pe_bltn (v := .ty "dict") (by rfl) Z.tdict (by decide +kernel) rfl) pa_nil)))) (pss_cons ps_dead (pss_one ps_dead)) (pss_nil))
      (pss_cons (ps_set (i := 2) nd rfl (Or.inl rfl) (pe_cmpR op_eq (pe_callB call_isi (by rfl) Z.isi (by decide +kernel) (pa_cons (pv 0) (pa_cons (pe_bltn (v := .ty "int") (by rfl) Z.int (by decide +kernel) rfl) pa_nil))) (pe_callB call_isi (by rfl) Z.isi (by decide +kernel) (pa_cons (pv 1) (pa_cons (pe_bltn (v := .ty "int") (by rfl) Z.int (by decide +kernel) rfl) pa_nil))) (nomark _)))
      (pss_one (ps_ret (pe_and (pv 2) (pe_and (pe_cmpR op_eq (pe_callB call_isi (by rfl) Z.isi (by decide +kernel) (pa_cons (pv 0) (pa_cons (pe_bltn (v := .ty "bool") (by rfl) Z.tbool (by decide +kernel) rfl) pa_nil))) (pe_callB call_isi (by rfl) Z.isi (by decide +kernel) (pa_cons (pv 1) (pa_cons (pe_bltn (v := .ty "bool") (by rfl) Z.tbool (by decide +kernel) rfl) pa_nil))) (nomark _)) (pe_one (pe_cmpR op_eq (pv 0) (pv 1) (nomark _)))))))))), ?_⟩
      refine ⟨_, rfl, (by show 2 ≤ sizeLine; decide), fun T hT => ?_⟩
      have s1 : Same H (upd H T (.tup [.ty "list", .ty "tuple"])) := Same.updf hT
      obtain ⟨t', ty', k1', k2', k3', i', b', k4', k5'⟩ := FlatD.ty (K := K) (H := upd H T (.tup [.ty "list", .ty "tuple"])) hx
      refine ⟨y, T, [.ty "list", .ty "tuple"], .type t', [.type "list", .type "tuple"], false, rfl, upd_same, .cons (.ty _) (.cons (.ty _) .nil), ty', kitF k1' k2', false, rfl, iteF ?_⟩
      refine ⟨_, rfl, y, .ty "dict", .type t', .type "dict", false, rfl, .ty _, ty', kit_ty k3', false, rfl, iteF ?_⟩
      refine ⟨_, rfl, y, .ty "int", .type t', .type "int", i', rfl, .ty _, ty', kit_ty k4', _, rfl, y, .ty "int", .type t', .type "int", i', rfl, .ty _, ty', kit_ty k4', rfl, ?_⟩
      rw [decide_eq_true (rfl : V.bl i' = V.bl i')]
      refine ⟨_, rfl, true, rfl, iteT ?_⟩
      refine ⟨_, rfl, y, .ty "bool", .type t', .type "bool", b', rfl, .ty _, ty', kit_ty k5', _, rfl, y, .ty "bool", .type t', .type "bool", b', rfl, .ty _, ty', kit_ty k5', rfl, ?_⟩
      rw [decide_eq_true (rfl : V.bl b' = V.bl b')]
      refine ⟨true, rfl, iteT ?_⟩
      refine ⟨_, rfl, _, rfl, FlatD.scal hx, ?_⟩
      rw [decide_eq_true (rfl : y = y)]
      exact k _ s1
  | succ n ih =>
    refine F.ok sc_exact (fun vs H Q E h => ?_) (fun cdv A outer s H vs Q E hr h => ?_)
    · obtain ⟨x, y, d, rfl, _⟩ := h
      rfl
    · obtain ⟨x, y, d, rfl, hx, hy, k⟩ := h
      have hu : (A.deeper (envOfC "_law_exact" (defScope s_exact) s.heap.objs.size f cdv)).units + 1 < cLine := by
        have := hr.units
        omega
      have nd := sc_exact.nd
      refine ⟨_, PSs.nox (pss_cons (ps_if (pt_val (pe_callB call_isiT (by rfl) Z.isi (by decide +kernel) (pa_cons (pv 0) (pa_cons (pe_tup (pa_cons (pe_bltn (v := .ty "list") (by rfl) Z.tlist (by decide +kernel) rfl) (pa_cons (pe_bltn (v := .ty "tuple") (by rfl) Z.ttuple (by decide +kernel) rfl) (pa_nil)))) pa_nil)))) (pss_cons (ps_set (i := 2) nd rfl (Or.inl rfl) (pe_and (pe_cmpR op_eq (pe_callB call_isi (by rfl) Z.isi (by decide +kernel) (pa_cons (pv 1) (pa_cons (pe_bltn (v := .ty "list") (by rfl) Z.tlist (by decide +kernel) rfl) pa_nil))) (pe_callB call_isi (by rfl) Z.isi (by decide +kernel) (pa_cons (pv 0) (pa_cons (pe_bltn (v := .ty "list") (by rfl) Z.tlist (by decide +kernel) rfl) pa_nil))) (nomark _)) (pe_one (pe_cmpR op_eq (pe_callB call_isi (by rfl) Z.isi (by decide +kernel) (pa_cons (pv 1) (pa_cons (pe_bltn (v := .ty "tuple") (by rfl) Z.ttuple (by decide +kernel) rfl) pa_nil))) (pe_callB call_isi (by rfl) Z.isi (by decide +kernel) (pa_cons (pv 0) (pa_cons (pe_bltn (v := .ty "tuple") (by rfl) Z.ttuple (by decide +kernel) rfl) pa_nil))) (nomark _)))))
      (pss_one (ps_ret (pe_and (pv 2) (pe_and (pe_cmpR op_eq (pe_callB call_len_seq (by rfl) Z.len (by decide +kernel) (pa_cons (pv 0) (pa_nil))) (pe_callB call_len_seq (by rfl) Z.len (by decide +kernel) (pa_cons (pv 1) (pa_nil))) (nomark _)) (pe_one (pe_callB (cr_all rfl) (by rfl) Z.all (by decide +kernel) (pa_cons (pe_lc (own := [("_law_a", 3), ("_law_b", 4)]) (g := gTup K 2 (gCons (gName 3) (gCons (gName 4) (gNil)))) (tt := tYes) (te := tCall (spExactD K n) [] E0 (tCons (tVar 3) (tCons (tVar 4) tNil))) (by rfl) nd (pi_zipA (by rfl) Z.zip (pa_cons (pv 0) (pa_cons (pv 1) pa_nil)))
          (blkOk_by (own := [("_law_a", 3), ("_law_b", 4)]) (N := N_exact) (sc := defScope s_exact) (by decide +kernel)) (fun _ _ _ _ _ => pg_tup rfl (pgs_cons (pg_name (i := 3) nd rfl (Or.inl rfl)) (pgs_cons (pg_name (i := 4) nd rfl (Or.inl rfl)) (pgs_nil)))) (fun _ _ _ _ _ => pts_nil)
          (fun _ _ _ _ _ => pe_call ih hr rfl gE F.kp bE .nil pass0 (pa_cons (pv 3) (pa_cons (pv 4) pa_nil)))) (pa_nil))))))))) (pss_nil))
      (pss_cons (ps_if (pt_val (pe_callB call_isi (by rfl) Z.isi (by decide +kernel) (pa_cons (pv 0) (pa_cons (pe_bltn (v := .ty "dict") (by rfl) Z.tdict (by decide +kernel) rfl) pa_nil)))) (pss_cons (ps_set (i := 2) nd rfl (Or.inl rfl) (pe_and (pe_callB call_isi (by rfl) Z.isi (by decide +kernel) (pa_cons (pv 1) (pa_cons (pe_bltn (v := .ty "dict") (by rfl) Z.tdict (by decide +kernel) rfl) pa_nil))) (pe_one (pe_call ih hr rfl gE F.kp bE .nil pass0 (pa_cons (pe_callTy (call_list_dK rfl) (by rfl) Z.tlist (by decide +kernel) (pa_cons (pv 0) pa_nil)) (pa_cons (pe_callTy (call_list_dK rfl) (by rfl) Z.tlist (by decide +kernel) (pa_cons (pv 1) pa_nil)) pa_nil))))))
      (pss_one (ps_ret (pe_and (pv 2) (pe_one (pe_callB (cr_all rfl) (by rfl) Z.all (by decide +kernel) (pa_cons (pe_lock (pe_lc (own := [("_law_key", 5)]) (g := gName 5) (tt := tYes) (te := tCall (spExactD K n) [] E0 (tCons (tDGet (tVar 0) (tVar 5)) (tCons (tDGet (tVar 1) (tVar 5)) tNil))) (by rfl) nd (pi_keys (pv 0))
          (blkOk_by (own := [("_law_key", 5)]) (N := N_exact) (sc := defScope s_exact) (by decide +kernel)) (fun _ _ _ _ _ => pg_name (i := 5) nd rfl (Or.inl rfl)) (fun _ _ _ _ _ => pts_nil)
          (fun _ _ _ _ _ => pe_call ih hr rfl gE F.kp bE .nil pass0 (pa_cons (pe_dget hu (pv 0) (pv 5) (fun _ _ => rfl)) (pa_cons (pe_dget hu (pv 1) (pv 5) (fun _ _ => rfl)) pa_nil))))) (pa_nil)))))))) (pss_nil))
      (pss_cons (ps_set (i := 2) nd rfl (Or.inl rfl) (pe_cmpR op_eq (pe_callB call_isi (by rfl) Z.isi (by decide +kernel) (pa_cons (pv 0) (pa_cons (pe_bltn (v := .ty "int") (by rfl) Z.int (by decide +kernel) rfl) pa_nil))) (pe_callB call_isi (by rfl) Z.isi (by decide +kernel) (pa_cons (pv 1) (pa_cons (pe_bltn (v := .ty "int") (by rfl) Z.int (by decide +kernel) rfl) pa_nil))) (nomark _)))
      (pss_one (ps_ret (pe_and (pv 2) (pe_and (pe_cmpR op_eq (pe_callB call_isi (by rfl) Z.isi (by decide +kernel) (pa_cons (pv 0) (pa_cons (pe_bltn (v := .ty "bool") (by rfl) Z.tbool (by decide +kernel) rfl) pa_nil))) (pe_callB call_isi (by rfl) Z.isi (by decide +kernel) (pa_cons (pv 1) (pa_cons (pe_bltn (v := .ty "bool") (by rfl) Z.tbool (by decide +kernel) rfl) pa_nil))) (nomark _)) (pe_one (pe_cmpR op_eq (pv 0) (pv 1) (nomark _)))))))))), ?_⟩
      rcases hx with hx | ⟨a, xs, ds, rfl, lx, l1, tx, kx⟩ | ⟨a, ps, m, rfl, n1, ha, rfl⟩
      · have hy : FlatD y d := by
          rcases hy with hy | ⟨b, ys, es, rfl, ly, l2, ty, ky⟩ | ⟨b, qs, m', rfl, _, hb, rfl⟩
          · exact hy
          · rcases ty with ⟨_, rfl⟩ | ⟨_, rfl⟩
            · exact (FlatD.noL hx).elim
            · exact (FlatD.noT hx).elim
          · cases hx
        obtain rfl : y = x := FlatD.eq hy hx
        refine ⟨_, rfl, (by show 2 ≤ sizeLine; decide), fun T hT => ?_⟩
        have s1 : Same H (upd H T (.tup [.ty "list", .ty "tuple"])) := Same.updf hT
        obtain ⟨t', ty', k1', k2', k3', i', b', k4', k5'⟩ := FlatD.ty (K := K) (H := upd H T (.tup [.ty "list", .ty "tuple"])) hx
        refine ⟨y, T, [.ty "list", .ty "tuple"], .type t', [.type "list", .type "tuple"], false, rfl, upd_same, .cons (.ty _) (.cons (.ty _) .nil), ty', kitF k1' k2', false, rfl, iteF ?_⟩
        refine ⟨_, rfl, y, .ty "dict", .type t', .type "dict", false, rfl, .ty _, ty', kit_ty k3', false, rfl, iteF ?_⟩
        refine ⟨_, rfl, y, .ty "int", .type t', .type "int", i', rfl, .ty _, ty', kit_ty k4', _, rfl, y, .ty "int", .type t', .type "int", i', rfl, .ty _, ty', kit_ty k4', rfl, ?_⟩
        rw [decide_eq_true (rfl : V.bl i' = V.bl i')]
        refine ⟨_, rfl, true, rfl, iteT ?_⟩
        refine ⟨_, rfl, y, .ty "bool", .type t', .type "bool", b', rfl, .ty _, ty', kit_ty k5', _, rfl, y, .ty "bool", .type t', .type "bool", b', rfl, .ty _, ty', kit_ty k5', rfl, ?_⟩
        rw [decide_eq_true (rfl : V.bl b' = V.bl b')]
        refine ⟨true, rfl, iteT ?_⟩
        refine ⟨_, rfl, _, rfl, FlatD.scal hx, ?_⟩
        rw [decide_eq_true (rfl : y = y)]
        exact k _ s1
      · rcases hy with hy | ⟨b, ys, es, rfl, ly, l2, ty, ky⟩ | ⟨b, qs, m', rfl, _, hb, e⟩
        · rcases tx with ⟨_, rfl⟩ | ⟨_, rfl⟩
          · exact (FlatD.noL hy).elim
          · exact (FlatD.noT hy).elim
        rotate_left
        · rcases tx with ⟨_, rfl⟩ | ⟨_, rfl⟩ <;> cases e
        refine ⟨_, rfl, (by show 2 ≤ sizeLine; decide), fun T hT => ?_⟩
        have s1 : Same H (upd H T (.tup [.ty "list", .ty "tuple"])) := Same.updf hT
        have ll : (1000 : Nat) ≤ 100000 := by decide
        have fin : ∀ (H2 : Hp), Same H H2 → ∀ (D : Addr), H2 D = some (.lst ((List.range xs.length).filterMap fun _ => some (V.bl true))) → ∃ (a : Addr) (bs : List Bool), [V.ref D] = [V.ref a] ∧ SqL K H2 a (bs.map V.bl) ∧ Q (.bl (bs.all id)) H2 := fun H2 s2 D hR => by
          obtain ⟨bs, hB, hb'⟩ := all_bits (K := K) hR
          refine ⟨D, bs, rfl, hB, ?_⟩
          rw [hb']
          exact k H2 s2
        rcases tx with ⟨ha, rfl⟩ | ⟨ha, rfl⟩
        · rcases ty with ⟨hb, e⟩ | ⟨hb, e⟩
          · cases e
            have ha1 := s1 _ _ ha
            have hb1 := s1 _ _ hb
            refine ⟨.ref a, T, [.ty "list", .ty "tuple"], .type "list", [.type "list", .type "tuple"], true, rfl, upd_same, .cons (.ty _) (.cons (.ty _) .nil), .base (.lst ha1), kitAny_cons (kit_ty la) (fun z => nomatch z) (fun _ => rfl), true, rfl, iteT ?_⟩
            refine ⟨_, rfl, .ref b, .ty "list", .type "list", .type "list", true, rfl, .ty _, .base (.lst hb1), kit_ty la, _, rfl, .ref a, .ty "list", .type "list", .type "list", true, rfl, .ty _, .base (.lst ha1), kit_ty la, rfl, true, rfl, iteT ?_⟩
            refine ⟨_, rfl, .ref b, .ty "tuple", .type "list", .type "tuple", false, rfl, .ty _, .base (.lst hb1), kit_ty lt, _, rfl, .ref a, .ty "tuple", .type "list", .type "tuple", false, rfl, .ty _, .base (.lst ha1), kit_ty lt, rfl, ?_⟩
            refine ⟨_, rfl, true, rfl, iteT ?_⟩
            refine ⟨_, rfl, a, xs, rfl, Or.inl (SqL.of ha1), _, rfl, b, ys, rfl, Or.inl (SqL.of hb1), rfl, ?_⟩
            rw [decide_eq_true (show V.int (xs.length : Int) = V.int (ys.length : Int) by rw [lx, ly])]
            refine ⟨true, rfl, iteT ?_⟩
            refine ⟨_, rfl, _, rfl, a, b, xs, ys, rfl, Or.inl ⟨SqL.of ha1, SqL.of hb1, fun D hD => ?_⟩⟩
            refine lc_sel (n := xs.length) (walk_zip (K := K) (a := a) (b := b) (xs := xs) (ys := ys) (by omega)) (fun _ => some (.bl true)) (by omega) hD (fun H2 s2 => ⟨SqL.of (s2 _ _ ha1), SqL.of (s2 _ _ hb1)⟩) ?_ ?_
            · rintro i v H2 H3 Qy Qn hi sH ⟨T2, x1, x2, rfl, nT, rfl, g1, g2⟩ ky' kn
              dsimp only at g1 g2
              refine ⟨T2, [_, _], rfl, .inl (.inl upd_same), rfl, _, [_], rfl, _, [], rfl, rfl, ?_⟩
              have sT : Same H2 (upd H2 T2 (.tup [x1, x2])) := Same.updf nT
              have gd : ds[i]? = some (ds[i]'(by omega)) := List.getElem?_eq_getElem _
              exact ⟨rfl, _, rfl, _, rfl, x1, x2, _, rfl, (kx i x1 _ g1 gd).same (s1.trans (sH.trans sT)), (ky i x2 _ g2 gd).same (s1.trans (sH.trans sT)), fun H5 s5 => ky' _ _ (sT.trans s5) rfl⟩
            · intro H2 s2 hR
              exact fin H2 (s1.trans s2) D hR
          · cases e
        · rcases ty with ⟨hb, e⟩ | ⟨hb, e⟩
          · cases e
          · cases e
            have ha1 := SqT_up s1 ha
            have hb1 := SqT_up s1 hb
            refine ⟨.ref a, T, [.ty "list", .ty "tuple"], .type "tuple", [.type "list", .type "tuple"], true, rfl, upd_same, .cons (.ty _) (.cons (.ty _) .nil), sqT_ty ha1, kitAny_cons (kit_ty tl) (fun _ => kitAny_cons (kit_ty ta) (fun z => nomatch z) (fun _ => rfl)) (fun z => nomatch z), true, rfl, iteT ?_⟩
            refine ⟨_, rfl, .ref b, .ty "list", .type "tuple", .type "list", false, rfl, .ty _, sqT_ty hb1, kit_ty tl, _, rfl, .ref a, .ty "list", .type "tuple", .type "list", false, rfl, .ty _, sqT_ty ha1, kit_ty tl, rfl, true, rfl, iteT ?_⟩
            refine ⟨_, rfl, .ref b, .ty "tuple", .type "tuple", .type "tuple", true, rfl, .ty _, sqT_ty hb1, kit_ty ta, _, rfl, .ref a, .ty "tuple", .type "tuple", .type "tuple", true, rfl, .ty _, sqT_ty ha1, kit_ty ta, rfl, ?_⟩
            refine ⟨_, rfl, true, rfl, iteT ?_⟩
            refine ⟨_, rfl, a, xs, rfl, Or.inr ha1, _, rfl, b, ys, rfl, Or.inr hb1, rfl, ?_⟩
            rw [decide_eq_true (show V.int (xs.length : Int) = V.int (ys.length : Int) by rw [lx, ly])]
            refine ⟨true, rfl, iteT ?_⟩
            refine ⟨_, rfl, _, rfl, a, b, xs, ys, rfl, Or.inr ⟨ha1, hb1, fun D hD => ?_⟩⟩
            refine lc_sel (n := xs.length) (walk_zipT (K := K) (a := a) (b := b) (xs := xs) (ys := ys) (by omega)) (fun _ => some (.bl true)) (by omega) hD (fun H2 s2 => ⟨SqT_up s2 ha1, SqT_up s2 hb1⟩) ?_ ?_
            · rintro i v H2 H3 Qy Qn hi sH ⟨T2, x1, x2, rfl, nT, rfl, g1, g2⟩ ky' kn
              dsimp only at g1 g2
              refine ⟨T2, [_, _], rfl, .inl (.inl upd_same), rfl, _, [_], rfl, _, [], rfl, rfl, ?_⟩
              have sT : Same H2 (upd H2 T2 (.tup [x1, x2])) := Same.updf nT
              have gd : ds[i]? = some (ds[i]'(by omega)) := List.getElem?_eq_getElem _
              exact ⟨rfl, _, rfl, _, rfl, x1, x2, _, rfl, (kx i x1 _ g1 gd).same (s1.trans (sH.trans sT)), (ky i x2 _ g2 gd).same (s1.trans (sH.trans sT)), fun H5 s5 => ky' _ _ (sT.trans s5) rfl⟩
            · intro H2 s2 hR
              exact fin H2 (s1.trans s2) D hR
      · rcases hy with hy | ⟨b, ys, es, rfl, ly, l2, ty, ky⟩ | ⟨b, qs, m', rfl, _, hb, e⟩
        · cases hy
        · rcases ty with ⟨_, e⟩ | ⟨_, e⟩ <;> cases e
        obtain ⟨rfl, em⟩ := dict_inj (PyData.dict.inj e)
        refine ⟨_, rfl, (by show 2 ≤ sizeLine; decide), fun T hT => ?_⟩
        have s1 : Same H (upd H T (.tup [.ty "list", .ty "tuple"])) := Same.updf hT
        have ha1 := s1 _ _ ha
        have hb1 := s1 _ _ hb
        have dl : kitB "dict" "list" = some false := by decide +kernel
        have dt : kitB "dict" "tuple" = some false := by decide +kernel
        refine ⟨.ref a, T, [.ty "list", .ty "tuple"], .type "dict", [.type "list", .type "tuple"], false, rfl, upd_same, .cons (.ty _) (.cons (.ty _) .nil), .base (.dK ha1), kitF dl dt, false, rfl, iteF ?_⟩
        refine ⟨_, rfl, .ref a, .ty "dict", .type "dict", .type "dict", true, rfl, .ty _, .base (.dK ha1), kit_ty (by decide +kernel), true, rfl, iteT ?_⟩
        refine ⟨_, rfl, .ref b, .ty "dict", .type "dict", .type "dict", true, rfl, .ty _, .base (.dK hb1), kit_ty (by decide +kernel), true, rfl, iteT ?_⟩
        have kl : ∀ f : Nat → Nat, ((mV ps f).map fun kv => kV kv.1) = numsV ps := fun f => by
          unfold mV dV numsV
          rw [List.map_map]
          rfl
        refine ⟨_, rfl, a, _, rfl, ha1, fun l1 hl1 => ?_⟩
        rw [kl]
        have s2 := Same.updf (o := .lst (numsV ps)) hl1
        refine ⟨_, rfl, b, _, rfl, s2 _ _ hb1, fun l2 hl2 => ?_⟩
        rw [kl]
        have s3 := Same.updf (o := .lst (numsV ps)) hl2
        have tdl : ∀ (G : Hp) (l : Addr), G l = some (.lst (numsV ps)) → TD K G n (.ref l) (.list (ps.map fun p : Nat => .int (p : Int))) := fun G l e => by
          obtain ⟨n', rfl⟩ : ∃ n', n = n' + 1 := ⟨n - 1, by omega⟩
          refine TD.lst e (by unfold numsV; rw [List.length_map, List.length_map]) (by rw [List.length_map]; exact n1.2.1) fun i u v e1 e2 => ?_
          unfold numsV at e1
          rw [List.getElem?_map] at e1 e2
          obtain ⟨p, q1, rfl⟩ := Option.map_eq_some_iff.mp e1
          rw [q1] at e2
          cases e2
          exact TD.flat (.int _)
        refine ⟨.ref l1, .ref l2, _, rfl, tdl _ _ (s3 _ _ upd_same), tdl _ _ upd_same, fun G s4 => ?_⟩
        have s14 := s1.trans ((s2.trans s3).trans s4)
        have haG := s14 _ _ ha
        have hbG := s14 _ _ hb
        refine ⟨_, rfl, true, rfl, iteT ?_⟩
        refine ⟨a, _, haG, trivial, fun od => ?_⟩
        refine ⟨_, rfl, a, od, rfl, .inl ⟨_, upd_same, fun D hD => ?_⟩⟩
        have nDa : D ≠ a := fun z => by
          rw [z, upd_same] at hD
          cases hD
        have hDG : G D = none := by
          rw [upd_ne nDa] at hD
          exact hD
        refine lc_sel (n := ps.length) (by have := walk_keys (d := a) (o := od) (kvs := mV ps m); rw [dV_len] at this; exact this) (fun _ => some (.bl true)) (by have := n1.2.1; omega) hD (fun H2 q2 => q2 _ _ upd_same) ?_ ?_
        · rintro i v H2 H3 Qy Qn hi sH ⟨rfl, k', v', ek, rfl⟩ ky' kn
          have ei : (mV ps m)[i]? = some (ky ps[i], .int (m ps[i] : Int)) := by
            unfold mV dV
            rw [List.getElem?_map, List.getElem?_eq_getElem hi]
            rfl
          rw [ei] at ek
          cases ek
          have mp := List.getElem_mem hi
          have fa := sH _ _ upd_same
          have da : DGet H3 a (.int (ps[i] : Int)) (some (.int (m ps[i] : Int))) := .inl ⟨_, ky ps[i], .inr ⟨od, fa⟩, rfl, (mV_val mp).symm⟩
          have db : DGet H3 b (.int (ps[i] : Int)) (some (.int (m' ps[i] : Int))) := by
            by_cases z : b = a
            · have e1 : mV ps m = mV ps m' := dV_congr fun p hp => by rw [em p hp]
              rw [z]
              exact .inl ⟨_, ky ps[i], .inr ⟨od, by rw [← e1]; exact fa⟩, rfl, (mV_val mp).symm⟩
            · exact .inl ⟨_, ky ps[i], .inl (sH _ _ (by rw [upd_ne z]; exact hbG)), rfl, (mV_val mp).symm⟩
          refine ⟨rfl, _, rfl, _, rfl, a, _, rfl, da, _, rfl, _, rfl, b, _, rfl, db, ?_⟩
          rw [← em _ mp]
          exact ⟨_, _, _, rfl, TD.flat (.int _), TD.flat (.int _), fun H5 s5 => ky' _ _ s5 rfl⟩
        · intro H2 q2 hR
          refine ⟨q2 _ _ upd_same, ?_⟩
          obtain ⟨bs, hB, hb'⟩ := all_bits (K := K) hR
          have hR2 : (upd H2 a (.dK (mV ps m))) D = some (.lst ((List.range ps.length).filterMap fun _ => some (V.bl true))) := by
            rw [upd_ne nDa]
            exact hR
          obtain ⟨bs, hB, hb'⟩ := all_bits (K := K) hR2
          refine ⟨D, bs, rfl, hB, ?_⟩
          rw [hb']
          refine k _ fun c o e => ?_
          by_cases z : c = a
          · rw [z, ha] at e
            cases e
            rw [z, upd_same]
          · rw [upd_ne z]
            exact q2 _ _ (by rw [upd_ne z]; exact s14 _ _ e)
end
end K17
set_option Elab.async false
set_option linter.all false
set_option maxRecDepth 100000
set_option maxHeartbeats 4000000
/-! x in l, l a list of dictionaries from keys to ints, x such a one. -/
namespace PySem.SeqAt
open AutoSeq1 (wpAny_loadPart')
open MeetsSeq MeetsSeq2 MeetsSeq3 SeqRoads2
section
variable {prog : Program} {w : World}
theorem kim_loop (l : Addr) (items : Array Value) (n : Nat) (dd : Option Addr) (sl : Array (Option Value)) (x : Value) (e : Nat → Bool) (k : Nat) :
    ∀ i : Nat, items.size - i = k → MeetsIn prog w (Builtin.«list.__contains__.loop» ⟨[.ref l, x, rawInt i], []⟩)
      (fun A R s => s.heap.get? l = some { cls := .type "list", dict := dd, data := .seq items n, slots := sl } ∧ (∀ j (h : j < items.size), EqP prog w A.in1 s items[j] x (e j)) ∧ R (.ok (.ret (.bool (((List.range items.size).drop i).any e)))) s) := by
  induction k with
  | zero =>
    intro i hk A R s h
    obtain ⟨hp, g, d, tk, os⟩ := s; obtain ⟨hl, he, h⟩ := h
    wp_walk using wpAny_loadPart' hl
    have hi : items[((i : Nat) : Int).toNat]? = none := by simp; omega
    have hd : (List.range items.size).drop i = [] := by simp; omega
    rw [hd] at h
    rw [hi]
    wp_walk
    exact h
  | succ k ih =>
    intro i hk A R s h
    obtain ⟨hp, g, d, tk, os⟩ := s; obtain ⟨hl, he, h⟩ := h
    wp_walk using wpAny_loadPart' hl
    have hlt : i < items.size := by omega
    have hi : items[((i : Nat) : Int).toNat]? = some items[i] := by simp [hlt]
    have hd : (List.range items.size).drop i = i :: (List.range items.size).drop (i + 1) := by simp [List.drop_eq_getElem_cons, hlt]
    rw [hd, List.any_cons] at h
    rw [hi]
    refine wpAny_bind (he i hlt _ _ ?_)
    cases hb : e i with
    | true =>
      rw [hb] at h
      wp_walk
      exact h
    | false =>
      rw [hb] at h
      have hc : ((i : Int) + 1) = ((i + 1 : Nat) : Int) := by push_cast; rfl
      wp_walk
      rw [hc]
      exact ⟨plainId_quiet plain_contains_loop _, codeAny_builtin entry_contains_loop (by
        rw [Around.under_plainId plain_contains_loop _]
        exact ih (i + 1) (by omega) A R _ ⟨hl, he, by simpa using h⟩)⟩
theorem kim_contains (l : Addr) (items : Array Value) (n : Nat) (dd : Option Addr) (sl : Array (Option Value)) (x : Value) (e : Nat → Bool) :
    MeetsIn prog w (Builtin.«list.__contains__» ⟨[.ref l, x], []⟩)
      (fun A R s => s.heap.get? l = some { cls := .type "list", dict := dd, data := .seq items n, slots := sl } ∧ (∀ j (h : j < items.size), EqP prog w A.in1 s items[j] x (e j)) ∧ R (.ok (.ret (.bool ((List.range items.size).any e)))) s) := by
  intro A R s h
  obtain ⟨hp, g, d, tk, os⟩ := s; obtain ⟨hl, he, h⟩ := h
  wp_walk using wpAny_loadPart' hl
  exact ⟨plainId_quiet plain_contains_loop _, codeAny_builtin entry_contains_loop (by
    rw [Around.under_plainId plain_contains_loop _]
    exact kim_loop l items n dd sl x e _ 0 rfl A R _ ⟨hl, he, by simpa using h⟩)⟩
theorem kim_in {A : Around} {E : Value → Shared → Prop} {s : Shared} {l : Addr} {items : Array Value} {x : Value} {Q : Value → Shared → Prop} (e : Nat → Bool) (hl : s.heap.IsList l items) (he : ∀ j (h : j < items.size), EqP prog w A.in1 s items[j] x (e j))
    (h : Q (.bool ((List.range items.size).any e)) s) : wpAny (model prog w) A (compareOp .In x (.ref l)) Q E s := by
  obtain ⟨⟨cls, dd, data, sl⟩, ho, hc, n, hd⟩ := id hl
  simp only at hc hd
  subst hc hd
  have hT : s.TypeIs (.ref l) "list" := ⟨_, ho, rfl⟩
  show wpAny _ A (do return .bool (← contains (.ref l) x)) Q E s
  refine wpAny_bind (wpAny_contains_slot hT F.slot_list_contains (wpAny_mono (call_meetsIn F.slot_list_contains hT F.entry_list_contains (F.args_list_contains_2 _ _) (kim_contains l items n dd sl x e) ⟨ho, he, (show wants (fun v s' => ∃ b, v = .bool b ∧ Q (.bool b) s') E _ s from ⟨_, rfl, h⟩)⟩) (fun v s' hv => ?_) fun _ _ e => e))
  obtain ⟨b, rfl, hq⟩ := hv
  exact wpAny_truthy_bool (wpAny_pure hq)
theorem kim_notIn {A : Around} {E : Value → Shared → Prop} {s : Shared} {l : Addr} {items : Array Value} {x : Value} {Q : Value → Shared → Prop} (e : Nat → Bool) (hl : s.heap.IsList l items) (he : ∀ j (h : j < items.size), EqP prog w A.in1 s items[j] x (e j))
    (h : Q (.bool (!(List.range items.size).any e)) s) : wpAny (model prog w) A (compareOp .NotIn x (.ref l)) Q E s := by
  obtain ⟨⟨cls, dd, data, sl⟩, ho, hc, n, hd⟩ := id hl
  simp only at hc hd
  subst hc hd
  have hT : s.TypeIs (.ref l) "list" := ⟨_, ho, rfl⟩
  show wpAny _ A (do return .bool (!(← contains (.ref l) x))) Q E s
  refine wpAny_bind (wpAny_contains_slot hT F.slot_list_contains (wpAny_mono (call_meetsIn F.slot_list_contains hT F.entry_list_contains (F.args_list_contains_2 _ _) (kim_contains l items n dd sl x e) ⟨ho, he, (show wants (fun v s' => ∃ b, v = .bool b ∧ Q (.bool (!b)) s') E _ s from ⟨_, rfl, h⟩)⟩) (fun v s' hv => ?_) fun _ _ e => e))
  obtain ⟨b, rfl, hq⟩ := hv
  exact wpAny_truthy_bool (wpAny_pure hq)
end
end PySem.SeqAt
namespace L2
open PySem PySem.Spec PyProof.Rows
theorem kim_hits {A : Around} {s : Shared} {kvs : List (Key × V)} {vb : List (Key × Value)} (rb : KV kvs vb) {ks : List (Key × V)} {va : List (Key × Value)} (ra : KV ks va) {P : Program} {w : World} :
    (∀ p ∈ ks, ∃ i j : Int, p.2 = .int i ∧ valV kvs p.1 = some (.int j)) → PySem.W.KeqHitsP P w A s vb va (ks.all fun p => decide (valV kvs p.1 = some p.2)) := by
  unfold KV at ra
  induction ra with
  | nil => intro _; exact .nil
  | @cons p q ps qs h t ih =>
    intro hp
    obtain ⟨h1, h2⟩ := h
    obtain ⟨i, j, e1, e2⟩ := hp p List.mem_cons_self
    have rr : RelO (some (V.int j)) (valueAt vb p.1) := by rw [← e2]; exact rb.val p.1
    obtain ⟨y, hy, ry⟩ := rr.some_of
    obtain ⟨k, v⟩ := q
    have h1' : p.1 = k := h1
    rw [h1'] at hy
    rw [List.all_cons]
    have h2' : RelV p.2 v := h2
    rw [e1] at h2'
    obtain ⟨t1, rfl⟩ := h2'
    obtain ⟨t2, rfl⟩ := ry
    have eb : decide (valV kvs p.1 = some p.2) = (i == j) := by
      rw [e1, e2, Bool.eq_iff_iff]
      simp
      exact eq_comm
    rw [eb]
    exact .hit hy ((MeetsSeq.EqGives.int i j t1 t2).at A s).eqP (ih fun p' hm => hp p' (List.mem_cons_of_mem _ hm))
/-- e i: whether the i-th of xs is equal to the dictionary ls -/
def EqMs (H : Hp) (a : Addr) (ls : List (Key × V)) (xs : List V) (e : Nat → Bool) : Prop :=
  ∀ (i : Nat) (v : V), xs[i]? = some v → ∃ (c : Addr) (ks : List (Key × V)), v = .ref c ∧ c ≠ a ∧ H c = some (.dK ks) ∧ ks.length = ls.length ∧ (∀ p ∈ ks, ∃ i j : Int, p.2 = .int i ∧ valV ls p.1 = some (.int j)) ∧ e i = ks.all fun p => decide (valV ls p.1 = some p.2)
section
variable {X : Cx} {pins : List (Addr × Obj)} {σ : St} {H : Hp} {s : Shared}
theorem kim_eqs (I : Inv X pins σ H s) {A : Around} (hu : A.units < cLine) {a : Addr} {ls : List (Key × V)} {xs : List V} {its : List Value} (ea : H a = some (.dK ls)) (hx : Vals xs its) {e : Nat → Bool} (h : EqMs H a ls xs e) :
    ∀ j (hj : j < its.toArray.size), SeqAt.EqP X.prog X.w A s its.toArray[j] (.ref a) (e j) := by
  intro j hj
  have lj : j < its.length := by simpa using hj
  have lx : j < xs.length := by
    have := hx.length
    omega
  obtain ⟨c, ks, ev, ne, ec, len, hp, eb⟩ := h j _ (List.getElem?_eq_getElem lx)
  obtain ⟨u0, eu, rj⟩ := hx.get (List.getElem?_eq_getElem lx)
  rw [List.getElem?_eq_getElem lj] at eu
  cases eu
  rw [ev] at rj
  have rj' : its[j] = Value.ref c := rj
  have e0 : its.toArray[j] = Value.ref c := by simpa using rj'
  rw [e0]
  obtain ⟨_, ya, va, ra, da⟩ := (show ObjOk X.prog X.w H s.heap a (.dK ls) from I.hok a _ ea)
  obtain ⟨_, yc, vc, rc, dc⟩ := (show ObjOk X.prog X.w H s.heap c (.dK ks) from I.hok c _ ec)
  have hl : vc.length = va.length := by rw [← ra.length, ← rc.length]; exact len
  refine SeqAt.eqP_refs ne fun E Q q => PySem.W.rcP_dicts (knd := mixKind X.prog X.w) (r := e j) yc ya dc da hu (fun _ => by rw [eb]; exact kim_hits ra rc hp) E Q ?_
  rw [show (vc.length == va.length) = true by simpa using hl, Bool.true_and]
  exact q
def rInM (K : PySem.W.Frag) (neg : Bool) : R2 := fun x y H Q => ∃ (a L : Addr) (ls : List (Key × V)) (xs : List V) (e : Nat → Bool), x = .ref a ∧ y = .ref L ∧ H a = some (.dK ls) ∧ SqL K H L xs ∧ EqMs H a ls xs e ∧ Q (.bl (((List.range xs.length).any e) != neg)) H
theorem op_notInM (hu : X.A.units + 1 < cLine) : OpR X (compareOp .NotIn) (rInM X.K true) := by
  intro pins s σ H x y v u Q I rx ry h
  obtain ⟨a, L, ls, xs, e, rfl, rfl, ea, hs, he, q⟩ := h
  obtain rfl : v = Value.ref a := rx
  obtain rfl : u = Value.ref L := ry
  obtain ⟨its, rv, ho, hlen⟩ := I.list hs
  obtain ⟨⟨cls, dd, data, sls⟩, n, ho, hc, hdn, hdt⟩ := ho
  have hL : s.heap.IsList L its.toArray := ⟨_, ho, hc, n, hdt⟩
  refine SeqAt.kim_notIn e hL (kim_eqs I (show X.A.in1.units < cLine from hu) ea rv he) ⟨.bl _, H, I, rfl, ?_⟩
  have l := rv.length
  have es : its.toArray.size = xs.length := by simp [l]
  rw [es]
  have z : ∀ b : Bool, (b != true) = !b := by decide
  rw [z] at q
  exact q
theorem op_inM (hu : X.A.units + 1 < cLine) : OpR X (compareOp .In) (rInM X.K false) := by
  intro pins s σ H x y v u Q I rx ry h
  obtain ⟨a, L, ls, xs, e, rfl, rfl, ea, hs, he, q⟩ := h
  obtain rfl : v = Value.ref a := rx
  obtain rfl : u = Value.ref L := ry
  obtain ⟨its, rv, ho, hlen⟩ := I.list hs
  obtain ⟨⟨cls, dd, data, sls⟩, n, ho, hc, hdn, hdt⟩ := ho
  have hL : s.heap.IsList L its.toArray := ⟨_, ho, hc, n, hdt⟩
  refine SeqAt.kim_in e hL (kim_eqs I (show X.A.in1.units < cLine from hu) ea rv he) ⟨.bl _, H, I, rfl, ?_⟩
  have l := rv.length
  have es : its.toArray.size = xs.length := by simp [l]
  rw [es]
  have z : ∀ b : Bool, (b != false) = b := by decide
  rw [z] at q
  exact q
end
end L2
set_option Elab.async false
set_option linter.all false
set_option maxRecDepth 100000
set_option maxHeartbeats 4000000
/-! Comprehensions whose items are new objects: a relation for each turn. -/
namespace L2
open PySem PySem.Spec PyProof.Rows KB
theorem paired_snoc {α β : Type} {F : α → β → Prop} : ∀ {xs : List α} {ys : List β} {x : α} {y : β}, Paired F xs ys → F x y → Paired F (xs ++ [x]) (ys ++ [y])
  | _, _, _, _, .nil, h => .cons h .nil
  | _, _, _, _, .cons r t, h => .cons r (paired_snoc t h)
theorem paired_mono {α β : Type} {F G : α → β → Prop} : ∀ {xs : List α} {ys : List β}, (∀ x y, F x y → G x y) → Paired F xs ys → Paired G xs ys
  | _, _, _, .nil => .nil
  | _, _, k, .cons r t => .cons (k _ _ r) (paired_mono k t)
theorem off_upd_le {H : Hp} {D : Addr} {o : HO} : Same (KB.off H D) (upd H D o) := fun b u e => by
  by_cases n : b = D
  · unfold KB.off at e
    rw [if_pos n] at e
    cases e
  · rw [off_at n] at e
    rw [upd_ne n]
    exact e
/-- turn i gives, if c i, an item y with R i y; what stood stays -/
theorem lc_rel {J : It} {n : Nat} {G : Hp → Prop} {Y : Nat → Hp → V → Hp → Prop} (w : Walk J n G Y) {g : TG} {tt : TT} {te : TE} {vs : List Nat} {σ : St} {H1 : Hp} {D : Addr} {Qd : Hp → Prop} (c : Nat → Bool) (R : Nat → V → Hp → Prop)
    (hR : ∀ i y H H', Same H H' → R i y H → R i y H') (hn : n ≤ 100000) (hD : H1 D = none) (hG : ∀ H, Same H1 H → G H)
    (hs : ∀ i x H H' (Qy : V → Hp → Prop) (Qn : Hp → Prop), i < n → Same H1 H → (∃ acc, H D = some (.lst acc)) → Y i H x H' → (∀ y H4, c i = true → Same H H4 → R i y (KB.off H4 D) → Qy y H4) → (∀ H4, c i = false → Same H H4 → Qn H4) →
      g x (wipe σ vs) H' fun σ2 H2 => wipe σ2 vs = wipe σ vs ∧ tt σ2 H2 fun b H3 => if b = true then te σ2 H3 Qy else Qn H3)
    (hd : ∀ H ys, Same H1 H → H D = some (.lst ys) → Paired (fun i y => R i y (KB.off H D)) ((List.range n).filter c) ys → Qd H) :
    ∃ W : Nat → Nat → Hp → Prop, (∃ m, W 0 m (upd H1 D (.lst []))) ∧ ∀ i m H, W i m H →
      (J.stop i H ∧ Qd H) ∨ (J.go i H ∧ ∃ Nx : Hp → Prop, (∀ H', Nx H' → ∃ m', m' < m ∧ W (i + 1) m' H') ∧ ∀ x H', J.yld i H x H' → g x (wipe σ vs) H' fun σ2 H2 => wipe σ2 vs = wipe σ vs ∧ tt σ2 H2 fun b H3 =>
        if b = true then te σ2 H3 fun y H4 => ∃ acc, H4 D = some (.lst acc) ∧ acc.length < sizeLine ∧ Nx (upd H4 D (.lst (acc ++ [y]))) else Nx H3) := by
  refine lc_it w (fun i H => Same H1 H ∧ ∃ ys, H D = some (.lst ys) ∧ ys.length ≤ i ∧ Paired (fun i y => R i y (KB.off H D)) ((List.range i).filter c) ys) ⟨Same.updf hD, [], upd_same, Nat.le_refl _, .nil⟩ (fun i H _ h => hG H h.1) (fun i x H H' hi hP hy => ?_) (fun H h => ?_)
  · obtain ⟨s1, ys, hD', ly, py⟩ := hP
    refine hs i x H H' _ _ hi s1 ⟨ys, hD'⟩ hy (fun y H4 e s4 r => ?_) (fun H4 e s4 => ?_)
    · have l2 : (100000 : Nat) < sizeLine := by decide
      refine ⟨ys, s4 _ _ hD', by omega, fun b o eb => ?_, ys ++ [y], upd_same, by rw [List.length_append]; exact Nat.succ_le_succ ly, ?_⟩
      · rw [upd_ne (ne_of_none eb hD)]
        exact s4 _ _ (s1 _ _ eb)
      · rw [List.range_succ, List.filter_append, List.filter_cons, if_pos e, List.filter_nil, off_upd]
        exact paired_snoc (paired_mono (fun i y h => hR i y _ _ (off_same D s4) h) py) r
    · refine ⟨s1.trans s4, ys, s4 _ _ hD', by omega, ?_⟩
      rw [List.range_succ, List.filter_append, List.filter_cons, if_neg (by rw [e]; exact Bool.false_ne_true), List.filter_nil, List.append_nil]
      exact paired_mono (fun i y h => hR i y _ _ (off_same D s4) h) py
  · obtain ⟨s1, ys, hD', ly, py⟩ := h
    exact hd H ys s1 hD' py
/-- pairs on the heap, taken for a dictionary's -/
theorem pairs_addr {K : PySem.W.Frag} {H : Hp} : ∀ {is : List Nat} {ys : List V} {f : Nat → Key × V}, Paired (fun i y => ∃ T, y = .ref T ∧ H T = some (.tup [kV (f i).1, (f i).2])) is ys →
    ∃ ps : List Addr, ys = ps.map V.ref ∧ Paired (fun p kv => SqT K H p [kV kv.1, kv.2]) ps (is.map f)
  | _, _, _, .nil => ⟨[], rfl, .nil⟩
  | _, _, _, .cons r t => by
    obtain ⟨T, rfl, h⟩ := r
    obtain ⟨ps, rfl, p⟩ := pairs_addr t
    exact ⟨T :: ps, rfl, .cons (SqT.of h) p⟩
end L2
namespace KB
open PySem PySem.Spec PyProof.Rows L2
def rDictP (K : PySem.W.Frag) : List V → Hp → VK → Prop := fun xs H Q => ∃ (a : Addr) (ps : List Addr) (kvs : List (Key × V)), xs = [.ref a] ∧ SqL K H a (ps.map V.ref) ∧ Paired (fun p kv => SqT K H p [kV kv.1, kv.2]) ps kvs ∧
    ∀ p, H p = none → Q (.ref p) (upd H p (.dK (mergeK [] kvs)))
theorem call_dictPR {X : Cx} (hc : X.calm = true) : CallR X (.type "dict") (rDictP X.K) := call_dictP hc
def rDictD : List V → Hp → VK → Prop := fun xs H Q => ∃ (a : Addr) (kvs : List (Key × V)), xs = [V.ref a] ∧ Rd H a (.dK kvs) ∧ ∀ p, H p = none → Q (.ref p) (upd H p (.dK kvs))
theorem call_dictDR {X : Cx} : CallR X (.type "dict") rDictD := call_dictD
end KB
namespace KB
open PySem PySem.Spec PyProof.Rows L2
def rSortDI : List V → Hp → VK → Prop := fun xs H Q => ∃ (a : Addr) (kvs : List (Key × V)) (ks : List Int), xs = [V.ref a] ∧ Rd H a (.dK kvs) ∧ kvs.map (·.1) = ks.map Sum.inl ∧ ks.length < 64 ∧
    ∀ (ys : List Int) (p : Addr), ys.Perm ks → ys.Pairwise (· ≤ ·) → H p = none → Q (.ref p) (upd H p (.lst (ys.map V.int)))
theorem cr_sortedDI {X : Cx} (hc : X.calm = true) : CallR X (.builtin "sorted") rSortDI := call_sortedDI hc
end KB
set_option Elab.async false
set_option linter.all false
set_option maxRecDepth 100000
set_option maxHeartbeats 8000000
namespace K17
open PySem PySem.Spec PyProof.Rows L2 KB
theorem pe_dead {X : Cx} {e : Expr} : PE X e (fun _ _ _ => False) := ⟨fun _ _ _ _ _ _ h => h.elim⟩
/-- what is new in H' -/
def nw (H H' : Hp) : Hp := fun b => match H b with
  | none => H' b
  | some _ => none
theorem nw_at {H H' : Hp} {b : Addr} (h : H b = none) : nw H H' b = H' b := by
  unfold nw
  rw [h]
theorem nw_le (H H' : Hp) : Same (nw H H') H' := fun b o e => by
  unfold nw at e
  split at e
  · exact e
  · cases e
theorem nw_none {H H' : Hp} {b : Addr} {o : HO} (h : nw H H' b = some o) : H b = none := by
  unfold nw at h
  split at h
  · assumption
  · cases h
theorem nw_same {H G G2 : Hp} (k : Same G G2) : Same (nw H G) (nw H G2) := fun b o e => by
  rw [nw_at (nw_none e)]
  exact k _ _ (nw_le _ _ _ _ e)
theorem nw_sub {H G G2 : Hp} (k : Same H G) : Same (nw G G2) (nw H G2) := fun b o e => by
  rw [nw_at (none_back k (nw_none e))]
  exact nw_le _ _ _ _ e
theorem TD.tup {K : PySem.W.Frag} {H : Hp} {n : Nat} {a : Addr} {xs : List V} {ds : List PyData} (h : SqT K H a xs) (l : xs.length = ds.length) (s : ds.length ≤ 1000) (k : ∀ (i : Nat) (u : V) (e : PyData), xs[i]? = some u → ds[i]? = some e → TD K H n u e) : TD K H (n + 1) (.ref a) (.tuple ds) :=
  .inr (.inl ⟨a, xs, ds, rfl, l, s, .inr ⟨h, rfl⟩, k⟩)
def spSame (K : PySem.W.Frag) (n : Nat) : Sp := fun vs H Q _ => ∃ (x : V) (d : PyData), vs = [x] ∧ TD K H n x d ∧ ∀ y H', Same H H' → TD K (nw H H') n y d → Q y H'
abbrev s_same : Stmt := top 38
abbrev N_same : List Str := ["_law_thing", "_law_item", "_law_key"]
theorem sc_same : FnScope N_same ["_law_thing"] (defScope s_same) := ⟨rfl, rfl, rfl, by decide +kernel, rfl, by decide +kernel, by decide +kernel⟩
section
variable {P : Program} {w : World} {K : PySem.W.Frag} {mg : Str → Option Value} {base : Heap} {f : Addr} {fd : FuncData}
theorem ok_same (F : FnP K "_law_same" s_same f fd) (Z : FreeS mg) (gS : mg "_law_same" = some (.ref f)) : ∀ n : Nat, FnOk P w K mg base CX0 (n + 1) f fd ["_law_thing"] (spSame K n) := by
  have bS : Binds K fd ["_law_thing"] [] := F.bindsN fun _ _ _ _ _ _ us hl => match us, hl with | [_], _ => rfl
  intro n
  induction n with
  | zero =>
    refine F.ok sc_same (fun vs H Q E h => ?_) (fun cdv A outer s H vs Q E hr h => ?_)
    · obtain ⟨x, d, rfl, _⟩ := h
      rfl
    · obtain ⟨x, d, rfl, hx, k⟩ := h
      have hx : FlatD x d := hx
      have nd := sc_same.nd
      refine ⟨_, PSs.nox (pss_cons (ps_if (pt_val (pe_callB call_isi (by rfl) Z.isi (by decide +kernel) (pa_cons (pv 0) (pa_cons (pe_bltn (v := .ty "dict") (by rfl) Z.tdict (by decide +kernel) rfl) pa_nil)))) (pss_one ps_dead) (pss_nil))
      (pss_cons (ps_if (pt_val (pe_callB call_isi (by rfl) Z.isi (by decide +kernel) (pa_cons (pv 0) (pa_cons (pe_bltn (v := .ty "list") (by rfl) Z.tlist (by decide +kernel) rfl) pa_nil)))) (pss_one ps_dead) (pss_nil))
      (pss_one (ps_ret (pe_ifExp (pt_val (pe_callB call_isi (by rfl) Z.isi (by decide +kernel) (pa_cons (pv 0) (pa_cons (pe_bltn (v := .ty "tuple") (by rfl) Z.ttuple (by decide +kernel) rfl) pa_nil)))) (pe_dead) (pv 0)))))), ?_⟩
      obtain ⟨t', ty', k1', k2', k3', i', b', k4', k5'⟩ := FlatD.ty (K := K) (H := H) hx
      refine ⟨_, rfl, x, .ty "dict", .type t', .type "dict", false, rfl, .ty _, ty', kit_ty k3', false, rfl, iteF ?_⟩
      refine ⟨_, rfl, x, .ty "list", .type t', .type "list", false, rfl, .ty _, ty', kit_ty k1', false, rfl, iteF ?_⟩
      refine ⟨_, rfl, x, .ty "tuple", .type t', .type "tuple", false, rfl, .ty _, ty', kit_ty k2', false, rfl, iteF ?_⟩
      exact ⟨_, rfl, k x H (Same.refl H) (TD.flat hx)⟩
  | succ n ih =>
    refine F.ok sc_same (fun vs H Q E h => ?_) (fun cdv A outer s H vs Q E hr h => ?_)
    · obtain ⟨x, d, rfl, _⟩ := h
      rfl
    · obtain ⟨x, d, rfl, hx, k⟩ := h
      have hu : (A.deeper (envOfC "_law_same" (defScope s_same) s.heap.objs.size f cdv)).units + 1 < cLine := by
        have := hr.units
        omega
      have nd := sc_same.nd
      have sl : (2000 : Nat) ≤ sizeLine := by decide
      refine ⟨_, PSs.nox (pss_cons (ps_if (pt_val (pe_callB call_isi (by rfl) Z.isi (by decide +kernel) (pa_cons (pv 0) (pa_cons (pe_bltn (v := .ty "dict") (by rfl) Z.tdict (by decide +kernel) rfl) pa_nil)))) (pss_one (ps_ret (pe_callTy (call_dictPR rfl) (by rfl) Z.tdict (by decide +kernel) (pa_cons (pe_lock (pe_lc (own := [("_law_key", 2)]) (g := gName 2) (tt := tYes) (te := tTup (tCons (tVar 2) (tCons (tCall (spSame K n) [] E0 (tCons (tDGet (tVar 0) (tVar 2)) tNil)) tNil))) (by rfl) nd (pi_keys (pv 0))
          (blkOk_by (own := [("_law_key", 2)]) (N := N_same) (sc := defScope s_same) (by decide +kernel)) (fun _ _ _ _ _ => pg_name (i := 2) nd rfl (Or.inl rfl)) (fun _ _ _ _ _ => pts_nil)
          (fun _ _ _ _ _ => pe_tup (pa_cons (pv 2) (pa_cons (pe_call ih hr rfl gS F.kp bS .nil pass0 (pa_cons (pe_dget hu (pv 0) (pv 2) (fun _ _ => rfl)) pa_nil)) (pa_nil)))))) pa_nil)))) (pss_nil))
      (pss_cons (ps_if (pt_val (pe_callB call_isi (by rfl) Z.isi (by decide +kernel) (pa_cons (pv 0) (pa_cons (pe_bltn (v := .ty "list") (by rfl) Z.tlist (by decide +kernel) rfl) pa_nil)))) (pss_one (ps_ret (pe_lc (own := [("_law_item", 1)]) (g := gName 1) (tt := tYes) (te := tCall (spSame K n) [] E0 (tCons (tVar 1) tNil)) (by rfl) nd (pi_list (pv 0))
          (blkOk_by (own := [("_law_item", 1)]) (N := N_same) (sc := defScope s_same) (by decide +kernel)) (fun _ _ _ _ _ => pg_name (i := 1) nd rfl (Or.inl rfl)) (fun _ _ _ _ _ => pts_nil)
          (fun _ _ _ _ _ => pe_call ih hr rfl gS F.kp bS .nil pass0 (pa_cons (pv 1) pa_nil))))) (pss_nil))
      (pss_one (ps_ret (pe_ifExp (pt_val (pe_callB call_isi (by rfl) Z.isi (by decide +kernel) (pa_cons (pv 0) (pa_cons (pe_bltn (v := .ty "tuple") (by rfl) Z.ttuple (by decide +kernel) rfl) pa_nil)))) (pe_callTy call_tuple_of (by rfl) Z.ttuple (by decide +kernel) (pa_cons (pe_lc (own := [("_law_item", 1)]) (g := gName 1) (tt := tYes) (te := tCall (spSame K n) [] E0 (tCons (tVar 1) tNil)) (by rfl) nd (pi_tup (pv 0))
          (blkOk_by (own := [("_law_item", 1)]) (N := N_same) (sc := defScope s_same) (by decide +kernel)) (fun _ _ _ _ _ => pg_name (i := 1) nd rfl (Or.inl rfl)) (fun _ _ _ _ _ => pts_nil)
          (fun _ _ _ _ _ => pe_call ih hr rfl gS F.kp bS .nil pass0 (pa_cons (pv 1) pa_nil))) pa_nil)) (pv 0)))))), ?_⟩
      rcases hx with hx | ⟨a, xs, ds, rfl, lx, l1, tx, kx⟩ | ⟨a, ps, m, rfl, n1, ha, rfl⟩
      · skip
        obtain ⟨t', ty', k1', k2', k3', i', b', k4', k5'⟩ := FlatD.ty (K := K) (H := H) hx
        refine ⟨_, rfl, x, .ty "dict", .type t', .type "dict", false, rfl, .ty _, ty', kit_ty k3', false, rfl, iteF ?_⟩
        refine ⟨_, rfl, x, .ty "list", .type t', .type "list", false, rfl, .ty _, ty', kit_ty k1', false, rfl, iteF ?_⟩
        refine ⟨_, rfl, x, .ty "tuple", .type t', .type "tuple", false, rfl, .ty _, ty', kit_ty k2', false, rfl, iteF ?_⟩
        exact ⟨_, rfl, k x H (Same.refl H) (TD.flat hx)⟩
      · rcases tx with ⟨ha, rfl⟩ | ⟨ha, rfl⟩
        · refine ⟨_, rfl, .ref a, .ty "dict", .type "list", .type "dict", false, rfl, .ty _, .base (.lst ha), kit_ty (by decide +kernel), false, rfl, iteF ?_⟩
          refine ⟨_, rfl, .ref a, .ty "list", .type "list", .type "list", true, rfl, .ty _, .base (.lst ha), kit_ty (by decide +kernel), true, rfl, iteT ?_⟩
          refine ⟨_, rfl, a, rfl, ⟨_, SqL.of ha⟩, fun D hD => ?_⟩
          refine lc_it (walk_list (K := K) (a := a) (xs := xs)) (fun i G => Same H G ∧ ∃ ys : List V, G D = some (.lst ys) ∧ ys.length = i ∧ ∀ (j : Nat) (u : V) (e : PyData), ys[j]? = some u → ds[j]? = some e → TD K (off (nw H G) D) n u e)
            ⟨Same.updf hD, [], upd_same, rfl, fun j u e h => by simp at h⟩ (fun i G _ hh => SqL.of (hh.1 _ _ ha)) ?_ ?_
          · rintro i v G G' hi ⟨sG, ys, hy, ly, ky'⟩ ⟨rfl, hv⟩
            have hd : ds[i]? = some ds[i] := List.getElem?_eq_getElem (by omega)
            refine ⟨rfl, _, rfl, v, _, rfl, (kx i v _ hv hd).same sG, fun y G2 s2 hy2 => ?_⟩
            refine ⟨ys, s2 _ _ hy, by omega, fun c o e => ?_, ys ++ [y], upd_same, by rw [List.length_append, ly]; rfl, fun j u e h1 h2 => ?_⟩
            · rw [upd_ne (ne_of_none e hD)]
              exact s2 _ _ (sG _ _ e)
            · have eo : off (nw H (upd G2 D (.lst (ys ++ [y])))) D = off (nw H G2) D := by
                funext c
                unfold off
                by_cases c1 : c = D
                · rw [if_pos c1, if_pos c1]
                · rw [if_neg c1, if_neg c1]
                  unfold nw
                  rw [upd_ne c1]
              rw [eo]
              by_cases hj : j < ys.length
              · rw [List.getElem?_append_left hj] at h1
                exact (ky' j u e h1 h2).same (off_same D (nw_same s2))
              · rw [List.getElem?_append_right (by omega)] at h1
                have hz : j - ys.length < 1 := by
                  have := (List.getElem?_eq_some_iff.mp h1).1
                  simpa using this
                have q1 := List.mem_of_getElem? h1
                rw [List.mem_singleton] at q1
                rw [show j = i by omega, hd] at h2
                rw [q1, ← Option.some.inj h2]
                refine hy2.same fun c o e => ?_
                have c1 : c ≠ D := fun z => by
                  have := nw_none e
                  rw [z, hy] at this
                  cases this
                rw [off_at c1]
                exact nw_sub sG _ _ e
          · rintro G ⟨sG, ys, hy, ly, ky'⟩
            refine k (.ref D) G sG ?_
            exact TD.lst (by rw [nw_at hD]; exact hy) (by omega) l1 fun j u e h1 h2 => (ky' j u e h1 h2).same (off_le _ D)
        · refine ⟨_, rfl, .ref a, .ty "dict", .type "tuple", .type "dict", false, rfl, .ty _, sqT_ty ha, kit_ty (by decide +kernel), false, rfl, iteF ?_⟩
          refine ⟨_, rfl, .ref a, .ty "list", .type "tuple", .type "list", false, rfl, .ty _, sqT_ty ha, kit_ty (by decide +kernel), false, rfl, iteF ?_⟩
          refine ⟨_, rfl, .ref a, .ty "tuple", .type "tuple", .type "tuple", true, rfl, .ty _, sqT_ty ha, kit_ty (by decide +kernel), true, rfl, iteT ?_⟩
          refine ⟨_, rfl, a, rfl, ⟨_, ha⟩, fun D hD => ?_⟩
          refine lc_it (walk_tup (K := K) (a := a) (xs := xs)) (fun i G => Same H G ∧ ∃ ys : List V, G D = some (.lst ys) ∧ ys.length = i ∧ ∀ (j : Nat) (u : V) (e : PyData), ys[j]? = some u → ds[j]? = some e → TD K (off (nw H G) D) n u e)
            ⟨Same.updf hD, [], upd_same, rfl, fun j u e h => by simp at h⟩ (fun i G _ hh => SqT_up hh.1 ha) ?_ ?_
          · rintro i v G G' hi ⟨sG, ys, hy, ly, ky'⟩ ⟨rfl, hv⟩
            have hd : ds[i]? = some ds[i] := List.getElem?_eq_getElem (by omega)
            refine ⟨rfl, _, rfl, v, _, rfl, (kx i v _ hv hd).same sG, fun y G2 s2 hy2 => ?_⟩
            refine ⟨ys, s2 _ _ hy, by omega, fun c o e => ?_, ys ++ [y], upd_same, by rw [List.length_append, ly]; rfl, fun j u e h1 h2 => ?_⟩
            · rw [upd_ne (ne_of_none e hD)]
              exact s2 _ _ (sG _ _ e)
            · have eo : off (nw H (upd G2 D (.lst (ys ++ [y])))) D = off (nw H G2) D := by
                funext c
                unfold off
                by_cases c1 : c = D
                · rw [if_pos c1, if_pos c1]
                · rw [if_neg c1, if_neg c1]
                  unfold nw
                  rw [upd_ne c1]
              rw [eo]
              by_cases hj : j < ys.length
              · rw [List.getElem?_append_left hj] at h1
                exact (ky' j u e h1 h2).same (off_same D (nw_same s2))
              · rw [List.getElem?_append_right (by omega)] at h1
                have hz : j - ys.length < 1 := by
                  have := (List.getElem?_eq_some_iff.mp h1).1
                  simpa using this
                have q1 := List.mem_of_getElem? h1
                rw [List.mem_singleton] at q1
                rw [show j = i by omega, hd] at h2
                rw [q1, ← Option.some.inj h2]
                refine hy2.same fun c o e => ?_
                have c1 : c ≠ D := fun z => by
                  have := nw_none e
                  rw [z, hy] at this
                  cases this
                rw [off_at c1]
                exact nw_sub sG _ _ e
          · rintro G ⟨sG, ys, hy, ly, ky'⟩
            refine ⟨D, ys, rfl, .inl ⟨SqL.of hy, fun T hT => ?_⟩⟩
            have sT := Same.updf (o := .tup ys) hT
            refine k (.ref T) _ (sG.trans sT) ?_
            exact TD.tup (SqT.of (by rw [nw_at (none_back sG hT), upd_same])) (by omega) l1 fun j u e h1 h2 => ((ky' j u e h1 h2).same (off_le _ D)).same (nw_same sT)
      · refine ⟨_, rfl, .ref a, .ty "dict", .type "dict", .type "dict", true, rfl, .ty _, .base (.dK ha), kit_ty (by decide +kernel), true, rfl, iteT ?_⟩
        refine ⟨a, _, ha, trivial, fun od => ?_⟩
        refine ⟨_, rfl, a, od, rfl, .inl ⟨_, upd_same, fun D hD => ?_⟩⟩
        have nDa : D ≠ a := fun z => by
          rw [z, upd_same] at hD
          cases hD
        have hDH : H D = none := by
          rw [upd_ne nDa] at hD
          exact hD
        obtain ⟨G0, eG0⟩ : ∃ X, X = upd H a (.frz od (.dK (mV ps m))) := ⟨_, rfl⟩
        rw [← eG0] at hD ⊢
        have fa0 : G0 a = some (.frz od (.dK (mV ps m))) := by rw [eG0]; exact upd_same
        refine lc_it (by have := walk_keys (d := a) (o := od) (kvs := mV ps m); rw [dV_len] at this; exact this) (fun i G => Same G0 G ∧ ∃ ts : List Addr, G D = some (.lst (ts.map V.ref)) ∧ ts.length = i ∧ ∀ (j : Nat) (t : Addr) (p : Nat), ts[j]? = some t → ps[j]? = some p → G t = some (.tup [.int (p : Int), .int (m p : Int)]))
          ⟨Same.updf hD, [], upd_same, rfl, fun j t p h => by simp at h⟩ (fun i G _ hh => hh.1 _ _ fa0) ?_ ?_
        · rintro i v G' G hi ⟨sG, ts, hts, lts, kts⟩ ⟨rfl, k', v', ek, rfl⟩
          have ei : (mV ps m)[i]? = some (ky ps[i], .int (m ps[i] : Int)) := by
            unfold mV dV
            rw [List.getElem?_map, List.getElem?_eq_getElem hi]
            rfl
          rw [ei] at ek
          cases ek
          have mp := List.getElem_mem hi
          have da : DGet G a (.int (ps[i] : Int)) (some (.int (m ps[i] : Int))) := .inl ⟨_, ky ps[i], .inr ⟨od, sG _ _ fa0⟩, rfl, (mV_val mp).symm⟩
          refine ⟨rfl, _, rfl, _, rfl, _, rfl, a, _, rfl, da, _, _, rfl, TD.flat (.int _), fun y G2 s2 hy => ?_⟩
          have ey : y = .int (m ps[i] : Int) := by
            obtain ⟨n', rfl⟩ : ∃ n', n = n' + 1 := ⟨n - 1, by omega⟩
            rcases hy with hy | ⟨_, _, _, _, _, _, z, _⟩ | ⟨_, _, _, _, _, _, z⟩
            · cases hy
              rfl
            · rcases z with ⟨_, z⟩ | ⟨_, z⟩ <;> cases z
            · cases z
          subst ey
          refine ⟨by show 2 ≤ sizeLine; decide, fun t ht => ?_⟩
          have s3 := Same.updf (o := .tup [.int (ps[i] : Int), .int (m ps[i] : Int)]) ht
          have nt : t ≠ D := fun z => by
            rw [z, s2 _ _ hts] at ht
            cases ht
          have s23 := s2.trans s3
          refine ⟨ts.map V.ref, s23 _ _ hts, by rw [List.length_map]; have := n1.2.1; omega, fun c o e => ?_, ts ++ [t], by rw [upd_same, List.map_append]; rfl, by rw [List.length_append, lts]; rfl, fun j u p h1 h2 => ?_⟩
          · rw [upd_ne (ne_of_none e hD)]
            exact s23 _ _ (sG _ _ e)
          · have get : ∀ (j : Nat) (u : Addr) (p : Nat), (ts ++ [t])[j]? = some u → ps[j]? = some p → (upd G2 t (.tup [.int (ps[i] : Int), .int (m ps[i] : Int)])) u = some (.tup [.int (p : Int), .int (m p : Int)]) := fun j u p h1 h2 => by
              by_cases hj : j < ts.length
              · rw [List.getElem?_append_left hj] at h1
                exact s23 _ _ (kts j u p h1 h2)
              · rw [List.getElem?_append_right (by omega)] at h1
                have q1 := List.mem_of_getElem? h1
                have hz : j - ts.length < 1 := by
                  have := (List.getElem?_eq_some_iff.mp h1).1
                  simpa using this
                rw [List.mem_singleton] at q1
                rw [show j = i by omega, List.getElem?_eq_getElem hi] at h2
                rw [q1, ← Option.some.inj h2]
                exact upd_same
            have g := get j u p h1 h2
            have nu : u ≠ D := fun z => by
              rw [z, s23 _ _ hts] at g
              cases g
            rw [upd_ne nu]
            exact g
        · rintro G ⟨sG, ts, hts, lts, kts⟩
          refine ⟨sG _ _ fa0, ?_⟩
          have hU : (upd G a (.dK (mV ps m))) D = some (.lst (ts.map V.ref)) := by
            rw [upd_ne nDa]
            exact hts
          have sU : Same H (upd G a (.dK (mV ps m))) := fun c o e => by
            by_cases z : c = a
            · rw [z, ha] at e
              cases e
              rw [z, upd_same]
            · rw [upd_ne z]
              exact sG _ _ (by rw [eG0, upd_ne z]; exact e)
          have lps : ts.length = ps.length := lts
          have pz : ∀ {ts : List Addr} {ps : List Nat}, ts.length = ps.length → (∀ (j : Nat) (t : Addr) (p : Nat), ts[j]? = some t → ps[j]? = some p → (upd G a (.dK (mV ps m))) t = some (.tup [.int (p : Int), .int (m p : Int)])) → True := fun _ _ => trivial
          refine ⟨D, ts, mV ps m, rfl, SqL.of hU, ?_, fun q hq => ?_⟩
          · have : ∀ (us : List Addr) (qs : List Nat), us.length = qs.length → (∀ (j : Nat) (t : Addr) (p : Nat), us[j]? = some t → qs[j]? = some p → (upd G a (.dK (mV ps m))) t = some (.tup [.int (p : Int), .int (m p : Int)])) → Paired (fun p kv => SqT K (upd G a (.dK (mV ps m))) p [kV kv.1, kv.2]) us (mV qs m) := by
              intro us
              induction us with
              | nil =>
                intro qs l _
                cases qs with
                | nil => exact .nil
                | cons q qs => cases l
              | cons u us ihu =>
                intro qs l k2
                cases qs with
                | nil => cases l
                | cons q qs =>
                  refine .cons (SqT.of (k2 0 u q rfl rfl)) (ihu qs (Nat.succ.inj l) fun j t p h1 h2 => k2 (j + 1) t p h1 h2)
            refine this ts ps lps fun j t p h1 h2 => ?_
            have g := kts j t p h1 h2
            have nta : t ≠ a := fun z => by
              rw [z, sG _ _ fa0] at g
              cases g
            rw [upd_ne nta]
            exact g
          · rw [merge_dV0 n1.2.2]
            have sq := Same.updf (o := .dK (mV ps m)) hq
            refine k (.ref q) _ (sU.trans sq) ?_
            obtain ⟨n', rfl⟩ : ∃ n', n = n' + 1 := ⟨n - 1, by omega⟩
            refine TD.dct (n := n') (by rw [nw_at (none_back sU hq), upd_same]) n1.2.1 n1.2.2
end
end K17
set_option Elab.async false
set_option linter.all false
set_option maxRecDepth 100000
set_option maxHeartbeats 4000000
/-! An own exception class over ValueError called with keywords: the same object comes as without. -/
namespace PySem
namespace KwX
open PySem.W PySem.Calls PyProof.Rows PySem.HandSPX
section
variable {M : Model} {A : Around} {E : Value → Shared → Prop} {h : Heap} {g : Array GenState} {d : Drawn} {t : Nat} {os : OsState}
variable {nm q : Str} {C N : Addr} {bs bm bmB : List Value} {hdct : Bool} {sn : List Str} {sub : List Value} {ab : Bool} {col : Option Bool} {dd : Option Addr}
variable {k0 k1 k2 k3 k5 : Option Value} {B newId initId : String} {kw : List (Str × Value)}

theorem chk (F : ExcBaseFacts B newId initId bmB) (hT : ∀ X : String, bm.contains (.type X) = bmB.contains (.type X))
    {rest : List Value} {Q : Unit → Shared → Prop}
    (hC : h.get? C = some (excClassObj nm q C N bs bm hdct sn sub ab col dd k0 k1 k2 k3 k5 newId))
    (hq : Q () ⟨h, g, d, t, os⟩) :
    wpAny M A (checkBuiltinCall newId ⟨.ref C :: rest, kw⟩) Q E ⟨h, g, d, t, os⟩ := by
  have hB : (Value.ref C :: bm).contains (.type B) = true := by
    rw [List.contains_cons, hT, F.hasB, Bool.or_true]
  have hs := F.noStar
  simp only [checkBuiltinCall, F.newKind, F.newSplit, F.newRow]
  repeat (first
    | refine wpAny_loadPart_at hC ?_
    | (refine wpAny_isSubtype_exc hC ?_; rw [hB])
    | refine wpAny_staticBase_exc hC ?_
    | refine wpAny_madeBy_exc hC ?_
    | simp only [bne_self_eq_false, Bool.false_eq_true, if_false]
    | wp_step)
  exact hq
end

section
variable {prog : Program} {w : World} {A : Around} {E : Value → Shared → Prop} {R : Result → Shared → Prop} {h : Heap} {g : Array GenState} {d : Drawn} {t : Nat} {os : OsState}
variable {nm q : Str} {C N : Addr} {bs bm bmB : List Value} {hdct : Bool} {sn : List Str} {sub : List Value} {ab : Bool} {col : Option Bool} {dd : Option Addr}
variable {k0 k1 k2 k3 k5 : Option Value} {B newId initId : String} {kw : List (Str × Value)}

theorem made (F : ExcBaseFacts B newId initId bmB) (hT : ∀ X : String, bm.contains (.type X) = bmB.contains (.type X)) {rest : List Value}
    (hC : h.get? C = some (excClassObj nm q C N bs bm hdct sn sub ab col dd k0 k1 k2 k3 k5 newId))
    (hq : R (.ok (.ret (.ref (h.objs.size + 1)))) ⟨(h.push (W.kdv_tup rest)).push (excO C h.objs.size), g, d, t, os⟩)
    (hrest : rest.length ≤ sizeLine) : codeAny (model prog w) A (.builtin newId ⟨.ref C :: rest, kw⟩) R ⟨h, g, d, t, os⟩ := by
  have he := F.ends
  have hB : (Value.ref C :: bm).contains (.type B) = true := by
    rw [List.contains_cons, hT, F.hasB, Bool.or_true]
  have hA : (Value.ref C :: bm).contains (.type "AttributeError") = false := by
    rw [List.contains_cons, hT, F.noAttr]
    rfl
  have hN : (Value.ref C :: bm).contains (.type "NameError") = false := by
    rw [List.contains_cons, hT, F.noName]
    rfl
  refine codeAny_builtinAt F.entry ?_
  unfold Builtin.«BaseException.__new__»
  refine wpAt_bind ?_
  show wpAt _ _ _ (stack >>= _) _ _ _
  refine wpAt_bind (wpAt_stack fun p below => wpAt_of_wpAny ?_)
  wp_walk
  refine wpAt_of_wpAny ?_
  rw [F.owner]
  repeat (first
    | with_reducible refine wpAny_madeHere_exc F.canon hC ?_
    | with_reducible refine wpAny_loadPart_at hC ?_
    | (with_reducible refine wpAny_isSubtype_exc hC ?_; first | rw [hB] | rw [hA] | rw [hN])
    | wp_step)
  show R _ _
  rw [Heap.size_push]
  exact hq

theorem tcall (F : ExcBaseFacts B newId initId bmB) (hT : ∀ X : String, bm.contains (.type X) = bmB.contains (.type X)) {rest : List Value} {fI : Addr} {Q : Fin → Shared → Prop}
    (hC : h.get? C = some (excClassObj nm q C N bs bm hdct sn sub ab col dd k0 k1 k2 k3 k5 newId))
    (hi : W.Looks (model prog w) h (typeLookup (.ref C) "__init__") (some (.ref fI)))
    (hb : ∀ self, W.Looks (model prog w) h (bindSpecial (.ref fI) self) (.ref fI, [self])) (hrest : rest.length ≤ sizeLine)
    (hq : codeAny (model prog w) A (.call (.ref fI) ⟨.ref (h.objs.size + 1) :: rest, kw⟩)
      (fun r s' => match r with
        | .ok (.ret v) => v = .none ∧ Q (.done (.ret (.ref (h.objs.size + 1)))) s'
        | .ok _ => False
        | .error e => E e s') ⟨(h.push (W.kdv_tup rest)).push (excO C h.objs.size), g, d, t, os⟩) :
    wpAny (model prog w) A (Builtin.«type.__call__» ⟨.ref C :: rest, kw⟩) Q E ⟨h, g, d, t, os⟩ := by
  repeat (first
    | with_reducible refine wpAny_loadPart_at hC ?_
    | with_reducible refine wpAny_madeBy_exc hC ?_
    | wp_step)
  refine codeAny_call_builtin_code (Code.quiet_builtin _ F.quiet) (chk F hT hC ?_)
  refine made F hT hC ?_ hrest
  show wpAny _ _ _ _ _ _
  have k : ∀ b o, h.get? b = some o → ((h.push (W.kdv_tup rest)).push (excO C h.objs.size)).get? b = some o :=
    fun b o e => Heap.get?_push_of_some _ (Heap.get?_push_of_some _ e)
  have c1 := k _ _ hC
  have hg : ((h.push (W.kdv_tup rest)).push (excO C h.objs.size)).get? (h.objs.size + 1) = some (excO C h.objs.size) := by heap_get
  have cc : (Value.ref C :: bm).contains (.ref C) = true := by simp
  have i1 := hi.keeps k
  have b1 := (hb (.ref (h.objs.size + 1))).keeps k
  unfold isInstance
  repeat (first
    | with_reducible refine wpAny_loadPart_at hg ?_
    | (with_reducible refine wpAny_isSubtype_exc c1 ?_; rw [cc])
    | wp_step)
  show wpAny _ _ (typeLookup (.ref C) _) _ _ _
  refine i1.at (wpAny_holding (wpAny_bind (b1.at ?_)))
  refine wpAny_bind (wpAny_call (codeAny_mono hq fun r s' z => ?_))
  rcases r with e | (v | _ | _ | _) <;> first | exact z | exact z.elim | skip
  obtain ⟨rfl, z⟩ := z
  first
    | exact wpAny_pure (wpAny_pure z)
    | (wp_walk; exact z)

/-- C(.., k = v): the object, then __init__ with the same arguments -/
theorem callk (F : ExcBaseFacts B newId initId bmB) (hT : ∀ X : String, bm.contains (.type X) = bmB.contains (.type X)) {rest : List Value} {fI : Addr}
    (hC : h.get? C = some (excClassObj nm q C N bs bm hdct sn sub ab col dd k0 k1 k2 k3 k5 newId))
    (hi : W.Looks (model prog w) h (typeLookup (.ref C) "__init__") (some (.ref fI)))
    (hb : ∀ self, W.Looks (model prog w) h (bindSpecial (.ref fI) self) (.ref fI, [self])) (hrest : rest.length ≤ sizeLine)
    (hq : codeAny (model prog w) (A.under (.builtin "type.__call__" ⟨.ref C :: rest, kw⟩)) (.call (.ref fI) ⟨.ref (h.objs.size + 1) :: rest, kw⟩)
      (W.InitBack (h.objs.size + 1) R) ⟨(h.push (W.kdv_tup rest)).push (excO C h.objs.size), g, d, t, os⟩) :
    codeAny (model prog w) A (.call (.ref C) ⟨rest, kw⟩) R ⟨h, g, d, t, os⟩ := by
  have f1 := tc_lookup
  have f2 := tc_bind (.ref C)
  have hTy : (⟨h, g, d, t, os⟩ : Shared).TypeIs (.ref C) "type" := ⟨_, hC, rfl⟩
  refine codeAny_of_tree ?_
  show wpAny _ _ (callAny (.ref C) _) _ _ _
  repeat (any_goals (first
    | assumption
    | with_reducible refine wpAny_loadPart_at hC ?_
    | wp_step))
  refine ⟨rfl, ?_⟩
  refine codeAny_call_builtin_at (Code.quiet_builtin _ (by decide +kernel)) entry_typeCall (wpAny_check_type_call_sub hC (tcall F hT hC hi hb hrest ?_))
  refine codeAny_mono hq fun r s' z => ?_
  rcases r with e | (v | _ | _ | _) <;> exact z
end
end KwX
end PySem
set_option Elab.async false
set_option linter.all false
set_option maxRecDepth 100000
set_option maxHeartbeats 4000000
/-! Errors of the program's own as values: made, asked for their class, read. -/
namespace PySem.W
open PySem PySem.Spec PySem.Calls PyProof.Rows
section
variable {prog : Program} {w : World} {A : Around} {E : Value → Shared → Prop} {s : Shared} {K : Frag} {x D : Addr} {ox : Obj} {od : Option Obj}
theorem err_find (hc : (clsIn K D).isSome = true) (ha : findIn K (.ref D) "__class__" = some (some (.builtin "object.__class__")))
    (hg : specialIn K (.builtin "object.__class__") "__get__" = some (some (.builtin "getset_descriptor.__get__"))) (ht : takesIn K (.builtin "object.__class__") = some true) :
    findObj K D od "__class__" = some (.bind (.builtin "getset_descriptor.__get__") (.builtin "object.__class__")) := by
  cases od with
  | none => exact findObj_dataN hc ha hg ht
  | some o => exact findObj_data hc ha hg ht
/-- x.__class__ of an error, with a dict of its own or without one -/
theorem err_class {Q : Option Value → Shared → Prop} (T : L2.ExcC K D) (X : K.In s.heap) (I : InstAt s.heap x ox D od)
    (h : Q (some (.ref D)) { s with toks := s.toks + 1 }) : wpAny (model prog w) A (getAttr? (.ref x) "__class__") Q E s := by
  have hf := err_find (od := od) (K := K) (D := D) (by obtain ⟨cd, hc, _⟩ := any_some T.hd; rw [hc]; rfl) T.ha T.hn T.ht
  obtain ⟨hp, g, d, t, os⟩ := s
  have A0 := I.type (M := model prog w)
  have A1 := looks_findIn (M := model prog w) X T.hg
  have A2 := looks_findIn (M := model prog w) X T.hk
  have A3 := looks_find (M := model prog w) X I hf
  have A4 : Looks (model prog w) hp (isInstance (.ref x) (.type "BaseException")) true := A0.andThen (looks_subIn X T.hs)
  have n0 : (false && onTheHeap (Value.builtin "BaseException.__getattribute__")) = false := rfl
  have n2 : (Value.builtin "BaseException.__getattribute__" == Value.builtin "object.__getattribute__") = false := by decide +kernel
  have n1 : (onTheHeap (Value.ref D) && Value.builtin "BaseException.__getattribute__" == Value.builtin "object.__getattribute__") = false := by
    rw [n2]
    rfl
  unfold getAttr? getAttrBy? getAttrBy
  refine wpAny_bind (wpAny_mkText (wpAny_bind (wpAny_attempt (wpAny_holding (wpAny_bind (A0.at (wpAny_bind (A1.at ?_))))))))
  show wpAny _ _ (if (onTheHeap (Value.ref D) && Value.builtin "BaseException.__getattribute__" == Value.builtin "object.__getattribute__") = true then _ else _) _ _ _
  rw [n1, if_neg Bool.false_ne_true]
  unfold getAttrByItsOwn hookBefore
  refine wpAny_bind ?_
  rw [if_pos (show onTheHeap (Value.ref D) = true from rfl)]
  refine A2.at (wpAny_bind (wpAny_attempt (wpAny_holding ?_)))
  unfold callGetattribute
  rw [n0, if_neg Bool.false_ne_true]
  unfold boundAndCalled
  rw [PySem.F.excAttr_ValueError.ga.bind (.ref x)]
  refine wpAny_bind (wpAny_pure ?_)
  show wpAny _ _ (call (.builtin "BaseException.__getattribute__") [.ref x, .str "__class__" t]) _ _ _
  refine wpAny_call (codeAny_call_builtin PySem.F.excAttr_ValueError.ga.plain PySem.F.entry_bexc_ga ?_)
  refine @check_slot (model prog w) _ _ ⟨hp, g, d, t + 1, os⟩ "BaseException.__getattribute__" "BaseException" "__getattribute__" (.ref x) [.str "__class__" t] [] _
    (by decide +kernel) (by decide +kernel) A4 (PySem.F.args_bexc_ga (.ref x) (.str "__class__" t)) ?_
  unfold Builtin.«object.__getattribute__»
  refine wpAny_bind (wpAny_of_eq (a := ((Value.ref x : Value), [Value.str "__class__" t])) (by first | rfl | (simp only [slotArgs]; rfl)) ?_)
  refine wpAny_bind (wpAny_pure (wpAny_bind (A0.at (wpAny_bind (A3.at ?_)))))
  show wpAny _ _ (holding [Value.builtin "object.__class__"] (call (.builtin "getset_descriptor.__get__") [.builtin "object.__class__", .ref x, .ref D]) >>= ret) _ _ _
  refine wpAny_bind (wpAny_holding (wpAny_call (class_get (s := ⟨hp, g, d, t + 1, os⟩) (ox := ox) (od := od) X I T.hm ?_)))
  refine wpAny_pure ?_
  show wpAny _ _ (handedOut (.ref D)) _ _ _
  rw [handedOut_of (v := .ref D) rfl]
  first
    | exact wpAny_pure (wpAny_pure h)
    | exact wpAny_pure h
    | exact wpAny_pure (wpAny_bind (wpAny_pure (wpAny_pure h)))
theorem err_kit (T : L2.ExcC K D) : KitX K (.ref x) (.ref D) (fun h => ∃ ox od, InstAt h x ox D od) where
  ty := fun _ _ _ ⟨_, _, I⟩ => I.type
  it := fun _ _ X _ => by
    obtain ⟨cd, hc, _⟩ := any_some T.hd
    unfold clsIn at hc
    split at hc
    · rename_i c1 d1 cd1 sl1 ho
      intro A' Q' E' s' k q
      unfold isType loadHead
      exact wpAny_bind (wpAny_loadPart (k _ _ (X _ _ ho)) (wpAny_pure q))
    · cases hc
  ne := fun h tp dd its n sl X htp => by
    obtain ⟨cd, hc, _⟩ := any_some T.hd
    refine Bool.eq_false_iff.mpr fun q => ?_
    have e : D = tp := Value.ref.inj (beq_iff_eq.mp q)
    subst e
    unfold clsIn at hc
    split at hc
    · rename_i c1 d1 cd1 sl1 ho
      have z := (X _ _ ho).symm.trans htp
      cases z
    · cases hc
  ca := fun X ⟨_, _, I⟩ k => err_class T X I k
end
end PySem.W
set_option Elab.async false
set_option linter.all false
set_option maxRecDepth 100000
set_option maxHeartbeats 4000000
namespace L2
open PySem PySem.Spec PyProof.Rows
/-- what the written part says of a class of errors at C whose __init__ stands at fI -/
structure ErrC (K : PySem.W.Frag) (C fI : Addr) : Prop where
  ox : OexC K C
  xf : XfC K C
  xc : ExcC K C
  iC : PySem.W.findIn K (.ref C) "__init__" = some (some (.ref fI))
  tI : PySem.W.typeIn K (.ref fI) = some (.type "function")
  nv : PySem.W.findIn K (.ref C) "value" = some none
/-- x is an error of the class at C whose field holds v -/
def ErrAt (H : Hp) (C : Addr) (v x : V) : Prop := ∃ e d, x = .ref e ∧ H e = some (exo e C (some d)) ∧ H d = some (exd d [("value", v)])
theorem ErrAt.same {H H' : Hp} {C : Addr} {v x : V} (k : Same H H') (h : ErrAt H C v x) : ErrAt H' C v x := by
  obtain ⟨e, d, e1, e2, e3⟩ := h
  exact ⟨e, d, e1, k _ _ e2, k _ _ e3⟩
/-- its __init__ -/
def spErr (C : Addr) : Sp := fun vs H Q _ => ∃ (e : Addr) (v : V), vs = [.ref e, v] ∧ H e = some (exo e C none) ∧
  ∀ d, H d = none → d ≠ e → Q .non (upd (upd H d (exd d [("value", v)])) e (exo e C (some d)))
def errScope : Scope := { kind := .function, names := [("self", .local), ("value", .local)], isGenerator := false, isCoroutine := false, more := [] }
def errBody (p1 p2 p3 p4 : Pos) : List Stmt := [.Assign [.Attribute (.Name "self" p1) "value" p2] (.Name "value" p3) p4]
theorem errSc : FnScope ["self", "value"] ["self", "value"] errScope := ⟨rfl, rfl, rfl, by decide +kernel, rfl, by decide +kernel, by decide +kernel⟩
section
variable {P : Program} {w : World} {K : PySem.W.Frag} {mg : Str → Option Value} {base : Heap}
theorem ok_err {qual : Str} {params : Arguments} {C fI : Addr} {fd : FuncData} {p1 p2 p3 p4 : Pos} (F : FunD K "__init__" qual params (errBody p1 p2 p3 p4) errScope [.non] [] fI fd) (T : ErrC K C fI) :
    FnOk P w K mg base CX0 1 fI fd ["self", "value"] (spErr C) := by
  refine F.ok errSc (fun vs H Q E h => ?_) (fun cdv A outer s H vs Q E hr h => ?_)
  · obtain ⟨e, v, rfl, _⟩ := h
    rfl
  · obtain ⟨e, v, rfl, he, k⟩ := h
    refine ⟨_, PSs.nox (pss_one (ps_ost (pv 0) (pv 1))), ?_⟩
    exact ⟨_, rfl, _, rfl, e, C, rfl, T.ox, T.nv, Or.inl ⟨he, fun d h1 h2 => k d h1 h2⟩⟩
end
section
variable {X : Cx} {pins : List (Addr × Obj)} {σ : St} {H : Hp} {s : Shared} {C fI : Addr} {fd : FuncData} {k : Nat}
/-- C(..), however the value comes to its parameter -/
theorem run_err {Q : VK} {us : List Value} {kw : List (Str × Value)} {u : Value} {v : V} (T : ErrC X.K C fI) (F1 : FnOk X.prog X.w X.K X.mg X.base CX0 k fI fd ["self", "value"] (spErr C)) (hr : Room (k + 1) X.A)
    (hus : us.length ≤ sizeLine) (hb : ∀ (s' : Shared) (e : Addr), X.K.In s'.heap → BindsTo s' fd ⟨.ref e :: us, kw⟩ ((["self", "value"] : List Str).zip [.ref e, u])) (rv : RelV v u)
    (I : Inv X pins σ H s) (h : ∀ e H', Same H H' → ErrAt H' C v (.ref e) → Q (.ref e) H') :
    wpAny (model X.prog X.w) X.A (call (.ref C) us kw) (EP X pins σ Q) X.xe s := by
  obtain ⟨nm, q, N, bs, bm, sn, sub, ab, col, dd, k0, k1, k2, k3, k5, hC, hbm⟩ := T.ox.cls
  obtain ⟨hp, g, dr, tk, os⟩ := s
  have hsz : hp.objs.size ≤ hp.objs.size + 1 := Nat.le_succ _
  have hn : H (hp.objs.size + 1) = none := I.hok.fresh hsz
  have kk : ∀ b o, hp.get? b = some o → ((hp.push (PySem.W.kdv_tup us)).push (PySem.HandSPX.excO C hp.objs.size)).get? b = some o :=
    fun b o e => Heap.get?_push_of_some _ (Heap.get?_push_of_some _ e)
  have hget : ((hp.push (PySem.W.kdv_tup us)).push (PySem.HandSPX.excO C hp.objs.size)).get? (hp.objs.size + 1) = some (PySem.HandSPX.excO C hp.objs.size) := by heap_get
  have I2 : Inv X pins σ (upd H (hp.objs.size + 1) (exo (hp.objs.size + 1) C none)) ⟨(hp.push (PySem.W.kdv_tup us)).push (PySem.HandSPX.excO C hp.objs.size), g, dr, tk, os⟩ :=
    I.laid (t' := tk) (a := hp.objs.size + 1) (o := exo (hp.objs.size + 1) C none) (h' := (hp.push (PySem.W.kdv_tup us)).push (PySem.HandSPX.excO C hp.objs.size)) kk hsz (exo_ok hget)
  have hq : spErr C [.ref (hp.objs.size + 1), v] (upd H (hp.objs.size + 1) (exo (hp.objs.size + 1) C none))
      (fun v' H3 => v' = .non ∧ Q (.ref (hp.objs.size + 1)) H3) (fun _ _ _ => False) := by
    refine ⟨_, v, rfl, upd_same, fun d hd hne => ⟨rfl, ?_⟩⟩
    rw [upd_ne hne] at hd
    refine h _ _ (fun b o e => ?_) ⟨_, d, rfl, upd_same, ?_⟩
    · rw [upd_ne (ne_of_none e hn), upd_ne (ne_of_none e hd), upd_ne (ne_of_none e hn)]
      exact e
    · rw [upd_ne hne, upd_same]
  refine wpAny_call (PySem.KwX.callk F.excBase_ValueError (fun Y => PySem.HandSPX.refsVE_contains Y bm hbm) (I.kIn _ _ hC) (PySem.W.looks_findIn I.kIn T.iC) (fun self => PySem.W.bind_fn I.kIn self T.tI) hus
    (codeAny_mono (F1.run _ X.stack _ _ ⟨Value.ref (hp.objs.size + 1) :: us, kw⟩ [Value.ref (hp.objs.size + 1), u] [V.ref (hp.objs.size + 1), v] _ (fun _ _ _ => False) (hr.make C us kw) (I2.env0.make C us kw) (hb _ _ I2.kIn)
      (.cons rfl (.cons rv .nil)) hq) fun r s' hq' => ?_))
  cases r with
  | error er => exact absurd hq' id
  | ok fl =>
    cases fl with
    | ret u' =>
      obtain ⟨v', H', I3, rv', ev, q3⟩ := I2.after hq'
      subst ev
      have e1 : ∀ b o, hp.get? b = some o → H b = none → upd H (hp.objs.size + 1) (exo (hp.objs.size + 1) C none) b = none := fun b o e n => by
        rw [upd_ne (Nat.ne_of_lt (Nat.lt_of_lt_of_le (Heap.lt_size e) hsz))]
        exact n
      exact ⟨rv', V.ref (hp.objs.size + 1), H', I3, rfl, q3⟩
    | next => exact False.elim hq'
    | brk => exact False.elim hq'
    | cont => exact False.elim hq'
end
/-! ### the rules: C(), C(e), C(value=e) -/
section
variable {X : Cx} {C fI : Addr} {fd : FuncData} {k : Nat} {x : Str} {p pos : Pos} {e : Expr} {te : TE}
/-- how an argument comes to the parameter: none, by place, by name -/
structure ErrB (K : PySem.W.Frag) (fd : FuncData) : Prop where
  b0 : ∀ (s : Shared) (a : Value), K.In s.heap → BindsTo s fd ⟨[a], []⟩ ((["self", "value"] : List Str).zip [a, .none])
  b1 : ∀ (s : Shared) (a u : Value), K.In s.heap → BindsTo s fd ⟨[a, u], []⟩ ((["self", "value"] : List Str).zip [a, u])
  bk : ∀ (s : Shared) (a u : Value), K.In s.heap → BindsTo s fd ⟨[a], [("value", u)]⟩ ((["self", "value"] : List Str).zip [a, u])
/-- what a call of the class leaves -/
def newErr (C : Addr) (v : V) (H : Hp) (Q : VK) : Prop := ∀ e H', Same H H' → ErrAt H' C v (.ref e) → Q (.ref e) H'
def tErr (C : Addr) (te : TE) : TE := fun σ H Q => te σ H fun v H1 => newErr C v H1 Q
theorem pe_err0 (T : ErrC X.K C fI) (F1 : FnOk X.prog X.w X.K X.mg X.base CX0 k fI fd ["self", "value"] (spErr C)) (B : ErrB X.K fd) (hr : Room (k + 1) X.A) (hm : X.mg x = some (.ref C)) (hg : Gl X x := by rfl)
    (hdb : (x == ("__debug__" : Str)) = false := by decide) : PE X (.Call (.Name x p) [] [] pos) (fun _ H Q => newErr C .non H Q) := by
  refine ⟨fun pins s σ H Q I h => ?_⟩
  refine wpAny_Call_Name_kw (ld_glob I hg hm ?_ hdb)
  refine PySem.W.callWith_K0 I.kIn T.ox.kC ?_
  exact run_err (us := []) (kw := []) T F1 hr (Nat.zero_le _) (fun s' a X' => B.b0 s' _ X') (v := .non) rfl I h
theorem pe_err1 (T : ErrC X.K C fI) (F1 : FnOk X.prog X.w X.K X.mg X.base CX0 k fI fd ["self", "value"] (spErr C)) (B : ErrB X.K fd) (hr : Room (k + 1) X.A) (hm : X.mg x = some (.ref C)) (he : PE X e te) (hg : Gl X x := by rfl)
    (hdb : (x == ("__debug__" : Str)) = false := by decide) (hs : starEach [e] X.env = (false, eval e X.env) :: starEach [] X.env := by rfl) (hpl : (backTo pos (starEach [] X.env)).any (·.1) = false := by rfl) :
    PE X (.Call (.Name x p) [e] [] pos) (tErr C te) := by
  refine ⟨fun pins s σ H Q I h => ?_⟩
  refine wpAny_Call_Name_kw (ld_glob I hg hm ?_ hdb)
  refine PySem.W.callWith_K (h₀ := X.base) I.ok.mod.kin T.ox.kC ?_ hs hpl
  rw [hs]
  show wpAny _ _ (spliced ((false, eval e X.env) :: backTo pos (starEach [] X.env))) _ _ s
  refine Calls.spliced_cons (thn (he.run pins s σ H _ I h) fun u s1 ⟨v, H1, I1, r1, q1⟩ => ?_)
  refine Calls.spliced_nil ⟨I1.kIn, ?_⟩
  exact run_err (us := [u]) (kw := []) T F1 hr (by show 1 ≤ sizeLine; decide) (fun s' a X' => B.b1 s' _ u X') r1 I1 q1
theorem pe_errk {pk : Pos} (T : ErrC X.K C fI) (F1 : FnOk X.prog X.w X.K X.mg X.base CX0 k fI fd ["self", "value"] (spErr C)) (B : ErrB X.K fd) (hr : Room (k + 1) X.A) (hm : X.mg x = some (.ref C))
    {ta : TA} (hkw : PK X [⟨some "value", e, pk⟩] ta) (hg : Gl X x := by rfl) (hdb : (x == ("__debug__" : Str)) = false := by decide)
    (hall : (backToKw pos (keywordEach [⟨some "value", e, pk⟩] X.env)).all (·.1.isSome) = true := by rfl) (hks : (backToKw pos (keywordEach [⟨some "value", e, pk⟩] X.env)).filterMap (·.1) = (["value"] : List Str) := by rfl)
    (hpl : ((backTo pos (starEach [] X.env)).any (·.1) || (backToKw pos (keywordEach [⟨some "value", e, pk⟩] X.env)).any (·.1.isNone)) = false := by rfl) :
    PE X (.Call (.Name x p) [] [⟨some "value", e, pk⟩] pos) (fun σ H Q => ta σ H fun vs H1 => ∃ v, vs = [v] ∧ newErr C v H1 Q) := by
  refine ⟨fun pins s σ H Q I h => ?_⟩
  refine wpAny_Call_Name_kw (ld_glob I hg hm ?_ hdb)
  refine PySem.W.callWith_KW0 (h₀ := X.base) I.ok.mod.kin T.ox.kC hall ?_ hpl
  refine thn (hkw.run pos pins s σ H _ I h) fun us s1 ⟨vs, H1, I1, r1, v, ev, q1⟩ => ?_
  subst ev
  rw [hks]
  cases r1 with
  | @cons _ u _ _ ru rn =>
    cases rn
    exact ⟨I1.kIn, run_err (us := []) (kw := [("value", u)]) T F1 hr (Nat.zero_le _) (fun s' a X' => B.bk s' _ u X') ru I1 q1⟩
end
/-! ### isinstance, the field -/
/-- an error, with or without a field -/
def AnErr (H : Hp) (C : Addr) (x : V) : Prop := ∃ e, x = .ref e ∧ (H e = some (exo e C none) ∨ ∃ d fs, H e = some (exo e C (some d)) ∧ H d = some (exd d fs))
theorem ErrAt.an {H : Hp} {C : Addr} {v x : V} (h : ErrAt H C v x) : AnErr H C x := by
  obtain ⟨e, d, e1, e2, e3⟩ := h
  exact ⟨e, e1, .inr ⟨d, _, e2, e3⟩⟩
theorem AnErr.same {H H' : Hp} {C : Addr} {x : V} (k : Same H H') (h : AnErr H C x) : AnErr H' C x := by
  obtain ⟨e, e1, e2 | ⟨d, fs, e2, e3⟩⟩ := h
  · exact ⟨e, e1, .inl (k _ _ e2)⟩
  · exact ⟨e, e1, .inr ⟨d, fs, k _ _ e2, k _ _ e3⟩⟩
section
variable {X : Cx} {pins : List (Addr × Obj)} {σ : St} {H : Hp} {s : Shared} {C : Addr}
theorem AnErr.inst {e : Addr} (I : Inv X pins σ H s) (h : AnErr H C (.ref e)) : ∃ ox od, PySem.W.InstAt s.heap e ox C od := by
  obtain ⟨e', e1, h⟩ := h
  cases e1
  rcases h with h | ⟨d, fs, h, hd⟩
  · obtain ⟨t1, ho⟩ := exo_at I.hok h
    exact ⟨_, none, ho, rfl, rfl, trivial⟩
  · obtain ⟨t1, ho⟩ := exo_at I.hok h
    obtain ⟨mA, hn, _⟩ := exd_at I.hok hd
    obtain ⟨o, es, ep, hod, _⟩ := hn
    exact ⟨_, some o, ho, rfl, rfl, hod⟩
def rIsX (K : PySem.W.Frag) : List V → Hp → VK → Prop := fun xs H Q => ∃ (x : V) (C : Addr) (c : V) (cv : Value) (b : Bool), xs = [x, c] ∧ AnErr H C x ∧ ExcC K C ∧ ClsV c cv ∧ PySem.W.kitOne K (.ref C) cv = some b ∧ Q (.bl b) H
theorem call_isX : CallR X (.builtin "isinstance") (rIsX X.K) := by
  intro pins s σ H xs us Q I r h
  obtain ⟨x, C, c, cv, b, rfl, hx, T, kc, e, q⟩ := h
  obtain ⟨u1, u2, rfl, r1, r2⟩ := vals2 r
  have e2 := kc.eq r2
  subst e2
  obtain ⟨a, rfl, hh⟩ := id hx
  obtain rfl : u1 = Value.ref a := r1
  exact PySem.W.kia_one (PySem.W.err_kit T) I.kIn (hx.inst I) e (fun z => nomatch z) fun tk => ⟨.bl b, H, I.tok tk, rfl, q⟩
/-- e.value -/
def tErrVal (K : PySem.W.Frag) (te : TE) : TE := fun σ H Q => te σ H fun x H1 => ∃ C fI v, ErrAt H1 C v x ∧ ErrC K C fI ∧ Q v H1
theorem pe_errVal {e : Expr} {te : TE} {pos : Pos} (he : PE X e te) (hb : attributeBase e "value" X.env (eval e X.env) = eval e X.env := by rfl) : PE X (.Attribute e "value" pos) (tErrVal X.K te) := by
  refine ⟨fun pins s σ H Q I h => ?_⟩
  refine attr_of hb (thn (he.run pins s σ H _ I h) fun u s1 hh => ?_)
  obtain ⟨x, H1, I1, rx, C, fI, v, ⟨a, d, rfl, ha, hd⟩, T, q⟩ := hh
  obtain rfl : u = Value.ref a := rx
  obtain ⟨t1, ho⟩ := exo_at I1.hok ha
  obtain ⟨mA, hns, hr⟩ := exd_at I1.hok hd
  obtain ⟨od, hod, hl⟩ := lookIn_ns hns
  obtain ⟨w, hw, rw'⟩ := RelO.some_of (v := v) (o := mA "value") (hr "value")
  have J : PySem.W.InstAt s1.heap a _ C (some od) := ⟨ho, rfl, rfl, hod⟩
  exact HandSPX.exc_get I1.kIn J T.xf.ga T.xf.gg T.xf.exC (PySem.W.findObj_own T.xf.hdC T.nv rfl (by rw [hl, hw])) (handed_of rw') ⟨v, H1, I1.tok _, rw', q⟩
end
end L2
set_option Elab.async false
set_option linter.all false
set_option maxRecDepth 100000
set_option maxHeartbeats 4000000
/-! sorted(xs, key=lambda y: y[1]). -/
namespace KLam
open PySem PySem.Spec PyProof.Rows L2 LamX
/-- lambda y: y[n] called with a tuple -/
theorem lam_key {P : Program} {w : World} {A : Around} {s : Shared} {f c' t : Addr} {q y : Str} {params : Arguments} {scope : Scope} {pm ctv : Value} {p1 p2 p3 : Pos} {kk : Nat} {n : Int} {j : Nat} {z : Int} {tk : Tok} {its : Array Value}
    (hA : A.depth < recursionLimit) (lim : s.heap.NoLimit)
    (ho : s.heap.get? f = some (PySem.W.kla_obj "<lambda>" q params (.Subscript (.Name y p1) (.Constant (.int n) kk p2) p3) scope [] pm c' ctv)) (hc : s.heap.CodeRec (.ref c') q)
    (hco : scope.isCoroutine = false) (hgen : scope.isGenerator = false) (hk : scope.kind = .function) (hnc : ∀ x ∈ scope.names, x.2 ≠ .cell) (hy : scope.names.lookup y = some .local) (hd : (y == ("__debug__" : Str)) = false)
    (hb : ∀ u, bindArgs (PySem.W.kla_fn "<lambda>" q params (.Subscript (.Name y p1) (.Constant (.int n) kk p2) p3) scope [] pm (.ref c') ctv) ⟨[u], []⟩ = pure [(y, u)])
    (ht : IsTup s.heap t its) (hj : seqIndex? n its.size = some j) (hlo : -(2 ^ 63) ≤ n) (hhi : n < 2 ^ 63) (hx : its[j]? = some (.int z tk)) :
    wpAny (model P w) A (call (.ref f) [.ref t]) (PySem.W.KeyPure (.int z) s) (fun _ _ => False) s := by
  have rc : codeAny (model P w) A (.call (.ref f) ⟨[.ref t], []⟩) (fun r s' => match r with | .ok (.ret v) => PySem.W.KeyPure (.int z) s v s' | _ => False) s := by
    refine PySem.W.kla_callFunE hA ho rfl hco hgen rfl hc ?_
    rw [hb]
    refine wpAny_pure (wpAny_newFunctionEnv hnc (fun x hx => by simp at hx; rw [hx]; exact hy) (fun h₁ hns hsb => ⟨?_, ?_⟩) hk)
    · exact lim.fresh _ hsb
    · refine PySem.W.kla_codeExpr ?_
      have kp : ∀ b o, s.heap.get? b = some o → h₁.get? b = some o := fun b o e => hsb.extBut b o (Nat.ne_of_lt (Heap.lt_size e)) (Heap.get?_push_of_some _ e)
      have ht1 := ht.keeps kp
      refine Subscript_ (wpAny_Name (wpAny_loadName_local (v := .ref t) hk hy hns (by simp [List.lookup]) (wpAny_Constant_int ?_)) hd)
      refine subscriptTail_builtinR (x := .int z tk) ?_ slot_tuple_getitem.lookup (getItem_tuple (j := j) ht1 hlo hhi hj hx ⟨rfl, ?_⟩) rfl
      · exact IsTup.typeIs (s := { s with heap := h₁, toks := _ }) ht1
      · exact ⟨h₁, _, rfl, kp, .int z tk⟩
  refine wpAny_call (codeAny_mono rc fun r s' hq => ?_)
  cases r with
  | error e => exact hq
  | ok fl =>
    cases fl with
    | ret u => exact hq
    | next => exact hq.elim
    | brk => exact hq.elim
    | cont => exact hq.elim
end KLam
set_option Elab.async false
set_option linter.all false
set_option maxRecDepth 100000
set_option maxHeartbeats 4000000
/-! sorted(xs, key=lambda y: y[n]), as a rule. -/
namespace KLam
open PySem PySem.Spec PyProof.Rows L2 LamX
theorem each_vals : ∀ {xs : List V} {us : List Value}, Vals xs us → PySem.W.EachIs (fun (v : Value) (x : V) => RelV x v) us xs
  | _, _, .nil => .nil
  | _, _, .cons r t => .cons r (each_vals t)
theorem vals_each : ∀ {xs : List V} {us : List Value}, PySem.W.EachIs (fun (v : Value) (x : V) => RelV x v) us xs → Vals xs us
  | _, _, .nil => .nil
  | _, _, .cons r t => .cons r (vals_each t)
/-- the wish: T: the tables of code objects -/
def tSortLam (T : List (Addr × Str)) (K : PySem.W.Frag) (n : Int) (te : TE) : TE := fun σ H Q => te σ H fun x H1 => Tabs T H1 ∧ ∃ (a : Addr) (xs : List V) (g : V → Int), x = .ref a ∧ SqL K H1 a xs ∧
  (∀ u ∈ xs, ∃ (t : Addr) (zs : List V), u = .ref t ∧ SqT K H1 t zs ∧ atI zs n = some (.int (g u))) ∧
  ∀ H2 p, ExtN H1 H2 → Tabs T H2 → H2 p = none → Q (.ref p) (upd H2 p (.lst (xs.mergeSort fun u v => decide (g u ≤ g v))))
theorem sqT_ext {K : PySem.W.Frag} {H H' : Hp} {t : Addr} {zs : List V} (h : SqT K H t zs) (e : ExtN H H') : SqT K H' t zs := by
  rcases h with (h | ⟨o, h⟩) | h
  · exact .inl (.inl (e _ _ h fun ps z => by cases z))
  · exact .inl (.inr ⟨o, e _ _ h fun ps z => by cases z⟩)
  · exact .inr h
theorem sqL_ext {K : PySem.W.Frag} {H H' : Hp} {t : Addr} {zs : List V} (h : SqL K H t zs) (e : ExtN H H') : SqL K H' t zs := by
  rcases h with (h | ⟨o, h⟩) | h
  · exact .inl (.inl (e _ _ h fun ps z => by cases z))
  · exact .inl (.inr ⟨o, e _ _ h fun ps z => by cases z⟩)
  · exact .inr h
section
variable {X : Cx}
theorem pe_sortedLam {T : List (Addr × Str)} {c P : Addr} {params : Arguments} {scope : Scope} {y : Str} {n : Int} {kk j : Nat} {e : Expr} {te : TE} {p p1 p2 p3 lpos kpos pos : Pos} (he : PE X e te)
    (hg : Gl X "sorted") (hm : X.mg "sorted" = none)
    (TB : TabB X.base X.mg c P) (hcode : X.env.code = .ref c) (hmT : (P, X.env.qual ++ "<lambda>") ∈ T) (hu : ∀ q ∈ T, q.1 = P → q.2 = X.env.qual ++ "<lambda>") (hr : Room 3 X.A)
    (hdef : defaultsOf params X.env = ([], [])) (hcl : cloFrom X.env.cells scope.names [] = []) (hfr : ∀ z ∈ scope.names, z.2 ≠ .free)
    (hco : scope.isCoroutine = false) (hgen : scope.isGenerator = false) (hk : scope.kind = .function) (hnc : ∀ x ∈ scope.names, x.2 ≠ .cell) (hy : scope.names.lookup y = some .local) (hd : (y == ("__debug__" : Str)) = false)
    (hb : ∀ (q : Str) (pm cv ctv u : Value), bindArgs (PySem.W.kla_fn "<lambda>" q params (.Subscript (.Name y p1) (.Constant (.int n) kk p2) p3) scope [] pm cv ctv) ⟨[u], []⟩ = pure [(y, u)])
    (hstar : starEach [e] X.env = (false, eval e X.env) :: starEach [] X.env := by rfl) (ha : backTo pos (starEach [e] X.env) = (false, eval e X.env) :: backTo pos (starEach [] X.env) := by rfl) (hpl : (backTo pos (starEach [e] X.env)).any (·.1) = false := by rfl) :
    PE X (.Call (.Name "sorted" p) [e] [⟨some "key", .Lambda params (.Subscript (.Name y p1) (.Constant (.int n) kk p2) p3) scope lpos, kpos⟩] pos) (tSortLam T X.K n te) := by
  refine ⟨fun pins s σ H Q I h => ?_⟩
  refine wpAny_Call_Name_kw (ld_blt I hg hm (by rfl : bootBuiltins "sorted" = some (.builtin "sorted")) ?_ (by decide) (by decide))
  have h' : tCons te tNil σ H (fun vs H1 => match vs with
    | [x] => Tabs T H1 ∧ ∃ (a : Addr) (xs : List V) (g : V → Int), x = .ref a ∧ SqL X.K H1 a xs ∧
      (∀ u ∈ xs, ∃ (t : Addr) (zs : List V), u = .ref t ∧ SqT X.K H1 t zs ∧ atI zs n = some (.int (g u))) ∧
      ∀ H2 p, ExtN H1 H2 → Tabs T H2 → H2 p = none → Q (.ref p) (upd H2 p (.lst (xs.mergeSort fun u v => decide (g u ≤ g v))))
    | _ => False) := h
  refine PyProof.Rows.callWith_kw (thn ((pa_cons he pa_nil hstar).run pos pins s σ H _ I h') fun us s1 ⟨vs, H1, I1, r1, q1⟩ => ?_) ha hpl (by rfl) (by rfl)
  match vs, r1, q1 with
  | [], r1, q1 => exact q1.elim
  | _ :: _ :: _, r1, q1 => exact q1.elim
  | [x], r1, q1 =>
    obtain ⟨hT, a, xs, g, ex, hxs, hk1, q⟩ := q1
    subst ex
    obtain ⟨u, rfl, rx⟩ := vals1 r1
    obtain rfl : u = Value.ref a := rx
    show wpAny _ _ (evalAll ((do let v ← eval (.Lambda params (.Subscript (.Name y p1) (.Constant (.int n) kk p2) p3) scope lpos) X.env; standAt pos; pure v) :: [])) _ _ s1
    refine wpAny_evalAll_cons (wpAny_bind (lam_make2 I1 TB hcode hmT hu hT hdef (fun z hz e => absurd e (hfr z hz)) fun f c' pm' ctv H2 s2 I2 eN T2 hf hfn hfr2 hco2 => wpAny_bind (wpAny_standAt (wpAny_pure ?_))))
    refine wpAny_evalAll_nil ?_
    rw [hcl] at hf
    show wpAny _ _ (call (.builtin "sorted") [.ref a] [("key", .ref f)]) _ _ s2
    have hx2 := sqL_ext hxs eN
    obtain ⟨its, rv, hl, hz⟩ := I2.list hx2
    have lim2 : s2.heap.NoLimit := I2.nolimit
    refine PySem.W.sorted_key_data (b := false) (β := V) (bs := xs) (vs := its) (R := fun (v : Value) (x : V) => RelV x v) (fun u => .int (g u)) hl.isList (each_vals rv) (fun d hd d' hd' => ?_) (.inr fun d hd => ?_) hz (fun x hx => ?_) (ksk_s1 _ _) (fun x => ksk_l1 _ _) (fun x => ksk_t1 _ _) (fun v x rx hx h tk kp => ?_) (fun out c2 h3 tk kp fr get len each => ?_)
    · obtain ⟨x, _, rfl⟩ := List.mem_map.mp hd
      obtain ⟨x', _, rfl⟩ := List.mem_map.mp hd'
      rfl
    · obtain ⟨x, _, rfl⟩ := List.mem_map.mp hd
      exact ⟨(fun z => nomatch z), fun xs z => nomatch z⟩
    · have := hr.un
      show X.A.units + 2 + _ < cLine
      simp only [PyData.depth]
      omega
    · obtain ⟨t, zs, rfl, hsq, hat⟩ := hk1 x hx
      obtain rfl : v = Value.ref t := rx
      obtain ⟨its', rv', pl, hz'⟩ := I2.tuple (sqT_ext hsq eN)
      obtain ⟨j, j1, j2, j3, j4, j5⟩ := atI_get hat
      obtain ⟨w', ew, rw'⟩ := rv'.get j2
      obtain ⟨tk', rfl⟩ : ∃ tk', w' = .int (g (.ref t)) tk' := rw'
      have hl' := rv'.length
      have hn := line63
      refine lam_key (s := { s2 with heap := h, toks := tk }) (j := j) (its := its'.toArray) (hr.in1.in1.depth) (lim2.keeps kp) (kp _ _ hf) ?_ hco hgen hk hnc hy hd (fun u => hb _ _ _ _ u) (IsTup.keeps pl kp) (by rw [List.size_toArray, ← hl']; exact j1) (by omega) (by omega) (by simpa using ew)
      obtain ⟨⟨oc, vs, t', hoc, hdc, hvc⟩, _⟩ := I2.hok c' _ hco2
      exact ⟨c', oc, vs, t', rfl, kp _ _ hoc, hdc, hvc⟩
    · rw [PySem.W.dataLe_int] at each
      refine ⟨.ref _, upd H2 (s2.heap.objs.size + 1) (.lst (xs.mergeSort fun u v => decide (g u ≤ g v))), I2.laid (t' := tk) kp (Nat.le_succ _) ⟨by rw [List.length_mergeSort]; exact hz, _, c2, vals_each each, get⟩, rfl, q _ _ eN T2 (I2.hok.fresh (Nat.le_succ _))⟩
end
end KLam
set_option Elab.async false
set_option linter.all false
set_option maxRecDepth 100000
set_option maxHeartbeats 8000000
/-! Runs and waits, first part. -/
namespace K17
open PySem PySem.Spec PyProof.Rows L2 KB
theorem itePos {c : Bool} {A B : Prop} (h : c = true) (a : A) : if c = true then A else B := (if_pos h).symm ▸ a
theorem iteNeg {c : Bool} {A B : Prop} (h : ¬ c = true) (b : B) : if c = true then A else B := (if_neg h).symm ▸ b
theorem iteP {p : Prop} [Decidable p] {A B : Prop} (h : p) (a : A) : if decide p = true then A else B := itePos (decide_eq_true h) a
theorem iteQ {p : Prop} [Decidable p] {A B : Prop} (h : ¬ p) (b : B) : if decide p = true then A else B := iteNeg (fun z => h (of_decide_eq_true z)) b
theorem norm {a b : TS} {D : Ends} {σ σ' : L2.St} {G : Hp} (e : σ = σ') (h : tSeq a b D σ' G) : tSeq a b D σ G := e ▸ h
theorem but_off {pu : Addr} {H H' : Hp} (b : But pu H H') : Same (off H pu) (off H' pu) := fun c o e => by
  unfold off at *
  by_cases h : c = pu
  · rw [if_pos h] at e
    cases e
  · rw [if_neg h] at e ⊢
    exact b _ _ h e
/-- a list of tuples -/
structure LsT (K : PySem.W.Frag) {α : Type} (vv : α → List V) (H : Hp) (a : Addr) (xs : List α) : Prop where
  ex : ∃ ts : List Addr, H a = some (.lst (ts.map V.ref)) ∧ ts.length = xs.length ∧ ∀ (i : Nat) (t : Addr) (x : α), ts[i]? = some t → xs[i]? = some x → SqT K H t (vv x)
def wv (w : Nat × Nat) : List V := [.int (w.1 : Int), .int (w.2 : Int)]
def pd (w : Nat × Nat) : PyData := .tuple [.int (w.1 : Int), .int (w.2 : Int)]
abbrev RunAt (K : PySem.W.Frag) := LsT K Ev.v
abbrev WtAt (K : PySem.W.Frag) := LsT K wv
section
variable {K : PySem.W.Frag} {α : Type} {vv : α → List V} {H H' : Hp} {a : Addr} {xs : List α}
theorem LsT.ext (k : LamX.ExtN H H') (h : LsT K vv H a xs) : LsT K vv H' a xs := by
  obtain ⟨ts, h1, h2, h3⟩ := h
  exact ⟨ts, k _ _ h1 (fun ps z => by cases z), h2, fun i t e e1 e2 => KLam.sqT_ext (h3 i t e e1 e2) k⟩
theorem LsT.same (k : Same H H') (h : LsT K vv H a xs) : LsT K vv H' a xs := h.ext (LamX.ExtN.of k)
theorem LsT.offp {pu : Addr} {N : Nat} (h : LsT K vv H a xs) (n : a ≠ pu) (hP : Purse H pu N) : LsT K vv (off H pu) a xs := by
  obtain ⟨A, B, c, i, eP, _⟩ := hP
  obtain ⟨ts, h1, h2, h3⟩ := h
  refine ⟨ts, by rw [off_at n]; exact h1, h2, fun i t e e1 e2 => ?_⟩
  rcases h3 i t e e1 e2 with (h | ⟨o, h⟩) | h
  · exact .inl (.inl (by rw [off_at (fun z => by rw [z, eP] at h; cases h)]; exact h))
  · exact .inl (.inr ⟨o, by rw [off_at (fun z => by rw [z, eP] at h; cases h)]; exact h⟩)
  · exact .inr h
theorem LsT.nil (h : H a = some (.lst [])) : LsT K vv H a ([] : List α) := ⟨[], h, rfl, fun i t x e => by simp at e⟩
theorem LsT.of_paired {ys : List V} (h : H a = some (.lst ys)) (p : Paired (fun x y => ∃ t, y = .ref t ∧ SqT K H t (vv x)) xs ys) : LsT K vv H a xs := by
  have : ∃ ts : List Addr, ys = ts.map V.ref ∧ ts.length = xs.length ∧ ∀ (i : Nat) (t : Addr) (x : α), ts[i]? = some t → xs[i]? = some x → SqT K H t (vv x) := by
    clear h
    induction p with
    | nil => exact ⟨[], rfl, rfl, fun i t x e => by simp at e⟩
    | cons r t ih =>
      obtain ⟨u, rfl, hu⟩ := r
      obtain ⟨ts, rfl, l, k⟩ := ih
      refine ⟨u :: ts, rfl, by rw [List.length_cons, List.length_cons, l], fun i t x e1 e2 => ?_⟩
      cases i with
      | zero => cases e1; cases e2; exact hu
      | succ i => exact k i t x e1 e2
  obtain ⟨ts, rfl, l, k⟩ := this
  exact ⟨ts, h, l, k⟩
/-- the list, its items -/
theorem LsT.got (h : LsT K vv H a xs) : ∃ ts : List Addr, H a = some (.lst (ts.map V.ref)) ∧ ts.length = xs.length ∧ ∀ (i : Nat) (hi : i < xs.length), ∃ t, (ts.map V.ref)[i]? = some (.ref t) ∧ SqT K H t (vv (xs[i]'hi)) := by
  obtain ⟨ts, h1, h2, h3⟩ := h
  refine ⟨ts, h1, h2, fun i hi => ⟨ts[i], ?_, h3 i _ _ (List.getElem?_eq_getElem _) (List.getElem?_eq_getElem _)⟩⟩
  rw [List.getElem?_map, List.getElem?_eq_getElem (by omega)]
  rfl
theorem LsT.td {vd : α → PyData} (n : Nat) (hv : ∀ {G : Hp} {t : Addr} {x : α}, SqT K G t (vv x) → TD K G (n + 1) (.ref t) (vd x)) (h : LsT K vv H a xs) (l : xs.length ≤ 1000) : TD K H (n + 2) (.ref a) (.list (xs.map vd)) := by
  obtain ⟨ts, h1, h2, h3⟩ := h
  refine TD.lst h1 (by rw [List.length_map, List.length_map, h2]) (by rw [List.length_map]; exact l) fun i u e e1 e2 => ?_
  rw [List.getElem?_map] at e1 e2
  obtain ⟨t, q1, rfl⟩ := Option.map_eq_some_iff.mp e1
  obtain ⟨v, q2, rfl⟩ := Option.map_eq_some_iff.mp e2
  exact hv (h3 i t v q1 q2)
end
theorem Ev.td {K : PySem.W.Frag} {H : Hp} {t : Addr} {e : Ev} (n : Nat) (h : SqT K H t e.v) : TD K H (n + 1) (.ref t) e.d := by
  cases e with
  | bar => exact TD.tup h rfl (by decide) (td_cons (TD.flat (.str _)) td_nil)
  | tell => exact TD.tup h rfl (by decide) (td_cons (TD.flat (.str _)) td_nil)
  | wr m => exact TD.tup h rfl (Nat.le_of_ble_eq_true rfl) (td_cons (TD.flat (.str _)) (td_cons (TD.flat (.int _)) td_nil))
theorem pd_td {K : PySem.W.Frag} {H : Hp} {t : Addr} {w : Nat × Nat} (n : Nat) (h : SqT K H t (wv w)) : TD K H (n + 1) (.ref t) (pd w) := TD.tup h rfl (Nat.le_of_ble_eq_true rfl) (td_cons (TD.flat (.int _)) (td_cons (TD.flat (.int _)) td_nil))
theorem Ev.dp {K : PySem.W.Frag} {H : Hp} {t : Addr} {e : Ev} (h : SqT K H t e.v) : Dp K H (.ref t) e.d := by
  cases e with
  | bar => exact .tup h (.cons (.str _) .nil)
  | tell => exact .tup h (.cons (.str _) .nil)
  | wr m => exact .tup h (.cons (.str _) (.cons (.int _) .nil))
theorem shaped_ev (e : Ev) : SeqAt.shaped e.d = true := by
  cases e <;> simp [Ev.d, SeqAt.shaped, PyData.depth, PyData.depthAll, PyData.canLay0, PyData.canLayAll0] <;> decide +kernel
theorem eqv_ev (e f : Ev) : PyData.eqv e.d f.d = decide (e = f) := by
  have ie : ∀ c d : Nat, ((c : Int) == (d : Int)) = decide (Ev.wr c = Ev.wr d) := fun c d => by
    rw [Bool.eq_iff_iff, beq_iff_eq, decide_eq_true_eq]
    constructor
    · intro h
      rw [show c = d by omega]
    · intro h
      injection h with h
      rw [h]
  cases e <;> cases f <;> first | rfl | (rename_i c d; rw [← ie]; simp [Ev.d, PyData.eqv, PyData.eqvAll])
theorem td_cs {K : PySem.W.Frag} {H : Hp} {x : V} {d : PyData} : ∀ {n : Nat}, TD K H n x d → (x = .non ∧ d = .none) ∨ (∃ b, x = .bl b ∧ d = .bool b) ∨ (∃ i, x = .int i ∧ d = .int i) ∨ (∃ z, x = .str z ∧ d = .str z) ∨
    (∃ a xs ds, x = .ref a ∧ H a = some (.lst xs) ∧ d = .list ds ∧ xs.length = ds.length ∧ ds.length ≤ 1000 ∧ ∀ (i : Nat) (u : V) (e : PyData), xs[i]? = some u → ds[i]? = some e → TD K H (n - 1) u e) ∨ (∃ a xs ds, x = .ref a ∧ SqT K H a xs ∧ d = .tuple ds ∧ xs.length = ds.length ∧ ds.length ≤ 1000) ∨
    ∃ a ps m, x = .ref a ∧ H a = some (.dK (mV ps m)) ∧ d = .dict (ps.map fun p : Nat => (.int (p : Int), .int (m p : Int))) := by
  have fl : ∀ {x : V} {d : PyData}, FlatD x d → (x = .non ∧ d = .none) ∨ (∃ b, x = .bl b ∧ d = .bool b) ∨ (∃ i, x = .int i ∧ d = .int i) ∨ (∃ z, x = .str z ∧ d = .str z) := fun h => by
    cases h
    · exact .inl ⟨rfl, rfl⟩
    · exact .inr (.inl ⟨_, rfl, rfl⟩)
    · exact .inr (.inr (.inl ⟨_, rfl, rfl⟩))
    · exact .inr (.inr (.inr ⟨_, rfl, rfl⟩))
  intro n h
  cases n with
  | zero =>
    rcases fl h with h | h | h | h
    · exact .inl h
    · exact .inr (.inl h)
    · exact .inr (.inr (.inl h))
    · exact .inr (.inr (.inr (.inl h)))
  | succ n =>
    rcases h with h | ⟨a, xs, ds, rfl, l, l1, t, c⟩ | ⟨a, ps, m, rfl, _, ha, rfl⟩
    · rcases fl h with h | h | h | h
      · exact .inl h
      · exact .inr (.inl h)
      · exact .inr (.inr (.inl h))
      · exact .inr (.inr (.inr (.inl h)))
    · rcases t with ⟨ha, rfl⟩ | ⟨ha, rfl⟩
      · exact .inr (.inr (.inr (.inr (.inl ⟨a, xs, ds, rfl, ha, rfl, l, l1, c⟩))))
      · exact .inr (.inr (.inr (.inr (.inr (.inl ⟨a, xs, ds, rfl, ha, rfl, l, l1⟩)))))
    · exact .inr (.inr (.inr (.inr (.inr (.inr ⟨a, ps, m, rfl, ha, rfl⟩)))))
theorem cut_tl (xs : List V) : cutV xs (some 1) none = xs.drop 1 := by
  unfold cutV
  by_cases h : 1 ≤ xs.length
  · have e1 : HT.sIx xs.length 0 (some 1) = 1 := by
      unfold HT.sIx
      simp
      omega
    have e2 : HT.sIx xs.length xs.length none = xs.length := rfl
    rw [e1, e2, List.take_of_length_le (by rw [List.length_drop]; exact Nat.le_refl _)]
  · have e0 : xs = [] := List.length_eq_zero_iff.mp (by omega)
    rw [e0]
    rfl
theorem lexLt_of {u v : Nat × Nat} (h : lexP u v) : HT.lexLt [(u.1 : Int), (u.2 : Int)] [(v.1 : Int), (v.2 : Int)] = true := by
  rw [HT.lexLt_cons]
  rcases h with h | ⟨h1, h2⟩
  · rw [if_neg (by omega)]
    exact decide_eq_true (by omega)
  · rw [if_pos (by omega), HT.lexLt_cons, if_neg (by omega)]
    exact decide_eq_true (by omega)
def cntB : PyData → Bool
  | .int i => decide (i ≥ 0)
  | _ => false
def whB : PyData → Bool
  | .int _ => true
  | _ => false
theorem td_tyI {K : PySem.W.Frag} {H : Hp} {n : Nat} {x : V} {d : PyData} (h : TD K H n x d) : ∃ t i b, TyX K H x (.type t) ∧ kitB t "int" = some i ∧ kitB t "bool" = some b ∧ whB d = (i && !b) := by
  rcases (td_cs h) with ⟨rfl, rfl⟩ | ⟨b, rfl, rfl⟩ | ⟨i, rfl, rfl⟩ | ⟨z, rfl, rfl⟩ | ⟨a, xs, ds, rfl, ha, rfl, _⟩ | ⟨a, xs, ds, rfl, ha, rfl, _⟩ | ⟨a, ps, m, rfl, ha, rfl⟩
  · exact ⟨"NoneType", false, false, .base .non, by decide +kernel, by decide +kernel, rfl⟩
  · exact ⟨"bool", true, true, .base (.bl b), by decide +kernel, by decide +kernel, rfl⟩
  · exact ⟨"int", true, false, .base (.int i), by decide +kernel, by decide +kernel, rfl⟩
  · exact ⟨"str", false, false, .base (.str z), by decide +kernel, by decide +kernel, rfl⟩
  · exact ⟨"list", false, false, .base (.lst ha), by decide +kernel, by decide +kernel, rfl⟩
  · exact ⟨"tuple", false, false, sqT_ty ha, by decide +kernel, by decide +kernel, rfl⟩
  · exact ⟨"dict", false, false, .base (.dK ha), by decide +kernel, by decide +kernel, rfl⟩
theorem cut_tail (ns : List Nat) : cutV (numsV ns) (some 1) none = (numsV ns).drop 1 := by
  unfold cutV
  by_cases h : 1 ≤ (numsV ns).length
  · have e1 : HT.sIx (numsV ns).length 0 (some 1) = 1 := by
      unfold HT.sIx
      simp
      omega
    have e2 : HT.sIx (numsV ns).length (numsV ns).length none = (numsV ns).length := rfl
    rw [e1, e2, List.take_of_length_le (by rw [List.length_drop]; exact Nat.le_refl _)]
  · have e0 : numsV ns = [] := List.length_eq_zero_iff.mp (by omega)
    rw [e0]
    rfl
theorem all_bl' {K : PySem.W.Frag} {n : Nat} {c : Nat → Bool} {H : Hp} {D : Addr} (hR : H D = some (.lst ((List.range n).filterMap fun i => some (V.bl (c i))))) : SqL K H D (((List.range n).map c).map V.bl) := by
  have e : ((List.range n).filterMap fun i => some (V.bl (c i))) = ((List.range n).map c).map V.bl := by
    rw [List.map_map, List.filterMap_eq_map']
    rfl
  rw [e] at hR
  exact SqL.of hR
def spWhole (K : PySem.W.Frag) : Sp := fun vs H Q _ => ∃ (x : V) (d : PyData) (n : Nat), vs = [x] ∧ TD K H n x d ∧ Q (.bl (whB d)) H
def spCount (K : PySem.W.Frag) : Sp := fun vs H Q _ => ∃ (x : V) (d : PyData) (n : Nat), vs = [x] ∧ TD K H n x d ∧ Q (.bl (cntB d)) H
def belB (n : Nat) : PyData → Bool
  | .int i => decide (0 ≤ i) && decide (i < (n : Int))
  | _ => false
def tupB (n : Int) : PyData → Bool
  | .tuple ds => decide ((ds.length : Int) = n)
  | _ => false
def spBelow (K : PySem.W.Frag) : Sp := fun vs H Q _ => ∃ (x : V) (d : PyData) (m n : Nat), vs = [x, .int (n : Int)] ∧ TD K H m x d ∧ Q (.bl (belB n d)) H
def spTupOf (K : PySem.W.Frag) : Sp := fun vs H Q _ => ∃ (x : V) (d : PyData) (m : Nat) (n : Int), vs = [x, .int n] ∧ TD K H m x d ∧ Q (.bl (tupB n d)) H
def rLtB (K : PySem.W.Frag) : R2 := fun x y H Q => (rI0 fun i j => .bl (decide (i < j))) x y H Q ∨ rLtT K x y H Q
def lexB (u v : Nat × Nat) : Bool := decide (u.1 < v.1 ∨ u.1 = v.1 ∧ u.2 < v.2)
theorem lexLt_eq (u v : Nat × Nat) : HT.lexLt [(u.1 : Int), (u.2 : Int)] [(v.1 : Int), (v.2 : Int)] = lexB u v := by
  unfold lexB
  rw [HT.lexLt_cons, HT.lexLt_cons]
  by_cases h1 : u.1 = v.1
  · rw [if_pos (by omega)]
    by_cases h2 : u.2 = v.2
    · rw [if_pos (by omega), decide_eq_false (by omega)]
      rfl
    · rw [if_neg (by omega), decide_eq_decide]
      omega
  · rw [if_neg (by omega), decide_eq_decide]
    omega
def ascB (ws : List (Nat × Nat)) : Bool := (List.range (ws.length - 1)).all fun i => lexB (ws.getD i (0, 0)) (ws.getD (1 + i) (0, 0))
def spAsc (K : PySem.W.Frag) : Sp := fun vs H Q _ => ∃ (a : Addr) (c : Bool), vs = [.ref a] ∧ ((c = true ∧ ∃ ns : List Nat, H a = some (.lst (numsV ns)) ∧ ns.length ≤ 1000 ∧ ns.Pairwise (· < ·)) ∨ ∃ ws : List (Nat × Nat), WtAt K H a ws ∧ ws.length ≤ 1000 ∧ c = ascB ws) ∧ ∀ H', Same H H' → Q (.bl c) H'
def spAscC (K : PySem.W.Frag) : Sp := fun vs H Q _ => ∃ (a : Addr) (ns : List Nat), vs = [.ref a] ∧ H a = some (.lst (numsV ns)) ∧ ns.length ≤ 1000 ∧ ns.Pairwise (· < ·) ∧ ∀ H', Same H H' → Q (.bl true) H'
def spAscB (K : PySem.W.Frag) : Sp := fun vs H Q _ => ∃ (a : Addr) (l : List Nat) (n : Nat), vs = [.ref a, .int (n : Int)] ∧ H a = some (.lst (numsV l)) ∧ l.length ≤ 1000 ∧ l.Pairwise (· < ·) ∧ (∀ x ∈ l, x < n) ∧ ∀ H', Same H H' → Q (.bl true) H'
section
variable {P : Program} {w : World} {K : PySem.W.Frag} {mg : Str → Option Value} {base : Heap}
abbrev s_is_whole_number : Stmt := top 5
abbrev N_is_whole_number : List Str := ["value"]
theorem sc_is_whole_number : FnScope N_is_whole_number ["value"] (defScope s_is_whole_number) := ⟨rfl, rfl, rfl, by decide +kernel, rfl, by decide +kernel, by decide +kernel⟩
theorem ok_is_whole_number {f : Addr} {fd : FuncData} (F : FnP K "is_whole_number" s_is_whole_number f fd) (Z : FreeS mg) :
    FnOk P w K mg base CX0 1 f fd ["value"] (spWhole K) := by
  refine F.ok sc_is_whole_number (fun vs H Q E h => ?_) (fun cdv A outer s H vs Q E hr h => ?_)
  · obtain ⟨x, d, n, rfl, _⟩ := h
    rfl
  · obtain ⟨x, d, n, rfl, hx, k⟩ := h
    have nd := sc_is_whole_number.nd
    refine ⟨_, PSs.nox (pss_one (ps_ret (pe_and (pe_callB call_isi (by rfl) Z.isi (by decide +kernel) (pa_cons (pv 0) (pa_cons (pe_bltn (v := .ty "int") (by rfl) Z.int (by decide +kernel) rfl) pa_nil))) (pe_one (pe_not (pe_callB call_isi (by rfl) Z.isi (by decide +kernel) (pa_cons (pv 0) (pa_cons (pe_bltn (v := .ty "bool") (by rfl) Z.tbool (by decide +kernel) rfl) pa_nil)))))))), ?_⟩
    obtain ⟨t, i, b, ty, k1, k2, e⟩ := td_tyI (K := K) hx
    rw [e] at k
    cases i with
    | false => exact ⟨_, rfl, x, .ty "int", .type t, .type "int", false, rfl, .ty _, ty, kit_ty k1, false, rfl, iteF k⟩
    | true =>
      refine ⟨_, rfl, x, .ty "int", .type t, .type "int", true, rfl, .ty _, ty, kit_ty k1, true, rfl, iteT ?_⟩
      exact ⟨_, rfl, x, .ty "bool", .type t, .type "bool", b, rfl, .ty _, ty, kit_ty k2, b, rfl, k⟩
abbrev s_is_count : Stmt := top 6
abbrev N_is_count : List Str := ["value"]
theorem sc_is_count : FnScope N_is_count ["value"] (defScope s_is_count) := ⟨rfl, rfl, rfl, by decide +kernel, rfl, by decide +kernel, by decide +kernel⟩
theorem ok_is_count {f : Addr} {fd : FuncData} (F : FnP K "is_count" s_is_count f fd) (Z : FreeS mg)
    {f_is_whole_number : Addr} {d_is_whole_number : FuncData} (g_is_whole_number : mg "is_whole_number" = some (.ref f_is_whole_number)) (F_is_whole_number : FnP K "is_whole_number" s_is_whole_number f_is_whole_number d_is_whole_number) (G_is_whole_number : FnOk P w K mg base CX0 1 f_is_whole_number d_is_whole_number ["value"] (spWhole K)) :
    FnOk P w K mg base CX0 2 f fd ["value"] (spCount K) := by
  have b_is_whole_number : Binds K d_is_whole_number ["value"] [] := F_is_whole_number.bindsN fun _ _ _ _ _ _ us hl => match us, hl with | [_], _ => rfl
  refine F.ok sc_is_count (fun vs H Q E h => ?_) (fun cdv A outer s H vs Q E hr h => ?_)
  · obtain ⟨x, d, n, rfl, _⟩ := h
    rfl
  · obtain ⟨x, d, n, rfl, hx, k⟩ := h
    have nd := sc_is_count.nd
    refine ⟨_, PSs.nox (pss_one (ps_ret (pe_and (pe_call G_is_whole_number (hr.mono (by decide)) rfl g_is_whole_number F_is_whole_number.kp b_is_whole_number .nil pass0 (pa_cons (pv 0) (pa_nil))) (pe_one (pe_cmpR op_ge (pv 0) (pe_int) (nomark _)))))), ?_⟩
    refine ⟨_, rfl, x, d, n, rfl, hx, _, rfl, ?_⟩
    rcases td_cs hx with ⟨rfl, rfl⟩ | ⟨b, rfl, rfl⟩ | ⟨i, rfl, rfl⟩ | ⟨z, rfl, rfl⟩ | ⟨a, xs, ds, rfl, ha, rfl, _⟩ | ⟨a, xs, ds, rfl, ha, rfl, _⟩ | ⟨a, ps, m, rfl, ha, rfl⟩
    · exact iteF k
    · exact iteF k
    · exact iteT ⟨_, rfl, _, _, rfl, rfl, k⟩
    · exact iteF k
    · exact iteF k
    · exact iteF k
    · exact iteF k
abbrev s_is_count_below : Stmt := top 7
abbrev N_is_count_below : List Str := ["value", "bound"]
theorem sc_is_count_below : FnScope N_is_count_below ["value", "bound"] (defScope s_is_count_below) := ⟨rfl, rfl, rfl, by decide +kernel, rfl, by decide +kernel, by decide +kernel⟩
theorem ok_is_count_below {f : Addr} {fd : FuncData} (F : FnP K "is_count_below" s_is_count_below f fd) (Z : FreeS mg)
    {f_is_count : Addr} {d_is_count : FuncData} (g_is_count : mg "is_count" = some (.ref f_is_count)) (F_is_count : FnP K "is_count" s_is_count f_is_count d_is_count) (G_is_count : FnOk P w K mg base CX0 2 f_is_count d_is_count ["value"] (spCount K)) :
    FnOk P w K mg base CX0 3 f fd ["value", "bound"] (spBelow K) := by
  have b_is_count : Binds K d_is_count ["value"] [] := F_is_count.bindsN fun _ _ _ _ _ _ us hl => match us, hl with | [_], _ => rfl
  refine F.ok sc_is_count_below (fun vs H Q E h => ?_) (fun cdv A outer s H vs Q E hr h => ?_)
  · obtain ⟨x, d, m, n, rfl, _⟩ := h
    rfl
  · obtain ⟨x, d, m, n, rfl, hx, k⟩ := h
    have nd := sc_is_count_below.nd
    refine ⟨_, PSs.nox (pss_one (ps_ret (pe_and (pe_call G_is_count (hr.mono (by decide)) rfl g_is_count F_is_count.kp b_is_count .nil pass0 (pa_cons (pv 0) (pa_nil))) (pe_one (pe_cmpR op_lt (pv 0) (pv 1) (nomark _)))))), ?_⟩
    refine ⟨_, rfl, x, d, m, rfl, hx, _, rfl, ?_⟩
    rcases td_cs hx with ⟨rfl, rfl⟩ | ⟨b, rfl, rfl⟩ | ⟨i, rfl, rfl⟩ | ⟨z, rfl, rfl⟩ | ⟨a, xs, ds, rfl, ha, rfl, _⟩ | ⟨a, xs, ds, rfl, ha, rfl, _⟩ | ⟨a, ps, m, rfl, ha, rfl⟩
    · exact iteF k
    · exact iteF k
    · by_cases c : i ≥ 0
      · refine itePos (decide_eq_true c) ⟨_, rfl, _, rfl, _, _, rfl, rfl, ?_⟩
        have e : belB n (.int i) = decide (i < (n : Int)) := by
          show (decide (0 ≤ i) && decide (i < (n : Int))) = _
          rw [decide_eq_true c, Bool.true_and]
        rw [e] at k
        exact k
      · have e : belB n (.int i) = false := by
          show (decide (0 ≤ i) && decide (i < (n : Int))) = _
          rw [decide_eq_false c, Bool.false_and]
        rw [e] at k
        exact iteNeg (by rw [show cntB (.int i) = false from decide_eq_false c]; exact Bool.false_ne_true) k
    · exact iteF k
    · exact iteF k
    · exact iteF k
    · exact iteF k
abbrev s_is_tuple_of : Stmt := top 8
abbrev N_is_tuple_of : List Str := ["value", "length"]
theorem sc_is_tuple_of : FnScope N_is_tuple_of ["value", "length"] (defScope s_is_tuple_of) := ⟨rfl, rfl, rfl, by decide +kernel, rfl, by decide +kernel, by decide +kernel⟩
theorem ok_is_tuple_of {f : Addr} {fd : FuncData} (F : FnP K "is_tuple_of" s_is_tuple_of f fd) (Z : FreeS mg) :
    FnOk P w K mg base CX0 1 f fd ["value", "length"] (spTupOf K) := by
  refine F.ok sc_is_tuple_of (fun vs H Q E h => ?_) (fun cdv A outer s H vs Q E hr h => ?_)
  · obtain ⟨x, d, m, n, rfl, _⟩ := h
    rfl
  · obtain ⟨x, d, m, n, rfl, hx, k⟩ := h
    have nd := sc_is_tuple_of.nd
    refine ⟨_, PSs.nox (pss_one (ps_ret (pe_and (pe_callB call_isi (by rfl) Z.isi (by decide +kernel) (pa_cons (pv 0) (pa_cons (pe_bltn (v := .ty "tuple") (by rfl) Z.ttuple (by decide +kernel) rfl) pa_nil))) (pe_one (pe_cmpR op_eq (pe_callB call_len_seq (by rfl) Z.len (by decide +kernel) (pa_cons (pv 0) (pa_nil))) (pv 1) (nomark _)))))), ?_⟩
    rcases td_cs hx with ⟨rfl, rfl⟩ | ⟨b, rfl, rfl⟩ | ⟨i, rfl, rfl⟩ | ⟨z, rfl, rfl⟩ | ⟨a, xs, ds, rfl, ha, rfl, _⟩ | ⟨a, xs, ds, rfl, ha, rfl, ll, _⟩ | ⟨a, ps, m, rfl, ha, rfl⟩
    · exact ⟨_, rfl, _, .ty "tuple", .type "NoneType", .type "tuple", false, rfl, .ty _, .base .non, kit_ty (by decide +kernel), false, rfl, iteF k⟩
    · exact ⟨_, rfl, _, .ty "tuple", .type "bool", .type "tuple", false, rfl, .ty _, .base (.bl b), kit_ty (by decide +kernel), false, rfl, iteF k⟩
    · exact ⟨_, rfl, _, .ty "tuple", .type "int", .type "tuple", false, rfl, .ty _, .base (.int i), kit_ty (by decide +kernel), false, rfl, iteF k⟩
    · exact ⟨_, rfl, _, .ty "tuple", .type "str", .type "tuple", false, rfl, .ty _, .base (.str z), kit_ty (by decide +kernel), false, rfl, iteF k⟩
    · exact ⟨_, rfl, _, .ty "tuple", .type "list", .type "tuple", false, rfl, .ty _, .base (.lst ha), kit_ty (by decide +kernel), false, rfl, iteF k⟩
    · refine ⟨_, rfl, .ref a, .ty "tuple", .type "tuple", .type "tuple", true, rfl, .ty _, sqT_ty ha, kit_ty (by decide +kernel), true, rfl, iteT ?_⟩
      refine ⟨_, rfl, a, xs, rfl, Or.inr ha, _, rfl, rfl, ?_⟩
      have e : decide (V.int (xs.length : Int) = V.int n) = decide ((ds.length : Int) = n) := by
        rw [ll]
        by_cases h : (ds.length : Int) = n
        · rw [decide_eq_true h, decide_eq_true (congrArg V.int h)]
        · rw [decide_eq_false h, decide_eq_false fun z => h (V.int.inj z)]
      rw [e]
      exact k
    · exact ⟨_, rfl, _, .ty "tuple", .type "dict", .type "tuple", false, rfl, .ty _, .base (.dK ha), kit_ty (by decide +kernel), false, rfl, iteF k⟩
abbrev s_ascends : Stmt := top 9
abbrev N_ascends : List Str := ["values", "one", "other"]
theorem sc_ascends : FnScope N_ascends ["values"] (defScope s_ascends) := ⟨rfl, rfl, rfl, by decide +kernel, rfl, by decide +kernel, by decide +kernel⟩
theorem ok_ascends {f : Addr} {fd : FuncData} (F : FnP K "ascends" s_ascends f fd) (Z : FreeS mg) :
    FnOk P w K mg base CX0 1 f fd ["values"] (spAsc K) := by
  refine F.ok sc_ascends (fun vs H Q E h => ?_) (fun cdv A outer s H vs Q E hr h => ?_)
  · obtain ⟨a, c, rfl, _⟩ := h
    rfl
  · obtain ⟨a, c, rfl, hh, k⟩ := h
    have hu0 := hr.units
    have nd := sc_ascends.nd
    refine ⟨_, PSs.nox (pss_one (ps_ret (pe_callB (cr_all rfl) (by rfl) Z.all (by decide +kernel) (pa_cons (pe_lc (own := [("one", 1), ("other", 2)]) (g := gTup K 2 (gCons (gName 1) (gCons (gName 2) (gNil)))) (tt := tYes) (te := tOp ((rLtB K)) (tVar 1) (tVar 2)) (by rfl) nd (pi_zip (by rfl) Z.zip (pa_cons (pv 0) (pa_cons (pe_slice sl_list (pv 0) (po_some (pe_int)) (po_none)) (pa_nil))))
          (blkOk_by (own := [("one", 1), ("other", 2)]) (N := N_ascends) (sc := defScope s_ascends) (by decide +kernel)) (fun _ _ _ _ _ => pg_tup rfl (pgs_cons (pg_name (i := 1) nd rfl (Or.inl rfl)) (pgs_cons (pg_name (i := 2) nd rfl (Or.inl rfl)) (pgs_nil)))) (fun _ _ _ _ _ => pts_nil)
          (fun _ _ _ _ _ => pe_cmpR (OpR.or op_lt (op_ltT (Nat.lt_of_le_of_lt (Nat.le_add_right _ 64) hr.units))) (pv 1) (pv 2) (nomark _))) (pa_nil))))), ?_⟩
    obtain ⟨xs, f, ha, lx, hc, hp⟩ : ∃ (xs : List V) (f : Nat → Bool), H a = some (.lst xs) ∧ xs.length ≤ 1000 ∧ c = (List.range (xs.length - 1)).all f ∧ ∀ (i : Nat) (x y : V), xs[i]? = some x → xs[1 + i]? = some y → ∀ (G : Hp) (Q : VK), Same H G → Q (.bl (f i)) G → rLtB K x y G Q := by
      rcases hh with ⟨ec, ns, ha, l, hp⟩ | ⟨ws, hW, l, ec⟩
      · refine ⟨_, fun _ => true, ha, by unfold numsV; rw [List.length_map]; exact l, ec.trans (List.all_eq_true.mpr fun _ _ => rfl).symm, fun i x y e1 e2 G Q s q => .inl ?_⟩
        unfold numsV at e1 e2
        rw [List.getElem?_map] at e1 e2
        obtain ⟨n1, q1, rfl⟩ := Option.map_eq_some_iff.mp e1
        obtain ⟨n2, q2, rfl⟩ := Option.map_eq_some_iff.mp e2
        obtain ⟨b1, z1⟩ := List.getElem?_eq_some_iff.mp q1
        obtain ⟨b2, z2⟩ := List.getElem?_eq_some_iff.mp q2
        have := List.pairwise_iff_getElem.mp hp i (1 + i) b1 b2 (by omega)
        rw [z1, z2] at this
        refine ⟨_, _, rfl, rfl, ?_⟩
        show Q (.bl (decide ((n1 : Int) < (n2 : Int)))) G
        rw [decide_eq_true (show (n1 : Int) < (n2 : Int) by omega)]
        exact q
      · obtain ⟨ts, h1, h2, h3⟩ := hW
        refine ⟨_, fun i => lexB (ws.getD i (0, 0)) (ws.getD (1 + i) (0, 0)), h1, by rw [List.length_map, h2]; exact l, by rw [ec, List.length_map, h2]; rfl, fun i x y e1 e2 G Q s q => .inr ?_⟩
        rw [List.getElem?_map] at e1 e2
        obtain ⟨t1, q1, rfl⟩ := Option.map_eq_some_iff.mp e1
        obtain ⟨t2, q2, rfl⟩ := Option.map_eq_some_iff.mp e2
        obtain ⟨b1, z1⟩ := List.getElem?_eq_some_iff.mp q1
        obtain ⟨b2, z2⟩ := List.getElem?_eq_some_iff.mp q2
        have w1 : ws[i]? = some (ws.getD i (0, 0)) := by rw [List.getD_eq_getElem?_getD, List.getElem?_eq_getElem (by omega)]; rfl
        have w2 : ws[1 + i]? = some (ws.getD (1 + i) (0, 0)) := by rw [List.getD_eq_getElem?_getD, List.getElem?_eq_getElem (by omega)]; rfl
        have s1 := SqT_up s (h3 i t1 _ q1 w1)
        have s2 := SqT_up s (h3 (1 + i) t2 _ q2 w2)
        refine ⟨t1, t2, [((ws.getD i (0, 0)).1 : Int), ((ws.getD i (0, 0)).2 : Int)], [((ws.getD (1 + i) (0, 0)).1 : Int), ((ws.getD (1 + i) (0, 0)).2 : Int)], rfl, rfl, s1, s2, ?_⟩
        rw [lexLt_eq]
        exact q
    obtain ⟨cq, hq⟩ : ∃ c : List V, c = cutV xs (some 1) none := ⟨_, rfl⟩
    have ec : cq = xs.drop 1 := by
      rw [hq, cut_tl]
    refine ⟨_, rfl, _, rfl, _, rfl, a, _, rfl, SqL.of ha, fun q hqn => ?_⟩
    rw [← hq]
    have s1 : Same H (upd H q (.lst cq)) := Same.updf hqn
    refine ⟨a, q, _, _, rfl, SqL.of (s1 _ _ ha), SqL.of upd_same, fun D hD => ?_⟩
    refine lc_sel (n := xs.length - 1) (walk_zip (K := K) (a := a) (b := q) (xs := xs) (ys := cq) (by rw [ec, List.length_drop]; omega)) (fun i => some (.bl (f i))) (by omega) hD (fun H2 s2 => ⟨SqL.of (s2 _ _ (s1 _ _ ha)), SqL.of (s2 _ _ upd_same)⟩) ?_ ?_
    · rintro t v H5 H6 Qy Qn ht s6 ⟨T, x1, x2, rfl, nT, rfl, g1, g2⟩ ky kn
      dsimp only at g1 g2
      rw [ec, List.getElem?_drop] at g2
      refine ⟨T, [_, _], rfl, .inl (.inl upd_same), rfl, _, [_], rfl, _, [], rfl, rfl, ?_⟩
      refine ⟨rfl, _, rfl, _, rfl, hp _ _ _ g1 g2 _ _ ((s1.trans s6).trans (Same.updf nT)) (ky _ _ (Same.updf nT) rfl)⟩
    · intro H2 s2 hR
      have hB := all_bl' (K := K) hR
      refine ⟨D, _, rfl, hB, ?_⟩
      rw [List.all_map]
      have e : (List.range (xs.length - 1)).all (id ∘ f) = c := by rw [hc]; rfl
      rw [e]
      exact k _ (s1.trans s2)
abbrev s_are_ascending_counts : Stmt := top 10
abbrev N_are_ascending_counts : List Str := ["value", "part"]
theorem sc_are_ascending_counts : FnScope N_are_ascending_counts ["value"] (defScope s_are_ascending_counts) := ⟨rfl, rfl, rfl, by decide +kernel, rfl, by decide +kernel, by decide +kernel⟩
theorem ok_are_ascending_counts {f : Addr} {fd : FuncData} (F : FnP K "are_ascending_counts" s_are_ascending_counts f fd) (Z : FreeS mg)
    {f_ascends : Addr} {d_ascends : FuncData} (g_ascends : mg "ascends" = some (.ref f_ascends)) (F_ascends : FnP K "ascends" s_ascends f_ascends d_ascends) (G_ascends : FnOk P w K mg base CX0 1 f_ascends d_ascends ["values"] (spAsc K))
    {f_is_count : Addr} {d_is_count : FuncData} (g_is_count : mg "is_count" = some (.ref f_is_count)) (F_is_count : FnP K "is_count" s_is_count f_is_count d_is_count) (G_is_count : FnOk P w K mg base CX0 2 f_is_count d_is_count ["value"] (spCount K)) :
    FnOk P w K mg base CX0 3 f fd ["value"] (spAscC K) := by
  have b_ascends : Binds K d_ascends ["values"] [] := F_ascends.bindsN fun _ _ _ _ _ _ us hl => match us, hl with | [_], _ => rfl
  have b_is_count : Binds K d_is_count ["value"] [] := F_is_count.bindsN fun _ _ _ _ _ _ us hl => match us, hl with | [_], _ => rfl
  refine F.ok sc_are_ascending_counts (fun vs H Q E h => ?_) (fun cdv A outer s H vs Q E hr h => ?_)
  · obtain ⟨a, ns, rfl, _⟩ := h
    rfl
  · obtain ⟨a, ns, rfl, ha, hl, hp, k⟩ := h
    have nd := sc_are_ascending_counts.nd
    refine ⟨_, PSs.nox (pss_one (ps_ret (pe_and (pe_callB call_isi (by rfl) Z.isi (by decide +kernel) (pa_cons (pv 0) (pa_cons (pe_bltn (v := .ty "list") (by rfl) Z.tlist (by decide +kernel) rfl) pa_nil))) (pe_and (pe_callB (cr_all rfl) (by rfl) Z.all (by decide +kernel) (pa_cons (pe_lc (own := [("part", 1)]) (g := gName 1) (tt := tYes) (te := tCall (spCount K) [] E0 (tCons (tVar 1) (tNil))) (by rfl) nd (pi_list (pv 0))
          (blkOk_by (own := [("part", 1)]) (N := N_are_ascending_counts) (sc := defScope s_are_ascending_counts) (by decide +kernel)) (fun _ _ _ _ _ => pg_name (i := 1) nd rfl (Or.inl rfl)) (fun _ _ _ _ _ => pts_nil)
          (fun _ _ _ _ _ => pe_call G_is_count (hr.mono (by decide)) rfl g_is_count F_is_count.kp b_is_count .nil pass0 (pa_cons (pv 1) (pa_nil)))) (pa_nil))) (pe_one (pe_call G_ascends (hr.mono (by decide)) rfl g_ascends F_ascends.kp b_ascends .nil pass0 (pa_cons (pv 0) (pa_nil)))))))), ?_⟩
    have ln : (numsV ns).length = ns.length := List.length_map _
    refine ⟨_, rfl, .ref a, .ty "list", .type "list", .type "list", true, rfl, .ty _, .base (.lst ha), kit_ty (by decide +kernel), true, rfl, iteT ?_⟩
    refine ⟨_, rfl, a, rfl, ⟨_, SqL.of ha⟩, fun D hD => ?_⟩
    refine lc_sel (walk_list (K := K) (a := a) (xs := numsV ns)) (fun _ => some (.bl true)) (by omega) hD (fun H2 s2 => SqL.of (s2 _ _ ha)) ?_ ?_
    · rintro i v H2 H3 Qy Qn hi sH ⟨rfl, hv⟩ ky kn
      have hi2 : i < ns.length := by omega
      unfold numsV at hv
      rw [List.getElem?_map, List.getElem?_eq_getElem hi2] at hv
      obtain rfl := Option.some.inj hv
      refine ⟨rfl, _, rfl, ?_⟩
      refine ⟨V.int ((ns[i] : Nat) : Int), PyData.int ((ns[i] : Nat) : Int), 0, rfl, FlatD.int _, ?_⟩
      rw [show cntB (.int ((ns[i] : Nat) : Int)) = true from decide_eq_true (Int.natCast_nonneg ns[i])]
      exact ky _ _ (Same.refl _) rfl
    · intro H2 s2 hR
      obtain ⟨bs, hB, hb⟩ := all_bits (K := K) hR
      refine ⟨D, bs, rfl, hB, ?_⟩
      rw [hb]
      exact ⟨true, rfl, iteT ⟨_, rfl, a, true, rfl, .inl ⟨rfl, ns, s2 _ _ ha, hl, hp⟩, fun H3 s3 => k H3 (s2.trans s3)⟩⟩
abbrev s_are_ascending_below : Stmt := top 11
abbrev N_are_ascending_below : List Str := ["value", "bound", "part"]
theorem sc_are_ascending_below : FnScope N_are_ascending_below ["value", "bound"] (defScope s_are_ascending_below) := ⟨rfl, rfl, rfl, by decide +kernel, rfl, by decide +kernel, by decide +kernel⟩
theorem ok_are_ascending_below {f : Addr} {fd : FuncData} (F : FnP K "are_ascending_below" s_are_ascending_below f fd) (Z : FreeS mg)
    {f_are_ascending_counts : Addr} {d_are_ascending_counts : FuncData} (g_are_ascending_counts : mg "are_ascending_counts" = some (.ref f_are_ascending_counts)) (F_are_ascending_counts : FnP K "are_ascending_counts" s_are_ascending_counts f_are_ascending_counts d_are_ascending_counts) (G_are_ascending_counts : FnOk P w K mg base CX0 3 f_are_ascending_counts d_are_ascending_counts ["value"] (spAscC K)) :
    FnOk P w K mg base CX0 4 f fd ["value", "bound"] (spAscB K) := by
  have b_are_ascending_counts : Binds K d_are_ascending_counts ["value"] [] := F_are_ascending_counts.bindsN fun _ _ _ _ _ _ us hl => match us, hl with | [_], _ => rfl
  refine F.ok sc_are_ascending_below (fun vs H Q E h => ?_) (fun cdv A outer s H vs Q E hr h => ?_)
  · obtain ⟨a, l, n, rfl, _⟩ := h
    rfl
  · obtain ⟨a, l, n, rfl, ha, hl, hp, hb, k⟩ := h
    have nd := sc_are_ascending_below.nd
    refine ⟨_, PSs.nox (pss_one (ps_ret (pe_and (pe_call G_are_ascending_counts (hr.mono (by decide)) rfl g_are_ascending_counts F_are_ascending_counts.kp b_are_ascending_counts .nil pass0 (pa_cons (pv 0) (pa_nil))) (pe_one (pe_callB (cr_all rfl) (by rfl) Z.all (by decide +kernel) (pa_cons (pe_lc (own := [("part", 2)]) (g := gName 2) (tt := tYes) (te := tOp (rI0 fun i j => .bl (decide (i < j))) (tVar 2) (tVar 1)) (by rfl) nd (pi_list (pv 0))
          (blkOk_by (own := [("part", 2)]) (N := N_are_ascending_below) (sc := defScope s_are_ascending_below) (by decide +kernel)) (fun _ _ _ _ _ => pg_name (i := 2) nd rfl (Or.inl rfl)) (fun _ _ _ _ _ => pts_nil)
          (fun _ _ _ _ _ => pe_cmpR op_lt (pv 2) (pv 1) (nomark _))) (pa_nil))))))), ?_⟩
    have ln : (numsV l).length = l.length := List.length_map _
    refine ⟨_, rfl, a, l, rfl, ha, hl, hp, fun H1 s1 => ⟨true, rfl, iteT ?_⟩⟩
    refine ⟨_, rfl, a, rfl, ⟨_, SqL.of (s1 _ _ ha)⟩, fun D hD => ?_⟩
    refine lc_sel (walk_list (K := K) (a := a) (xs := numsV l)) (fun _ => some (.bl true)) (by omega) hD (fun H2 s2 => SqL.of (s2 _ _ (s1 _ _ ha))) ?_ ?_
    · rintro i v H2 H3 Qy Qn hi sH ⟨rfl, hv⟩ ky kn
      unfold numsV at hv
      have hi2 : i < l.length := by omega
      rw [List.getElem?_map, List.getElem?_eq_getElem hi2] at hv
      obtain rfl := Option.some.inj hv
      refine ⟨rfl, _, rfl, _, rfl, _, _, rfl, rfl, ky _ _ (Same.refl _) ?_⟩
      have := hb _ (List.getElem_mem (show i < l.length by omega))
      exact (congrArg (fun c => some (V.bl c)) (decide_eq_true (show (l[i] : Int) < (n : Int) by omega))).symm
    · intro H2 s2 hR
      obtain ⟨bs, hB, hb⟩ := all_bits (K := K) hR
      refine ⟨D, bs, rfl, hB, ?_⟩
      rw [hb]
      exact k _ (s1.trans s2)
end
end K17
set_option Elab.async false
set_option linter.all false
set_option maxRecDepth 100000
set_option maxHeartbeats 4000000
/-! A new object that is gone over at once: it is held from then on. -/
namespace L2
open PySem PySem.Spec PyProof.Rows
def tLk (t : TE) : TE := fun σ H Q => t σ H fun x H1 => ∃ d u, x = .ref d ∧ H1 d = some u ∧ Mut (some u) ∧ ∀ od, Q x (upd H1 d (.frz od u))
theorem pe_lk {X : Cx} {e : Expr} {t : TE} (h : PE X e t) : PE X e (tLk t) := by
  refine ⟨fun pins s σ H Q I hw => ?_⟩
  refine thn (h.run pins s σ H _ I hw) fun v s1 ⟨x, H1, I1, r, q⟩ => ?_
  obtain ⟨d, u, ex, hd, mu, q⟩ := q
  subst ex
  obtain ⟨od, I2⟩ := I1.lock hd mu
  exact ⟨_, _, I2, r, q od⟩
end L2
set_option Elab.async false
set_option linter.all false
set_option maxRecDepth 100000
set_option maxHeartbeats 4000000
/-! xs == [] and xs != [], whatever xs holds. -/
namespace L2
open PySem PySem.Spec PyProof.Rows
section
variable {X : Cx}
def rEmp (K : PySem.W.Frag) (neg : Bool) : R2 := fun x y H Q => ∃ (a b : Addr) (xs : List V), x = .ref a ∧ y = .ref b ∧ SqL K H a xs ∧ SqL K H b [] ∧ Q (.bl (xs.isEmpty != neg)) H
theorem op_eqE (hu : X.A.units < cLine) : OpR X (compareOp .Eq) (rEmp X.K false) := by
  intro pins s σ H x y v u Q I rx ry h
  obtain ⟨a, b, xs, rfl, rfl, ha, hb, q⟩ := h
  obtain rfl : v = Value.ref a := rx
  obtain rfl : u = Value.ref b := ry
  obtain ⟨its, rv, ⟨oa, na, hoa, hca, _, hda⟩, _⟩ := I.list ha
  obtain ⟨its2, rv2, ⟨ob, nb, hob, hcb, _, hdb⟩, _⟩ := I.list hb
  cases rv2
  have hA : s.heap.IsList a its.toArray := ⟨oa, hoa, hca, na, hda⟩
  have hB : s.heap.IsList b #[] := ⟨ob, hob, hcb, nb, hdb⟩
  have z : ∀ c : Bool, (c != false) = c := by decide
  rw [z] at q
  cases rv with
  | nil => exact SeqAt.RcAt.lists (e := fun _ => true) hA hB rfl hu (fun j h1 h2 => absurd h2 (Nat.not_lt_zero _)) X.prog X.w _ _ ⟨.bl _, H, I, rfl, q⟩
  | cons r t => exact SeqAt.RcAt.lists_lengths hA hB (by simp) hu X.prog X.w _ _ ⟨.bl _, H, I, rfl, q⟩
theorem op_neE (hu : X.A.units < cLine) : OpR X (compareOp .NotEq) (rEmp X.K true) := by
  intro pins s σ H x y v u Q I rx ry h
  obtain ⟨a, b, xs, rfl, rfl, ha, hb, q⟩ := h
  obtain rfl : v = Value.ref a := rx
  obtain rfl : u = Value.ref b := ry
  obtain ⟨its, rv, ⟨oa, na, hoa, hca, _, hda⟩, _⟩ := I.list ha
  obtain ⟨its2, rv2, ⟨ob, nb, hob, hcb, _, hdb⟩, _⟩ := I.list hb
  cases rv2
  have hA : s.heap.IsList a its.toArray := ⟨oa, hoa, hca, na, hda⟩
  have hB : s.heap.IsList b #[] := ⟨ob, hob, hcb, nb, hdb⟩
  have z : ∀ c : Bool, (c != true) = !c := by decide
  rw [z] at q
  cases rv with
  | nil => exact SeqAt.RcNeAt.lists (e := fun _ => true) hA hB rfl hu (fun j h1 h2 => absurd h2 (Nat.not_lt_zero _)) X.prog X.w _ _ ⟨.bl _, H, I, rfl, q⟩
  | cons r t => exact SeqAt.RcNeAt.lists_lengths hA hB (by simp) hu X.prog X.w _ _ ⟨.bl _, H, I, rfl, q⟩
end
end L2
set_option Elab.async false
set_option linter.all false
set_option maxRecDepth 100000
set_option maxHeartbeats 4000000
/-! sorted(xs) of tracked data of one shape: tuples, rows, texts. -/
namespace KB
open PySem PySem.Spec PyProof.Rows L2
theorem eachOf {xs : List V} {us : List Value} (h : Vals xs us) : PySem.W.EachIs (fun (u : Value) (x : V) => RelV x u) us xs := by
  induction h with
  | nil => exact .nil
  | cons r _ ih => exact .cons r ih
theorem valsOf {xs : List V} {us : List Value} (h : PySem.W.EachIs (fun (u : Value) (x : V) => RelV x u) us xs) : Vals xs us := by
  induction h with
  | nil => exact .nil
  | cons r _ ih => exact .cons r ih
theorem eachMem {α β : Type} {R S : α → β → Prop} {as : List α} {bs : List β} (h : PySem.W.EachIs R as bs) (k : ∀ a b, b ∈ bs → R a b → S a b) : PySem.W.EachIs S as bs := by
  induction h with
  | nil => exact .nil
  | cons r _ ih => exact .cons (k _ _ List.mem_cons_self r) (ih fun a b m => k a b (List.mem_cons_of_mem _ m))
def rSortedD (K : PySem.W.Frag) : List V → Hp → VK → Prop := fun vs H Q => ∃ (a : Addr) (xs : List V) (k : V → PyData), vs = [.ref a] ∧ SqL K H a xs ∧ (∀ x ∈ xs, Dp K H x (k x)) ∧ PySem.W.AllAlike (xs.map k) ∧ PySem.W.Sortable (xs.map k) ∧ (∀ x ∈ xs, (k x).depth ≤ 40) ∧
  ∀ p, H p = none → Q (.ref p) (upd H p (.lst (xs.mergeSort (PySem.W.dataLe false k))))
theorem cr_sortedD {X : Cx} (hu : X.A.units + 64 < cLine) : CallR X (.builtin "sorted") (rSortedD X.K) := by
  intro pins s σ H vs us Q I r h
  obtain ⟨a, xs, k, rfl, hs, hk, ha, hb, hd, q⟩ := h
  obtain rfl := Vals.ref1 r
  obtain ⟨its, rv, hl, hz⟩ := I.list hs
  have e1 := eachOf rv
  refine PySem.W.sorted_data (vs := its) (bs := xs) (enc := k) (R := fun u x => RelV x u) hl.isList e1 (eachMem e1 fun u x m r => Dp.reads I (k x) x u (hk x m) r) ha hb hz (fun x m => ?_) fun out len eo => ?_
  · have := hd x m
    omega
  · obtain ⟨ep, he⟩ := PyProof.Rows.sortedAll_at s.heap its out.toArray
    have z : (xs.mergeSort (PySem.W.dataLe false k)).length ≤ sizeLine := by
      rw [List.length_mergeSort]
      exact hz
    exact ⟨.ref _, upd H (s.heap.objs.size + 1) (.lst (xs.mergeSort (PySem.W.dataLe false k))), I.laid (t' := s.toks) (fun _ _ => PyProof.Rows.sortedAll_old) (Nat.le_succ _) ⟨z, out, ep, valsOf eo, he⟩, rfl, q _ (I.hok.fresh (Nat.le_succ _))⟩
end KB
set_option Elab.async false
set_option linter.all false
set_option maxRecDepth 100000
set_option maxHeartbeats 4000000
/-! sorted(xs), xs new tuples of as many ints each. -/
namespace KB
open PySem PySem.Spec PyProof.Rows L2
theorem zip_paired {α β : Type} {F : α → β → Prop} : ∀ {xs : List α} {ys : List β}, Paired F xs ys → (∀ p ∈ xs.zip ys, F p.1 p.2) ∧ (xs.zip ys).map Prod.fst = xs ∧ (xs.zip ys).map Prod.snd = ys
  | _, _, .nil => ⟨fun p h => (nomatch h), rfl, rfl⟩
  | _, _, .cons r t => by
    obtain ⟨h1, h2, h3⟩ := zip_paired t
    refine ⟨fun p h => ?_, ?_, ?_⟩
    · rw [List.zip_cons_cons] at h
      rcases List.mem_cons.mp h with rfl | h
      · exact r
      · exact h1 p h
    · rw [List.zip_cons_cons, List.map_cons, h2]
    · rw [List.zip_cons_cons, List.map_cons, h3]
theorem paired_zip {α β : Type} {F : α → β → Prop} : ∀ {ps : List (α × β)}, (∀ p ∈ ps, F p.1 p.2) → Paired F (ps.map Prod.fst) (ps.map Prod.snd)
  | [], _ => .nil
  | p :: ps, h => .cons (h p List.mem_cons_self) (paired_zip fun q hq => h q (List.mem_cons_of_mem _ hq))
theorem paired_sort {α β : Type} {F : α → β → Prop} {le : β → β → Bool} {le' : α → α → Bool} (h : ∀ a x b y, F a x → F b y → le' a b = le x y) {xs : List α} {ys : List β} (p : Paired F xs ys) : Paired F (xs.mergeSort le') (ys.mergeSort le) := by
  obtain ⟨h1, h2, h3⟩ := zip_paired p
  have e1 : ((xs.zip ys).mergeSort fun p q => le p.2 q.2).map Prod.fst = xs.mergeSort le' := by
    rw [List.map_mergeSort (s := le') (fun a ha b hb => (h _ _ _ _ (h1 a ha) (h1 b hb)).symm), h2]
  have e2 : ((xs.zip ys).mergeSort fun p q => le p.2 q.2).map Prod.snd = ys.mergeSort le := by
    rw [List.map_mergeSort (s := le) (fun a _ b _ => rfl), h3]
  rw [← e1, ← e2]
  exact paired_zip fun q hq => h1 q ((List.mergeSort_perm _ _).mem_iff.mp hq)
theorem paired_get2 {α β : Type} {F : α → β → Prop} : ∀ {xs : List α} {ys : List β}, Paired F xs ys → ∀ {i : Nat} {y : β}, ys[i]? = some y → ∃ x, xs[i]? = some x ∧ F x y
  | _, _, .nil, i, x, h => by cases h
  | _, _, .cons r t, 0, x, h => by
    have e := Option.some.inj h
    subst e
    exact ⟨_, rfl, r⟩
  | _, _, .cons r t, i + 1, x, h => paired_get2 t h
theorem paired_get1 {α β : Type} {F : α → β → Prop} : ∀ {xs : List α} {ys : List β}, Paired F xs ys → ∀ {i : Nat} {x : α}, xs[i]? = some x → ∃ y, ys[i]? = some y ∧ F x y
  | _, _, .nil, i, x, h => by cases h
  | _, _, .cons r t, 0, x, h => by
    have e := Option.some.inj h
    subst e
    exact ⟨_, rfl, r⟩
  | _, _, .cons r t, i + 1, x, h => paired_get1 t h
theorem paired_rev {α β : Type} {F : α → β → Prop} : ∀ {xs : List α} {ys : List β}, Paired F xs ys → Paired F xs.reverse ys.reverse
  | _, _, .nil => .nil
  | _, _, .cons r t => by
    rw [List.reverse_cons, List.reverse_cons]
    exact paired_snoc (paired_rev t) r
theorem paired_mapG {α β γ : Type} {F : γ → β → Prop} {f : α → γ} : ∀ {xs : List α} {ys : List β}, Paired (fun x y => F (f x) y) xs ys → Paired F (xs.map f) ys
  | _, _, .nil => .nil
  | _, _, .cons r t => .cons r (paired_mapG t)
theorem sel_getG {α : Type} (z : α) (l : List α) (c : α → Bool) : (((List.range l.length).filter fun i => c (l.getD i z)).map fun i => l.getD i z) = l.filter c := by
  have e : l = (List.range l.length).map fun i => l.getD i z := by
    refine List.ext_getElem (by simp) fun i h1 h2 => ?_
    simp [h1]
  conv => rhs; rw [e, List.filter_map]
  rfl
theorem paired_selG {α : Type} {z : α} {l : List α} {c : α → Bool} {R : α → V → Prop} {ys : List V} (h : Paired (fun i y => R (l.getD i z) y) ((List.range l.length).filter fun i => c (l.getD i z)) ys) : Paired R (l.filter c) ys := by
  have := paired_mapG h
  rw [sel_getG] at this
  exact this
def intsD (t : List Int) : PyData := .tuple (t.map PyData.int)
def sortT (ts : List (List Int)) : List (List Int) := ts.mergeSort fun a b => PySem.W.dataLe false intsD a b
theorem sortT_perm (ts : List (List Int)) : (sortT ts).Perm ts := List.mergeSort_perm _ _
/-- y is a tuple of these ints -/
def IntsAt (H : Hp) (t : List Int) (y : V) : Prop := ∃ T, y = .ref T ∧ H T = some (.tup (t.map V.int))
theorem IntsAt.same {H H' : Hp} (k : Same H H') {t : List Int} {y : V} : IntsAt H t y → IntsAt H' t y := fun ⟨T, e, h⟩ => ⟨T, e, k _ _ h⟩
def encI (H : Hp) (y : V) : PyData := match y with
  | .ref T => (match H T with
    | some (.tup xs) => .tuple (xs.map fun v => match v with | .int i => PyData.int i | _ => .none)
    | _ => .none)
  | _ => .none
theorem encI_at {H : Hp} {t : List Int} {y : V} (h : IntsAt H t y) : encI H y = intsD t := by
  obtain ⟨T, rfl, h⟩ := h
  simp only [encI, intsD, h, List.map_map]
  rfl
theorem dpAll_ints {K : PySem.W.Frag} {H : Hp} : ∀ t : List Int, DpAll K H (t.map V.int) (t.map PyData.int)
  | [] => .nil
  | i :: t => .cons (.int i) (dpAll_ints t)
theorem alikeAll_ints : ∀ a b : List Int, PySem.W.alikeAll (a.map PyData.int) (b.map PyData.int) = true
  | [], _ => by simp [PySem.W.alikeAll]
  | _ :: _, [] => by simp [PySem.W.alikeAll]
  | i :: a, j :: b => by
    rw [List.map_cons, List.map_cons]
    simp only [PySem.W.alikeAll, PySem.W.alike, alikeAll_ints a b, Bool.and_self]
theorem depth_ints : ∀ t : List Int, PyData.depthAll (t.map PyData.int) = 0
  | [] => by simp [PyData.depthAll]
  | i :: t => by
    rw [List.map_cons]
    simp only [PyData.depthAll, PyData.depth, depth_ints t]
    rfl
def rSortT (K : PySem.W.Frag) : List V → Hp → VK → Prop := fun vs H Q => ∃ (a : Addr) (xs : List V) (ts : List (List Int)), vs = [.ref a] ∧ SqL K H a xs ∧ Paired (IntsAt H) ts xs ∧ (∀ t ∈ ts, t ≠ []) ∧
  ∀ p ys, H p = none → Paired (IntsAt H) (sortT ts) ys → Q (.ref p) (upd H p (.lst ys))
theorem cr_sortedT {X : Cx} (hu : X.A.units + 64 < cLine) : CallR X (.builtin "sorted") (rSortT X.K) := by
  intro pins s σ H vs us Q I r h
  obtain ⟨a, xs, ts, rfl, hs, py, hne, q⟩ := h
  have get : ∀ x ∈ xs, ∃ t ∈ ts, IntsAt H t x := fun x mx => by
    obtain ⟨h1, h2, h3⟩ := zip_paired py
    rw [← h3] at mx
    obtain ⟨p, hp, rfl⟩ := List.mem_map.mp mx
    refine ⟨p.1, ?_, h1 p hp⟩
    rw [← h2]
    exact List.mem_map.mpr ⟨p, hp, rfl⟩
  refine cr_sortedD hu pins s σ H _ us Q I r ⟨a, xs, encI H, rfl, hs, fun x mx => ?_, fun d hd d' hd' => ?_, .inl fun d hd => ?_, fun x mx => ?_, fun p hp => ?_⟩
  · obtain ⟨t, _, h⟩ := get x mx
    rw [encI_at h]
    obtain ⟨T, rfl, hT⟩ := h
    exact .tup (SqT.of hT) (dpAll_ints t)
  · obtain ⟨x, mx, rfl⟩ := List.mem_map.mp hd
    obtain ⟨y, my, rfl⟩ := List.mem_map.mp hd'
    obtain ⟨t, _, h⟩ := get x mx
    obtain ⟨t', _, h'⟩ := get y my
    rw [encI_at h, encI_at h']
    show PySem.W.alike (.tuple _) (.tuple _) = true
    simp only [PySem.W.alike, alikeAll_ints]
  · obtain ⟨x, mx, rfl⟩ := List.mem_map.mp hd
    obtain ⟨t, mt, h⟩ := get x mx
    rw [encI_at h]
    cases t with
    | nil => exact absurd rfl (hne _ mt)
    | cons i t => exact ⟨_, _, rfl⟩
  · obtain ⟨t, _, h⟩ := get x mx
    rw [encI_at h]
    unfold intsD
    simp only [PyData.depth, depth_ints]
    decide
  · refine q p _ hp (paired_sort (fun a x b y h1 h2 => ?_) py)
    unfold PySem.W.dataLe PySem.W.sortLe
    dsimp only
    rw [encI_at h1, encI_at h2]
def rListOf (K : PySem.W.Frag) : List V → Hp → VK → Prop := fun xs H Q => ∃ p ys, xs = [V.ref p] ∧ (SqL K H p ys ∨ SqT K H p ys) ∧ ∀ l, H l = none → Q (.ref l) (upd H l (.lst ys))
theorem call_list_ofR {X : Cx} : CallR X (.type "list") (rListOf X.K) := call_list_of
end KB
set_option Elab.async false
set_option linter.all false
set_option maxRecDepth 100000
set_option maxHeartbeats 8000000
/-! Runs and waits, second part. -/
namespace K17
open PySem PySem.Spec PyProof.Rows L2 KB
theorem nums_td {K : PySem.W.Frag} {H : Hp} {a : Addr} {l : List Nat} (n : Nat) (h : H a = some (.lst (numsV l))) (hl : l.length ≤ 1000) : TD K H (n + 1) (.ref a) (.list (l.map fun x : Nat => PyData.int (x : Int))) := by
  refine TD.lst h (by unfold numsV; rw [List.length_map, List.length_map]) (by rw [List.length_map]; exact hl) fun i u e e1 e2 => ?_
  unfold numsV at e1
  rw [List.getElem?_map] at e1 e2
  obtain ⟨p, q1, rfl⟩ := Option.map_eq_some_iff.mp e1
  rw [q1] at e2
  cases e2
  exact TD.flat (.int _)
theorem run_td {K : PySem.W.Frag} {H : Hp} {a : Addr} {es : List Ev} (n : Nat) (h : RunAt K H a es) (hl : es.length ≤ 1000) : TD K H (n + 2) (.ref a) (.list (es.map Ev.d)) := LsT.td n (fun h => Ev.td n h) h hl
theorem wts_td {K : PySem.W.Frag} {H : Hp} {a : Addr} {ws : List (Nat × Nat)} (n : Nat) (h : WtAt K H a ws) (hl : ws.length ≤ 1000) : TD K H (n + 2) (.ref a) (.list (ws.map pd)) := LsT.td n (fun h => pd_td n h) h hl
theorem LsT.butS {K : PySem.W.Frag} {α : Type} {vv : α → List V} {H H' : Hp} {a : Addr} {xs : List α} {S : Addr → Prop} (k : ∀ c o, ¬ S c → H c = some o → H' c = some o) (hS : ∀ p, S p → ∃ l, H p = some (.lst l)) (n : ¬ S a) (h : LsT K vv H a xs) : LsT K vv H' a xs := by
  obtain ⟨ts, h1, h2, h3⟩ := h
  refine ⟨ts, k _ _ n h1, h2, fun i t e e1 e2 => ?_⟩
  rcases h3 i t e e1 e2 with (h | ⟨o, h⟩) | h
  · exact .inl (.inl (k _ _ (fun z => by obtain ⟨l, e⟩ := hS t z; rw [h] at e; cases e) h))
  · exact .inl (.inr ⟨o, k _ _ (fun z => by obtain ⟨l, e⟩ := hS t z; rw [h] at e; cases e) h⟩)
  · exact .inr h
theorem LsT.copy {K : PySem.W.Frag} {α : Type} {vv : α → List V} {H H' : Hp} {a q : Addr} {xs : List α} {vs : List V} (h : LsT K vv H a xs) (e : H a = some (.lst vs)) (k : Same H H') (hq : H' q = some (.lst vs)) : LsT K vv H' q xs := by
  obtain ⟨ts, h1, h2, h3⟩ := h
  rw [h1] at e
  cases e
  exact ⟨ts, hq, h2, fun i t x e1 e2 => SqT_up k (h3 i t x e1 e2)⟩
structure RunOk (K : PySem.W.Frag) (H : Hp) (a : Addr) (es : List Ev) : Prop where
  at_ : RunAt K H a es
  ne : es ≠ []
  len : es.length ≤ 100
structure WtOk (K : PySem.W.Frag) (H : Hp) (b : Addr) (es : List Ev) (ws : List (Nat × Nat)) : Prop where
  at_ : WtAt K H b ws
  ok : WaitsOk es ws
  len : ws.length ≤ 1000
theorem RunOk.same {K : PySem.W.Frag} {H H' : Hp} {a : Addr} {es : List Ev} (k : Same H H') (h : RunOk K H a es) : RunOk K H' a es := ⟨h.at_.same k, h.ne, h.len⟩
theorem WtOk.same {K : PySem.W.Frag} {H H' : Hp} {a : Addr} {es : List Ev} {ws : List (Nat × Nat)} (k : Same H H') (h : WtOk K H a es ws) : WtOk K H' a es ws := ⟨h.at_.same k, h.ok, h.len⟩
theorem RunOk.ext {K : PySem.W.Frag} {H H' : Hp} {a : Addr} {es : List Ev} (k : LamX.ExtN H H') (h : RunOk K H a es) : RunOk K H' a es := ⟨h.at_.ext k, h.ne, h.len⟩
theorem WtOk.ext {K : PySem.W.Frag} {H H' : Hp} {a : Addr} {es : List Ev} {ws : List (Nat × Nat)} (k : LamX.ExtN H H') (h : WtOk K H a es ws) : WtOk K H' a es ws := ⟨h.at_.ext k, h.ok, h.len⟩
def spIsEvent (K : PySem.W.Frag) : Sp := fun vs H Q _ => ∃ (t : Addr) (e : Ev), vs = [.ref t] ∧ SqT K H t e.v ∧ ∀ H', Same H H' → Q (.bl true) H'
def spEvents (K : PySem.W.Frag) : Sp := fun vs H Q _ => ∃ (a : Addr) (es : List Ev), vs = [.ref a] ∧ RunOk K H a es ∧ ∀ H', Same H H' → Q (.bl true) H'
def spNeedRun (K : PySem.W.Frag) : Sp := fun vs H Q _ => ∃ (a : Addr) (es : List Ev), vs = [.ref a] ∧ RunOk K H a es ∧ ∀ H', Same H H' → Q .non H'
theorem paired_of {α β : Type} {R : α → β → Prop} : ∀ {xs : List α} {ys : List β}, xs.length = ys.length → (∀ (i : Nat) (x : α) (y : β), xs[i]? = some x → ys[i]? = some y → R x y) → Paired R xs ys
  | [], [], _, _ => .nil
  | [], _ :: _, l, _ => by cases l
  | _ :: _, [], l, _ => by cases l
  | x :: xs, y :: ys, l, k => .cons (k 0 x y rfl rfl) (paired_of (Nat.succ.inj l) fun i u v h1 h2 => k (i + 1) u v h1 h2)
def waitN (es : List Ev) (i j : Nat) : Bool := decide (i < j) && (match es[i]? with
  | some (.wr c) => (match es[j]? with
    | some .tell => true
    | some (.wr c') => decide (c' ≠ c)
    | _ => false)
  | _ => false)
def waitB (es : List Ev) : PyData → Bool
  | .tuple [.int i, .int j] => (decide (0 ≤ i) && decide (i < (es.length : Int))) && ((decide (0 ≤ j) && decide (j < (es.length : Int))) && waitN es i.toNat j.toNat)
  | _ => false
def toW : PyData → Nat × Nat
  | .tuple [.int i, .int j] => (i.toNat, j.toNat)
  | _ => (0, 0)
def waitsB (es : List Ev) : PyData → Bool
  | .list ds => ds.all (waitB es) && ascB (ds.map toW)
  | _ => false
theorem waitN_iff {es : List Ev} {i j : Nat} (hj : j < es.length) : waitN es i j = true ↔ WaitOk es (i, j) := by
  unfold waitN
  rw [Bool.and_eq_true, decide_eq_true_eq]
  constructor
  · rintro ⟨h1, h2⟩
    refine ⟨h1, hj, ?_⟩
    split at h2
    · rename_i c e
      refine ⟨c, e, ?_⟩
      split at h2
      · rename_i e2
        exact .inl e2
      · rename_i c' e2
        exact .inr ⟨c', e2, of_decide_eq_true h2⟩
      · cases h2
    · cases h2
  · rintro ⟨h1, _, c, e, h⟩
    have e : es[i]? = some (.wr c) := e
    refine ⟨h1, ?_⟩
    rw [e]
    rcases h with h | ⟨c', h, n⟩
    · have h : es[j]? = some .tell := h
      rw [h]
    · have h : es[j]? = some (.wr c') := h
      rw [h]
      exact decide_eq_true n
theorem waitB_pd {es : List Ev} {w : Nat × Nat} (h : WaitOk es w) : waitB es (pd w) = true := by
  have l1 := h.lt
  have l2 := h.len
  show ((decide (0 ≤ (w.1 : Int)) && decide ((w.1 : Int) < (es.length : Int))) && ((decide (0 ≤ (w.2 : Int)) && decide ((w.2 : Int) < (es.length : Int))) && waitN es (w.1 : Int).toNat (w.2 : Int).toNat)) = true
  rw [decide_eq_true (show 0 ≤ (w.1 : Int) by omega), decide_eq_true (show (w.1 : Int) < (es.length : Int) by omega), decide_eq_true (show 0 ≤ (w.2 : Int) by omega), decide_eq_true (show (w.2 : Int) < (es.length : Int) by omega), Int.toNat_natCast, Int.toNat_natCast, (waitN_iff l2).mpr h]
  rfl
theorem waitB_iff {es : List Ev} {d : PyData} : waitB es d = true ↔ ∃ w, d = pd w ∧ WaitOk es w := by
  constructor
  · intro h
    unfold waitB at h
    split at h
    · rename_i i j
      rw [Bool.and_eq_true, Bool.and_eq_true, Bool.and_eq_true, Bool.and_eq_true] at h
      obtain ⟨⟨a, b⟩, ⟨c, d⟩, e⟩ := h
      have a := of_decide_eq_true a
      have b := of_decide_eq_true b
      have c := of_decide_eq_true c
      have d := of_decide_eq_true d
      refine ⟨(i.toNat, j.toNat), ?_, (waitN_iff (by omega)).mp e⟩
      unfold pd
      rw [show ((i.toNat : Nat) : Int) = i by omega, show ((j.toNat : Nat) : Int) = j by omega]
    · cases h
  · rintro ⟨w, rfl, h⟩
    exact waitB_pd h
theorem toW_pd (w : Nat × Nat) : toW (pd w) = w := rfl
theorem ascB_of {ws : List (Nat × Nat)} (h : ws.Pairwise lexP) : ascB ws = true := by
  unfold ascB
  rw [List.all_eq_true]
  intro i hi
  have hi := List.mem_range.mp hi
  have := List.pairwise_iff_getElem.mp h i (1 + i) (by omega) (by omega) (by omega)
  rw [List.getD_eq_getElem?_getD, List.getD_eq_getElem?_getD, List.getElem?_eq_getElem (by omega), List.getElem?_eq_getElem (by omega)]
  exact decide_eq_true this
theorem waitsB_of {es : List Ev} {ws : List (Nat × Nat)} (h : WaitsOk es ws) : waitsB es (.list (ws.map pd)) = true := by
  show ((ws.map pd).all (waitB es) && ascB ((ws.map pd).map toW)) = true
  have e : (ws.map pd).map toW = ws := by
    rw [List.map_map]
    exact (List.map_congr_left fun w _ => rfl).trans (List.map_id ws)
  rw [e, ascB_of h.asc, Bool.and_true, List.all_eq_true]
  intro d hd
  obtain ⟨w, hw, rfl⟩ := List.mem_map.mp hd
  exact waitB_pd (h.ok w hw)
theorem td_tup2 {K : PySem.W.Frag} {H : Hp} {x : V} {d : PyData} {m : Nat} (h : TD K H m x d) (e : tupB 2 d = true) : ∃ (a : Addr) (x1 x2 : V) (d1 d2 : PyData) (m' : Nat), x = .ref a ∧ SqT K H a [x1, x2] ∧ d = .tuple [d1, d2] ∧ TD K H m' x1 d1 ∧ TD K H m' x2 d2 := by
  have fl : ∀ {x : V} {d : PyData}, FlatD x d → tupB 2 d = true → False := fun h e => by
    cases h <;> cases e
  cases m with
  | zero => exact (fl h e).elim
  | succ m =>
    rcases h with h | ⟨a, xs, ds, rfl, l, l1, t, c⟩ | ⟨a, ps, mm, rfl, _, ha, rfl⟩
    · exact (fl h e).elim
    · rcases t with ⟨ha, rfl⟩ | ⟨ha, rfl⟩
      · cases e
      · have e : ((ds.length : Nat) : Int) = 2 := of_decide_eq_true e
        have l2 : ds.length = 2 := by omega
        match ds, xs, l2, l, c, ha with
        | [d1, d2], [x1, x2], _, _, c, ha => exact ⟨a, x1, x2, d1, d2, m, rfl, ha, rfl, c 0 _ _ rfl rfl, c 1 _ _ rfl rfl⟩
    · cases e
theorem td_int {K : PySem.W.Frag} {H : Hp} {x : V} {i : Int} {m : Nat} (h : TD K H m x (.int i)) : x = .int i := by
  rcases td_cs h with ⟨_, q⟩ | ⟨b, _, q⟩ | ⟨j, rfl, q⟩ | ⟨z, _, q⟩ | ⟨a, xs, ds, _, _, q, _⟩ | ⟨a, xs, ds, _, _, q, _⟩ | ⟨a, ps, mm, _, _, q⟩
  · cases q
  · cases q
  · cases q; rfl
  · cases q
  · cases q
  · cases q
  · cases q
theorem belB_iff {n : Nat} {d : PyData} : belB n d = true ↔ ∃ i : Nat, d = .int (i : Int) ∧ i < n := by
  constructor
  · intro h
    cases d with
    | int i =>
      have h : (decide (0 ≤ i) && decide (i < (n : Int))) = true := h
      rw [Bool.and_eq_true, decide_eq_true_eq, decide_eq_true_eq] at h
      exact ⟨i.toNat, by rw [show ((i.toNat : Nat) : Int) = i by omega], by omega⟩
    | _ => cases h
  · rintro ⟨i, rfl, h⟩
    show (decide (0 ≤ (i : Int)) && decide ((i : Int) < (n : Int))) = true
    rw [decide_eq_true (by omega), decide_eq_true (by omega)]
    rfl
theorem waitB_two (es : List Ev) (d1 d2 : PyData) : waitB es (.tuple [d1, d2]) = (belB es.length d1 && (belB es.length d2 && waitN es (toW (.tuple [d1, d2])).1 (toW (.tuple [d1, d2])).2)) := by
  cases d1 <;> cases d2 <;> first | rfl | (simp [waitB, belB])
def spIsWait (K : PySem.W.Frag) : Sp := fun vs H Q _ => ∃ (a : Addr) (x : V) (es : List Ev) (d : PyData) (m : Nat), vs = [.ref a, x] ∧ RunOk K H a es ∧ TD K H m x d ∧ ∀ H', Same H H' → Q (.bl (waitB es d)) H'
def spWaits (K : PySem.W.Frag) : Sp := fun vs H Q _ => ∃ (a : Addr) (x : V) (es : List Ev) (d : PyData) (m : Nat), vs = [.ref a, x] ∧ RunOk K H a es ∧ TD K H m x d ∧ ∀ H', Same H H' → Q (.bl (waitsB es d)) H'
def spNeedWaits (K : PySem.W.Frag) : Sp := fun vs H Q _ => ∃ (a b : Addr) (es : List Ev) (ws : List (Nat × Nat)), vs = [.ref a, .ref b] ∧ RunOk K H a es ∧ WtOk K H b es ws ∧ ∀ H', Same H H' → Q .non H'
def aheadL (es : List Ev) : List Nat := (List.range es.length).map (ahead es)
def spAhead (K : PySem.W.Frag) : Sp := fun vs H Q _ => ∃ (a : Addr) (es : List Ev), vs = [.ref a] ∧ RunOk K H a es ∧ ∀ q H', Same H H' → H q = none → H' q = some (.lst (numsV (aheadL es))) → Q (.ref q) H'
def spBrokenW (K : PySem.W.Frag) : Sp := fun vs H Q _ => ∃ (a b : Addr) (es : List Ev) (ws : List (Nat × Nat)), vs = [.ref a, .ref b] ∧ RunOk K H a es ∧ WtOk K H b es ws ∧ ∀ q H', Same H H' → H q = none → WtAt K H' q (brokenL es ws) → Q (.ref q) H'
def rLenK (K : PySem.W.Frag) : List V → Hp → VK → Prop := fun xs H Q => ∃ p ys, xs = [V.ref p] ∧ (SqL K H p ys ∨ SqT K H p ys) ∧ Q (.int (ys.length : Int)) H
theorem ahead_at {es : List Ev} {i : Nat} (h : i < es.length) : (numsV (aheadL es))[i]? = some (.int (ahead es i : Int)) := by
  unfold numsV aheadL
  rw [List.getElem?_map, List.getElem?_map, List.getElem?_range h]
  rfl
section
variable {P : Program} {w : World} {K : PySem.W.Frag} {mg : Str → Option Value} {base : Heap}
abbrev s_is_event : Stmt := top 13
abbrev N_is_event : List Str := ["value"]
theorem sc_is_event : FnScope N_is_event ["value"] (defScope s_is_event) := ⟨rfl, rfl, rfl, by decide +kernel, rfl, by decide +kernel, by decide +kernel⟩
theorem ok_is_event {f : Addr} {fd : FuncData} (F : FnP K "is_event" s_is_event f fd) (Z : FreeS mg)
    {f_is_tuple_of : Addr} {d_is_tuple_of : FuncData} (g_is_tuple_of : mg "is_tuple_of" = some (.ref f_is_tuple_of)) (F_is_tuple_of : FnP K "is_tuple_of" s_is_tuple_of f_is_tuple_of d_is_tuple_of) (G_is_tuple_of : FnOk P w K mg base CX0 1 f_is_tuple_of d_is_tuple_of ["value", "length"] (spTupOf K))
    {f_is_count : Addr} {d_is_count : FuncData} (g_is_count : mg "is_count" = some (.ref f_is_count)) (F_is_count : FnP K "is_count" s_is_count f_is_count d_is_count) (G_is_count : FnOk P w K mg base CX0 2 f_is_count d_is_count ["value"] (spCount K)) :
    FnOk P w K mg base CX0 3 f fd ["value"] (spIsEvent K) := by
  have b_is_tuple_of : Binds K d_is_tuple_of ["value", "length"] [] := F_is_tuple_of.bindsN fun _ _ _ _ _ _ us hl => match us, hl with | [_, _], _ => rfl
  have b_is_count : Binds K d_is_count ["value"] [] := F_is_count.bindsN fun _ _ _ _ _ _ us hl => match us, hl with | [_], _ => rfl
  refine F.ok sc_is_event (fun vs H Q E h => ?_) (fun cdv A outer s H vs Q E hr h => ?_)
  · obtain ⟨t, e, rfl, _⟩ := h
    rfl
  · obtain ⟨t, e, rfl, ht, k⟩ := h
    have hu65 := hr.units
    have sl : (3000 : Nat) ≤ sizeLine := by decide
    have nd := sc_is_event.nd
    refine ⟨_, PSs.nox (pss_cons (ps_if (PW.pt (pw_or (pt_cmpR (op_eqD hr.units) (pv 0) (pe_tup (pa_cons (pe_str) (pa_nil))) (nomark _)) (pw_or1 (pt_cmpR (op_eqD hr.units) (pv 0) (pe_tup (pa_cons (pe_str) (pa_nil))) (nomark _))))) (pss_one (ps_ret (pe_bl))) (pss_nil))
      (pss_one (ps_ret (pe_and (pe_call G_is_tuple_of (hr.mono (by decide)) rfl g_is_tuple_of F_is_tuple_of.kp b_is_tuple_of .nil pass0 (pa_cons (pv 0) (pa_cons (pe_int) (pa_nil)))) (pe_and (pe_cmpR op_eq (pe_ix ix_tup (pv 0) (pe_int) (fun _ _ => rfl)) (pe_str) (nomark _)) (pe_one (pe_call G_is_count (hr.mono (by decide)) rfl g_is_count F_is_count.kp b_is_count .nil pass0 (pa_cons (pe_ix ix_tup (pv 0) (pe_int) (fun _ _ => rfl)) (pa_nil))))))))), ?_⟩
    refine ⟨_, rfl, (by show 1 ≤ sizeLine; omega), fun t1 ht1 => ?_⟩
    have s1 := Same.updf (o := .tup [V.str "barrier"]) ht1
    refine ⟨_, _, Ev.dp (SqT_up s1 ht), Ev.dp (e := .bar) (SqT.of upd_same), shaped_ev e, shaped_ev .bar, _, rfl, ?_⟩
    rw [eqv_ev]
    by_cases h1 : e = .bar
    · rw [decide_eq_true h1]
      exact iteT (k _ s1)
    rw [decide_eq_false h1]
    refine iteF ⟨_, rfl, (by show 1 ≤ sizeLine; omega), fun t2 ht2 => ?_⟩
    have s2 := s1.trans (Same.updf (o := .tup [V.str "tell"]) ht2)
    have ht2 := SqT_up s2 ht
    refine ⟨_, _, Ev.dp ht2, Ev.dp (e := .tell) (SqT.of upd_same), shaped_ev e, shaped_ev .tell, _, rfl, ?_⟩
    rw [eqv_ev]
    by_cases h2 : e = .tell
    · rw [decide_eq_true h2]
      exact iteT (k _ s2)
    rw [decide_eq_false h2]
    refine iteF ⟨_, rfl, .ref t, e.d, 1, 2, rfl, Ev.td 0 ht2, _, rfl, ?_⟩
    cases e with
    | bar => exact absurd rfl h1
    | tell => exact absurd rfl h2
    | wr n =>
      refine iteT ⟨_, rfl, t, _, 0, .str "write", rfl, rfl, ht2, rfl, rfl, _, rfl, ?_⟩
      refine iteT ⟨_, rfl, t, _, 1, .int (n : Int), rfl, rfl, ht2, rfl, .int (n : Int), .int (n : Int), 0, rfl, TD.flat (.int _), ?_⟩
      rw [show cntB (.int (n : Int)) = true from decide_eq_true (show (n : Int) ≥ 0 by omega)]
      exact k _ s2
abbrev s_are_events : Stmt := top 14
abbrev N_are_events : List Str := ["value", "event"]
theorem sc_are_events : FnScope N_are_events ["value"] (defScope s_are_events) := ⟨rfl, rfl, rfl, by decide +kernel, rfl, by decide +kernel, by decide +kernel⟩
theorem ok_are_events {f : Addr} {fd : FuncData} (F : FnP K "are_events" s_are_events f fd) (Z : FreeS mg)
    {f_is_event : Addr} {d_is_event : FuncData} (g_is_event : mg "is_event" = some (.ref f_is_event)) (F_is_event : FnP K "is_event" s_is_event f_is_event d_is_event) (G_is_event : FnOk P w K mg base CX0 3 f_is_event d_is_event ["value"] (spIsEvent K)) :
    FnOk P w K mg base CX0 4 f fd ["value"] (spEvents K) := by
  have b_is_event : Binds K d_is_event ["value"] [] := F_is_event.bindsN fun _ _ _ _ _ _ us hl => match us, hl with | [_], _ => rfl
  refine F.ok sc_are_events (fun vs H Q E h => ?_) (fun cdv A outer s H vs Q E hr h => ?_)
  · obtain ⟨a, es, rfl, _⟩ := h
    rfl
  · obtain ⟨a, es, rfl, hR, k⟩ := h
    obtain ⟨ts, ha, lt, ht⟩ := hR.at_.got
    have l100 := hR.len
    have nd := sc_are_events.nd
    refine ⟨_, PSs.nox (pss_one (ps_ret (pe_and (pe_callB call_isi (by rfl) Z.isi (by decide +kernel) (pa_cons (pv 0) (pa_cons (pe_bltn (v := .ty "list") (by rfl) Z.tlist (by decide +kernel) rfl) pa_nil))) (pe_and (pe_cmpR op_gt (pe_callB call_len_seq (by rfl) Z.len (by decide +kernel) (pa_cons (pv 0) (pa_nil))) (pe_int) (nomark _)) (pe_one (pe_callB (cr_all rfl) (by rfl) Z.all (by decide +kernel) (pa_cons (pe_lc (own := [("event", 1)]) (g := gName 1) (tt := tYes) (te := tCall (spIsEvent K) [] E0 (tCons (tVar 1) (tNil))) (by rfl) nd (pi_list (pv 0))
          (blkOk_by (own := [("event", 1)]) (N := N_are_events) (sc := defScope s_are_events) (by decide +kernel)) (fun _ _ _ _ _ => pg_name (i := 1) nd rfl (Or.inl rfl)) (fun _ _ _ _ _ => pts_nil)
          (fun _ _ _ _ _ => pe_call G_is_event (hr.mono (by decide)) rfl g_is_event F_is_event.kp b_is_event .nil pass0 (pa_cons (pv 1) (pa_nil)))) (pa_nil)))))))), ?_⟩
    refine ⟨_, rfl, .ref a, .ty "list", .type "list", .type "list", true, rfl, .ty _, .base (.lst ha), kit_ty (by decide +kernel), true, rfl, iteT ?_⟩
    refine ⟨_, rfl, a, _, rfl, .inl (SqL.of ha), _, _, rfl, rfl, _, rfl, ?_⟩
    have ln : 0 < es.length := List.length_pos_iff.mpr hR.ne
    refine iteP (by rw [List.length_map]; omega) ?_
    refine ⟨_, rfl, a, rfl, ⟨_, SqL.of ha⟩, fun D hD => ?_⟩
    refine lc_sel (walk_list (K := K) (a := a) (xs := ts.map V.ref)) (fun _ => some (.bl true)) (by rw [List.length_map]; omega) hD (fun H2 s2 => SqL.of (s2 _ _ ha)) ?_ ?_
    · rintro i v H2 H3 Qy Qn hi sH ⟨rfl, hv⟩ ky kn
      rw [List.length_map] at hi
      obtain ⟨t, e1, e2⟩ := ht i (by omega)
      rw [e1] at hv
      obtain rfl : V.ref t = v := Option.some.inj hv
      exact ⟨rfl, _, rfl, t, _, rfl, SqT_up sH e2, fun G s => ky _ _ s rfl⟩
    · intro H2 s2 hR
      obtain ⟨bs, hB, hb⟩ := all_bits (K := K) hR
      refine ⟨D, bs, rfl, hB, ?_⟩
      rw [hb]
      exact k _ s2
abbrev s_need_run : Stmt := top 15
abbrev N_need_run : List Str := ["run"]
theorem sc_need_run : FnScope N_need_run ["run"] (defScope s_need_run) := ⟨rfl, rfl, rfl, by decide +kernel, rfl, by decide +kernel, by decide +kernel⟩
theorem ok_need_run {f : Addr} {fd : FuncData} (F : FnP K "need_run" s_need_run f fd) (Z : FreeS mg)
    {f_are_events : Addr} {d_are_events : FuncData} (g_are_events : mg "are_events" = some (.ref f_are_events)) (F_are_events : FnP K "are_events" s_are_events f_are_events d_are_events) (G_are_events : FnOk P w K mg base CX0 4 f_are_events d_are_events ["value"] (spEvents K)) :
    FnOk P w K mg base CX0 5 f fd ["run"] (spNeedRun K) := by
  have b_are_events : Binds K d_are_events ["value"] [] := F_are_events.bindsN fun _ _ _ _ _ _ us hl => match us, hl with | [_], _ => rfl
  refine F.ok sc_need_run (fun vs H Q E h => ?_) (fun cdv A outer s H vs Q E hr h => ?_)
  · obtain ⟨a, es, rfl, _⟩ := h
    rfl
  · obtain ⟨a, es, rfl, hR, k⟩ := h
    have nd := sc_need_run.nd
    refine ⟨_, PSs.nox (pss_one (ps_if (pt_not (pt_val (pe_call G_are_events (hr.mono (by decide)) rfl g_are_events F_are_events.kp b_are_events .nil pass0 (pa_cons (pv 0) (pa_nil))))) (pss_one (ps_dead)) (pss_nil))), ?_⟩
    exact ⟨_, rfl, a, es, rfl, hR, fun H1 s1 => ⟨true, rfl, iteF (k H1 s1)⟩⟩
abbrev s_is_wait_of : Stmt := top 16
abbrev N_is_wait_of : List Str := ["run", "value", "early", "late", "place"]
theorem sc_is_wait_of : FnScope N_is_wait_of ["run", "value"] (defScope s_is_wait_of) := ⟨rfl, rfl, rfl, by decide +kernel, rfl, by decide +kernel, by decide +kernel⟩
theorem ok_is_wait_of {f : Addr} {fd : FuncData} (F : FnP K "is_wait_of" s_is_wait_of f fd) (Z : FreeS mg)
    {f_is_tuple_of : Addr} {d_is_tuple_of : FuncData} (g_is_tuple_of : mg "is_tuple_of" = some (.ref f_is_tuple_of)) (F_is_tuple_of : FnP K "is_tuple_of" s_is_tuple_of f_is_tuple_of d_is_tuple_of) (G_is_tuple_of : FnOk P w K mg base CX0 1 f_is_tuple_of d_is_tuple_of ["value", "length"] (spTupOf K))
    {f_is_count_below : Addr} {d_is_count_below : FuncData} (g_is_count_below : mg "is_count_below" = some (.ref f_is_count_below)) (F_is_count_below : FnP K "is_count_below" s_is_count_below f_is_count_below d_is_count_below) (G_is_count_below : FnOk P w K mg base CX0 3 f_is_count_below d_is_count_below ["value", "bound"] (spBelow K)) :
    FnOk P w K mg base CX0 4 f fd ["run", "value"] (spIsWait K) := by
  have b_is_tuple_of : Binds K d_is_tuple_of ["value", "length"] [] := F_is_tuple_of.bindsN fun _ _ _ _ _ _ us hl => match us, hl with | [_, _], _ => rfl
  have b_is_count_below : Binds K d_is_count_below ["value", "bound"] [] := F_is_count_below.bindsN fun _ _ _ _ _ _ us hl => match us, hl with | [_, _], _ => rfl
  refine F.ok sc_is_wait_of (fun vs H Q E h => ?_) (fun cdv A outer s H vs Q E hr h => ?_)
  · obtain ⟨a, x, es, d, m, rfl, _⟩ := h
    rfl
  · obtain ⟨a, x, es, d, m, rfl, hR, hx, k⟩ := h
    obtain ⟨ts, ha, lt, ht⟩ := hR.at_.got
    have l100 := hR.len
    have sl : (3000 : Nat) ≤ sizeLine := by decide
    have nd := sc_is_wait_of.nd
    refine ⟨_, PSs.nox (pss_cons (ps_if (PW.pt (pw_or (pt_not (pt_val (pe_call G_is_tuple_of (hr.mono (by decide)) rfl g_is_tuple_of F_is_tuple_of.kp b_is_tuple_of .nil pass0 (pa_cons (pv 1) (pa_cons (pe_int) (pa_nil)))))) (pw_or1 (pt_not (pt_val (pe_callB (cr_all rfl) (by rfl) Z.all (by decide +kernel) (pa_cons (pe_lc (own := [("place", 4)]) (g := gName 4) (tt := tYes) (te := tCall (spBelow K) [] E0 (tCons (tVar 4) (tCons (tCB (rLenK K) (tCons (tVar 0) (tNil))) (tNil)))) (by rfl) nd (pi_tup (pv 1))
          (blkOk_by (own := [("place", 4)]) (N := N_is_wait_of) (sc := defScope s_is_wait_of) (by decide +kernel)) (fun _ _ _ _ _ => pg_name (i := 4) nd rfl (Or.inl rfl)) (fun _ _ _ _ _ => pts_nil)
          (fun _ _ _ _ _ => pe_call G_is_count_below (hr.mono (by decide)) rfl g_is_count_below F_is_count_below.kp b_is_count_below .nil pass0 (pa_cons (pv 4) (pa_cons (pe_callB call_len_seq (by rfl) Z.len (by decide +kernel) (pa_cons (pv 0) (pa_nil))) (pa_nil))))) (pa_nil)))))))) (pss_one (ps_ret (pe_bl))) (pss_nil))
      (pss_cons (ps_asg (pv 1) (pg_tup rfl (pgs_cons (pg_name (i := 2) nd rfl (Or.inl rfl)) (pgs_cons (pg_name (i := 3) nd rfl (Or.inl rfl)) (pgs_nil)))))
      (pss_cons (ps_if (PW.pt (pw_or (pt_cmpR op_ge (pv 2) (pv 3) (nomark _)) (pw_or1 (pt_cmpR op_ne (pe_ix ix_tup (pe_ix ix_list (pv 0) (pv 2) (fun _ _ => rfl)) (pe_int) (fun _ _ => rfl)) (pe_str) (nomark _))))) (pss_one (ps_ret (pe_bl))) (pss_nil))
      (pss_one (ps_ret (pe_or (pe_cmpR op_eq (pe_ix ix_tup (pe_ix ix_list (pv 0) (pv 3) (fun _ _ => rfl)) (pe_int) (fun _ _ => rfl)) (pe_str) (nomark _)) (pe_one (pe_and (pe_cmpR op_eq (pe_ix ix_tup (pe_ix ix_list (pv 0) (pv 3) (fun _ _ => rfl)) (pe_int) (fun _ _ => rfl)) (pe_str) (nomark _)) (pe_one (pe_cmpR op_ne (pe_ix ix_tup (pe_ix ix_list (pv 0) (pv 3) (fun _ _ => rfl)) (pe_int) (fun _ _ => rfl)) (pe_ix ix_tup (pe_ix ix_list (pv 0) (pv 2) (fun _ _ => rfl)) (pe_int) (fun _ _ => rfl)) (nomark _))))))))))), ?_⟩
    refine ⟨_, rfl, x, d, m, 2, rfl, hx, _, rfl, ?_⟩
    cases qt : tupB 2 d with
    | false =>
      have e : waitB es d = false := by
        cases q : waitB es d with
        | false => rfl
        | true =>
          obtain ⟨w, rfl, _⟩ := waitB_iff.mp q
          cases qt
      rw [e] at k
      exact iteT (iteT (k H (Same.refl _)))
    | true =>
    obtain ⟨t, x1, x2, d1, d2, m', rfl, hw, rfl, t1, t2⟩ := td_tup2 hx qt
    rw [waitB_two] at k
    refine iteF ?_
    refine ⟨_, rfl, t, rfl, ⟨_, hw⟩, fun D hD => ?_⟩
    refine lc_sel (walk_tup (K := K) (a := t) (xs := [x1, x2])) (fun i => some (.bl (belB es.length ([d1, d2].getD i .none)))) (by show 2 ≤ 100000; decide) hD (fun H2 s2 => SqT_up s2 hw) ?_ ?_
    · rintro i v H2 H3 Qy Qn hi sH ⟨rfl, hv⟩ ky kn
      obtain ⟨e, he, tde⟩ : ∃ e, [d1, d2].getD i .none = e ∧ TD K H m' v e := by
        match i with
        | 0 => cases hv; exact ⟨d1, rfl, t1⟩
        | 1 => cases hv; exact ⟨d2, rfl, t2⟩
        | i + 2 => simp at hv
      rw [he] at ky
      exact ⟨rfl, _, rfl, _, rfl, a, _, rfl, .inl (SqL.of (sH _ _ ha)), v, e, m', es.length, (by rw [List.length_map, lt]; rfl), tde.same sH, ky _ _ (Same.refl _) rfl⟩
    · intro H2 s2 hR2
      have hB := all_bl' (K := K) hR2
      refine ⟨D, _, rfl, hB, ?_⟩
      have eb : (((List.range [x1, x2].length).map fun i => belB es.length ([d1, d2].getD i .none)).all id) = (belB es.length d1 && (belB es.length d2 && true)) := rfl
      rw [eb]
      cases q1 : belB es.length d1 with
      | false =>
        rw [q1] at k
        exact ⟨_, rfl, iteT (k _ s2)⟩
      | true =>
      cases q2 : belB es.length d2 with
      | false =>
        rw [q1, q2] at k
        exact ⟨_, rfl, iteT (k _ s2)⟩
      | true =>
      rw [q1, q2] at k
      refine ⟨_, rfl, iteF ?_⟩
      obtain ⟨i, rfl, hi⟩ := belB_iff.mp q1
      obtain ⟨j, rfl, hj⟩ := belB_iff.mp q2
      obtain rfl := td_int t1
      obtain rfl := td_int t2
      have k : ∀ H', Same H H' → Q (.bl (waitN es i j)) H' := k
      have hw2 := SqT_up s2 hw
      have ha2 := s2 _ _ ha
      refine ⟨_, rfl, t, [_, _], rfl, hw2, rfl, _, [_], rfl, _, [], rfl, rfl, ?_⟩
      obtain ⟨u1, a1, x1⟩ := ht i hi
      obtain ⟨u2, a2, x2⟩ := ht j hj
      have y1 := SqT_up s2 x1
      have y2 := SqT_up s2 x2
      have k1 := k _ s2
      unfold waitN at k1
      rw [List.getElem?_eq_getElem hi, List.getElem?_eq_getElem hj] at k1
      refine ⟨_, rfl, _, rfl, _, _, rfl, rfl, _, rfl, ?_⟩
      by_cases c : i < j
      · rw [decide_eq_true c] at k1
        refine iteQ (by omega) ?_
        cases e1 : es[i] with
        | bar =>
          rw [e1] at y1 k1
          exact ⟨_, rfl, _, rfl, a, _, (i : Int), _, rfl, rfl, SqL.of ha2, atI_nat a1, u1, _, 0, _, rfl, rfl, y1, rfl, rfl, _, rfl, iteT k1⟩
        | tell =>
          rw [e1] at y1 k1
          exact ⟨_, rfl, _, rfl, a, _, (i : Int), _, rfl, rfl, SqL.of ha2, atI_nat a1, u1, _, 0, _, rfl, rfl, y1, rfl, rfl, _, rfl, iteT k1⟩
        | wr c0 =>
          rw [e1] at y1 k1
          refine ⟨_, rfl, _, rfl, a, _, (i : Int), _, rfl, rfl, SqL.of ha2, atI_nat a1, u1, _, 0, _, rfl, rfl, y1, rfl, rfl, _, rfl, iteF ?_⟩
          cases e2 : es[j] with
          | bar =>
            rw [e2] at y2 k1
            refine ⟨_, rfl, _, rfl, a, _, (j : Int), _, rfl, rfl, SqL.of ha2, atI_nat a2, u2, _, 0, _, rfl, rfl, y2, rfl, rfl, _, rfl, iteF ?_⟩
            exact ⟨_, rfl, _, rfl, a, _, (j : Int), _, rfl, rfl, SqL.of ha2, atI_nat a2, u2, _, 0, _, rfl, rfl, y2, rfl, rfl, _, rfl, iteF k1⟩
          | tell =>
            rw [e2] at y2 k1
            exact ⟨_, rfl, _, rfl, a, _, (j : Int), _, rfl, rfl, SqL.of ha2, atI_nat a2, u2, _, 0, _, rfl, rfl, y2, rfl, rfl, _, rfl, iteT k1⟩
          | wr c' =>
            rw [e2] at y2 k1
            refine ⟨_, rfl, _, rfl, a, _, (j : Int), _, rfl, rfl, SqL.of ha2, atI_nat a2, u2, _, 0, _, rfl, rfl, y2, rfl, rfl, _, rfl, iteF ?_⟩
            refine ⟨_, rfl, _, rfl, a, _, (j : Int), _, rfl, rfl, SqL.of ha2, atI_nat a2, u2, _, 0, _, rfl, rfl, y2, rfl, rfl, _, rfl, iteT ?_⟩
            refine ⟨_, rfl, _, rfl, a, _, (j : Int), _, rfl, rfl, SqL.of ha2, atI_nat a2, u2, _, 1, _, rfl, rfl, y2, rfl, ?_⟩
            refine ⟨_, rfl, _, rfl, a, _, (i : Int), _, rfl, rfl, SqL.of ha2, atI_nat a1, u1, _, 1, _, rfl, rfl, y1, rfl, rfl, ?_⟩
            have ee : (!decide (V.int (c' : Int) = V.int (c0 : Int))) = decide (c' ≠ c0) := by
              by_cases z : c' = c0
              · rw [z]
                simp
              · rw [decide_eq_true z, decide_eq_false (fun y => z (by have := V.int.inj y; omega))]
                rfl
            rw [ee]
            exact k1
      · rw [decide_eq_false c] at k1
        exact iteP (by omega) (iteT k1)
abbrev s_are_waits_of : Stmt := top 17
abbrev N_are_waits_of : List Str := ["run", "value", "wait"]
theorem sc_are_waits_of : FnScope N_are_waits_of ["run", "value"] (defScope s_are_waits_of) := ⟨rfl, rfl, rfl, by decide +kernel, rfl, by decide +kernel, by decide +kernel⟩
theorem ok_are_waits_of {f : Addr} {fd : FuncData} (F : FnP K "are_waits_of" s_are_waits_of f fd) (Z : FreeS mg)
    {f_ascends : Addr} {d_ascends : FuncData} (g_ascends : mg "ascends" = some (.ref f_ascends)) (F_ascends : FnP K "ascends" s_ascends f_ascends d_ascends) (G_ascends : FnOk P w K mg base CX0 1 f_ascends d_ascends ["values"] (spAsc K))
    {f_is_wait_of : Addr} {d_is_wait_of : FuncData} (g_is_wait_of : mg "is_wait_of" = some (.ref f_is_wait_of)) (F_is_wait_of : FnP K "is_wait_of" s_is_wait_of f_is_wait_of d_is_wait_of) (G_is_wait_of : FnOk P w K mg base CX0 4 f_is_wait_of d_is_wait_of ["run", "value"] (spIsWait K)) :
    FnOk P w K mg base CX0 5 f fd ["run", "value"] (spWaits K) := by
  have b_ascends : Binds K d_ascends ["values"] [] := F_ascends.bindsN fun _ _ _ _ _ _ us hl => match us, hl with | [_], _ => rfl
  have b_is_wait_of : Binds K d_is_wait_of ["run", "value"] [] := F_is_wait_of.bindsN fun _ _ _ _ _ _ us hl => match us, hl with | [_, _], _ => rfl
  refine F.ok sc_are_waits_of (fun vs H Q E h => ?_) (fun cdv A outer s H vs Q E hr h => ?_)
  · obtain ⟨a, x, es, d, m, rfl, _⟩ := h
    rfl
  · obtain ⟨a, x, es, d, m, rfl, hR, hx, k⟩ := h
    have nd := sc_are_waits_of.nd
    refine ⟨_, PSs.nox (pss_one (ps_ret (pe_and (pe_callB call_isi (by rfl) Z.isi (by decide +kernel) (pa_cons (pv 1) (pa_cons (pe_bltn (v := .ty "list") (by rfl) Z.tlist (by decide +kernel) rfl) pa_nil))) (pe_and (pe_callB (cr_all rfl) (by rfl) Z.all (by decide +kernel) (pa_cons (pe_lc (own := [("wait", 2)]) (g := gName 2) (tt := tYes) (te := tCall (spIsWait K) [] E0 (tCons (tVar 0) (tCons (tVar 2) (tNil)))) (by rfl) nd (pi_list (pv 1))
          (blkOk_by (own := [("wait", 2)]) (N := N_are_waits_of) (sc := defScope s_are_waits_of) (by decide +kernel)) (fun _ _ _ _ _ => pg_name (i := 2) nd rfl (Or.inl rfl)) (fun _ _ _ _ _ => pts_nil)
          (fun _ _ _ _ _ => pe_call G_is_wait_of (hr.mono (by decide)) rfl g_is_wait_of F_is_wait_of.kp b_is_wait_of .nil pass0 (pa_cons (pv 0) (pa_cons (pv 2) (pa_nil))))) (pa_nil))) (pe_one (pe_call G_ascends (hr.mono (by decide)) rfl g_ascends F_ascends.kp b_ascends .nil pass0 (pa_cons (pv 1) (pa_nil)))))))), ?_⟩
    rcases td_cs hx with ⟨rfl, rfl⟩ | ⟨b, rfl, rfl⟩ | ⟨i, rfl, rfl⟩ | ⟨z, rfl, rfl⟩ | ⟨b, xs, ds, rfl, hb, rfl, lx, l1, kx⟩ | ⟨b, xs, ds, rfl, hb, rfl, _⟩ | ⟨b, ps, m, rfl, hb, rfl⟩
    · exact ⟨_, rfl, _, .ty "list", .type "NoneType", .type "list", false, rfl, .ty _, .base .non, kit_ty (by decide +kernel), false, rfl, iteF (k H (Same.refl _))⟩
    · exact ⟨_, rfl, _, .ty "list", .type "bool", .type "list", false, rfl, .ty _, .base (.bl b), kit_ty (by decide +kernel), false, rfl, iteF (k H (Same.refl _))⟩
    · exact ⟨_, rfl, _, .ty "list", .type "int", .type "list", false, rfl, .ty _, .base (.int i), kit_ty (by decide +kernel), false, rfl, iteF (k H (Same.refl _))⟩
    · exact ⟨_, rfl, _, .ty "list", .type "str", .type "list", false, rfl, .ty _, .base (.str z), kit_ty (by decide +kernel), false, rfl, iteF (k H (Same.refl _))⟩
    · refine ⟨_, rfl, .ref b, .ty "list", .type "list", .type "list", true, rfl, .ty _, .base (.lst hb), kit_ty (by decide +kernel), true, rfl, iteT ?_⟩
      refine ⟨_, rfl, b, rfl, ⟨_, SqL.of hb⟩, fun D hD => ?_⟩
      refine lc_sel (n := ds.length) (by have := walk_list (K := K) (a := b) (xs := xs); rw [lx] at this; exact this) (fun i => some (.bl (waitB es (ds.getD i .none)))) (by omega) hD (fun H2 s2 => SqL.of (s2 _ _ hb)) ?_ ?_
      · rintro i v H2 H3 Qy Qn hi sH ⟨rfl, hv⟩ ky kn
        have ed : ds[i]? = some (ds.getD i .none) := by
          rw [List.getD_eq_getElem?_getD, List.getElem?_eq_getElem hi]
          rfl
        exact ⟨rfl, _, rfl, _, rfl, a, v, es, _, m - 1, rfl, hR.same sH, (kx i v _ hv ed).same sH, fun G s => ky _ _ s rfl⟩
      · intro H2 s2 hR2
        have hB := all_bl' (K := K) hR2
        refine ⟨D, _, rfl, hB, ?_⟩
        have eb : (((List.range ds.length).map fun i => waitB es (ds.getD i .none)).all id) = ds.all (waitB es) := by
          rw [List.all_map, Bool.eq_iff_iff, List.all_eq_true, List.all_eq_true]
          constructor
          · intro h e he
            obtain ⟨i, hi, rfl⟩ := List.getElem_of_mem he
            have := h i (List.mem_range.mpr hi)
            rw [show (id ∘ fun i => waitB es (ds.getD i .none)) i = waitB es (ds.getD i .none) from rfl, List.getD_eq_getElem?_getD, List.getElem?_eq_getElem hi] at this
            exact this
          · intro h i hi
            have hi := List.mem_range.mp hi
            show waitB es (ds.getD i .none) = true
            rw [List.getD_eq_getElem?_getD, List.getElem?_eq_getElem hi]
            exact h _ (List.getElem_mem hi)
        rw [eb]
        have ew : waitsB es (.list ds) = (ds.all (waitB es) && ascB (ds.map toW)) := rfl
        cases qa : ds.all (waitB es) with
        | false =>
          rw [ew, qa, Bool.false_and] at k
          exact ⟨_, rfl, iteF (k _ s2)⟩
        | true =>
          rw [ew, qa, Bool.true_and] at k
          have hW : WtAt K H2 b (ds.map toW) := by
            refine LsT.of_paired (s2 _ _ hb) (paired_of (by rw [List.length_map, lx]) fun i w v e1 e2 => ?_)
            rw [List.getElem?_map] at e1
            obtain ⟨e, q1, rfl⟩ := Option.map_eq_some_iff.mp e1
            have td := (kx i v e e2 q1).same s2
            obtain ⟨w, rfl, ok⟩ := waitB_iff.mp (List.all_eq_true.mp qa e (List.mem_of_getElem? q1))
            obtain ⟨t, x1, x2, d1, d2, m', rfl, hq, e3, t1, t2⟩ := td_tup2 td rfl
            have e4 := PyData.tuple.inj e3
            obtain ⟨r1, r2⟩ := List.cons.inj e4
            obtain ⟨r2, _⟩ := List.cons.inj r2
            subst r1
            subst r2
            obtain rfl := td_int t1
            obtain rfl := td_int t2
            exact ⟨t, rfl, hq⟩
          exact ⟨_, rfl, iteT ⟨_, rfl, b, _, rfl, .inr ⟨ds.map toW, hW, by rw [List.length_map]; omega, rfl⟩, fun H3 s3 => k H3 (s2.trans s3)⟩⟩
    · exact ⟨_, rfl, _, .ty "list", .type "tuple", .type "list", false, rfl, .ty _, sqT_ty hb, kit_ty (by decide +kernel), false, rfl, iteF (k H (Same.refl _))⟩
    · exact ⟨_, rfl, _, .ty "list", .type "dict", .type "list", false, rfl, .ty _, .base (.dK hb), kit_ty (by decide +kernel), false, rfl, iteF (k H (Same.refl _))⟩
abbrev s_need_waits : Stmt := top 18
abbrev N_need_waits : List Str := ["run", "waits"]
theorem sc_need_waits : FnScope N_need_waits ["run", "waits"] (defScope s_need_waits) := ⟨rfl, rfl, rfl, by decide +kernel, rfl, by decide +kernel, by decide +kernel⟩
theorem ok_need_waits {f : Addr} {fd : FuncData} (F : FnP K "need_waits" s_need_waits f fd) (Z : FreeS mg)
    {f_are_waits_of : Addr} {d_are_waits_of : FuncData} (g_are_waits_of : mg "are_waits_of" = some (.ref f_are_waits_of)) (F_are_waits_of : FnP K "are_waits_of" s_are_waits_of f_are_waits_of d_are_waits_of) (G_are_waits_of : FnOk P w K mg base CX0 5 f_are_waits_of d_are_waits_of ["run", "value"] (spWaits K)) :
    FnOk P w K mg base CX0 6 f fd ["run", "waits"] (spNeedWaits K) := by
  have b_are_waits_of : Binds K d_are_waits_of ["run", "value"] [] := F_are_waits_of.bindsN fun _ _ _ _ _ _ us hl => match us, hl with | [_, _], _ => rfl
  refine F.ok sc_need_waits (fun vs H Q E h => ?_) (fun cdv A outer s H vs Q E hr h => ?_)
  · obtain ⟨a, b, es, ws, rfl, _⟩ := h
    rfl
  · obtain ⟨a, b, es, ws, rfl, hR, hW, k⟩ := h
    have nd := sc_need_waits.nd
    refine ⟨_, PSs.nox (pss_one (ps_if (pt_not (pt_val (pe_call G_are_waits_of (hr.mono (by decide)) rfl g_are_waits_of F_are_waits_of.kp b_are_waits_of .nil pass0 (pa_cons (pv 0) (pa_cons (pv 1) (pa_nil)))))) (pss_one (ps_dead)) (pss_nil))), ?_⟩
    refine ⟨_, rfl, _, rfl, a, .ref b, es, .list (ws.map pd), 2, rfl, hR, wts_td 0 hW.at_ hW.len, fun H1 s1 => ⟨true, ?_, iteF (k H1 s1)⟩⟩
    rw [waitsB_of hW.ok]
abbrev s_barriers_ahead : Stmt := top 19
abbrev N_barriers_ahead : List Str := ["run", "found", "many", "event"]
theorem sc_barriers_ahead : FnScope N_barriers_ahead ["run"] (defScope s_barriers_ahead) := ⟨rfl, rfl, rfl, by decide +kernel, rfl, by decide +kernel, by decide +kernel⟩
theorem ok_barriers_ahead {f : Addr} {fd : FuncData} (F : FnP K "barriers_ahead" s_barriers_ahead f fd) (Z : FreeS mg) :
    FnOk P w K mg base CX0 1 f fd ["run"] (spAhead K) := by
  refine F.ok sc_barriers_ahead (fun vs H Q E h => ?_) (fun cdv A outer s H vs Q E hr h => ?_)
  · obtain ⟨a, es, rfl, _⟩ := h
    rfl
  · obtain ⟨a, es, rfl, hR, k⟩ := h
    obtain ⟨ts, ha, lt, ht⟩ := hR.at_.got
    have l100 := hR.len
    have sl : (3000 : Nat) ≤ sizeLine := by decide
    have nd := sc_barriers_ahead.nd
    refine ⟨_, PSs.nox (pss_cons (ps_set (i := 1) nd rfl (Or.inl rfl) (pe_lst (pa_nil)))
      (pss_cons (ps_set (i := 2) nd rfl (Or.inl rfl) (pe_int))
      (pss_cons (ps_for PassesOwn.never rfl (pi_list (pv 0)) (pg_name (i := 3) nd rfl (Or.inl rfl))
        (pss_cons (ps_expr (pe_bm PySem.F.plainAttrs_list PySem.F.slot_list_append PySem.F.type_list_append mt_append (pv 1) (pa_cons (pv 2) (pa_nil))))
      (pss_one (ps_if (pt_cmpR (op_eqD hr.units) (pv 3) (pe_tup (pa_cons (pe_str) (pa_nil))) (nomark _)) (pss_one (ps_set (i := 2) nd rfl (Or.inl rfl) (pe_op op_add (pv 2) (pe_int)))) (pss_nil)))))
      (pss_one (ps_ret (pv 1)))))), ?_⟩
    refine ⟨(by show 0 ≤ sizeLine; omega), fun q hq => ?_⟩
    have s1 := Same.updf (o := .lst []) hq
    refine ⟨_, rfl, a, rfl, ⟨_, SqL.of (s1 _ _ ha)⟩, ?_⟩
    refine for_list (xs := ts.map V.ref) (fun i σ G => Same H G ∧ G q = some (.lst (numsV ((List.range i).map (ahead es)))) ∧ ∃ v3, σ = [some (.ref a), some (.ref q), some (.int (ahead es i : Int)), v3])
      ⟨s1, upd_same, none, rfl⟩ (fun i σ G _ hh => SqL.of (hh.1 _ _ ha)) ?_ ?_
    · rintro i y σ G hy ⟨sG, hqG, v3, rfl⟩
      have hi : i < es.length := by
        have := (List.getElem?_eq_some_iff.mp hy).1
        rw [List.length_map] at this
        omega
      obtain ⟨t, e1, e2⟩ := ht i hi
      rw [e1] at hy
      obtain rfl : V.ref t = y := Option.some.inj hy
      refine ⟨_, rfl, Or.inl ⟨rfl, _, SqL.of hqG⟩, _, rfl, q, _, _, rfl, rfl, hqG, (by unfold numsV; rw [List.length_map, List.length_map, List.length_range]; omega), ?_⟩
      obtain ⟨G1, eG⟩ : ∃ X, X = upd G q (.lst (numsV ((List.range i).map (ahead es)) ++ [.int (ahead es i : Int)])) := ⟨_, rfl⟩
      have sG1 : Same H G1 := fun c o e => by
        rw [eG, upd_ne (ne_of_none e hq)]
        exact sG _ _ e
      have hq1 : G1 q = some (.lst (numsV ((List.range (i + 1)).map (ahead es)))) := by
        rw [eG, upd_same, List.range_succ]
        unfold numsV
        rw [List.map_append, List.map_append]
        rfl
      rw [← eG]
      clear eG
      refine ⟨_, rfl, (by show 1 ≤ sizeLine; omega), fun t1 ht1 => ?_⟩
      have sT := Same.updf (o := .tup [V.str "barrier"]) ht1
      refine ⟨_, _, Ev.dp (SqT_up (sG1.trans sT) e2), Ev.dp (e := .bar) (SqT.of upd_same), shaped_ev _, shaped_ev .bar, _, rfl, ?_⟩
      rw [eqv_ev]
      have ea := ahead_succ es i
      have eb : isB es i = decide (es[i] = .bar) := by
        unfold isB
        rw [List.getElem?_eq_getElem hi, decide_eq_decide]
        exact ⟨fun z => Option.some.inj z, fun z => by rw [z]⟩
      rw [eb] at ea
      by_cases h : es[i] = .bar
      · rw [decide_eq_true h] at ea ⊢
        refine iteT ⟨_, rfl, _, _, rfl, rfl, sG1.trans sT, sT _ _ hq1, some (V.ref t), ?_⟩
        rw [ea]
        rfl
      · rw [decide_eq_false h] at ea ⊢
        refine iteF ⟨sG1.trans sT, sT _ _ hq1, some (V.ref t), ?_⟩
        rw [ea]
        rfl
    · rintro σ G ⟨sG, hqG, v3, rfl⟩
      rw [List.length_map, lt] at hqG
      exact ⟨_, rfl, k q G sG hq hqG⟩
abbrev s_broken_waits : Stmt := top 20
abbrev N_broken_waits : List Str := ["run", "waits", "ahead", "early", "late"]
theorem sc_broken_waits : FnScope N_broken_waits ["run", "waits"] (defScope s_broken_waits) := ⟨rfl, rfl, rfl, by decide +kernel, rfl, by decide +kernel, by decide +kernel⟩
theorem ok_broken_waits {f : Addr} {fd : FuncData} (F : FnP K "broken_waits" s_broken_waits f fd) (Z : FreeS mg)
    {f_barriers_ahead : Addr} {d_barriers_ahead : FuncData} (g_barriers_ahead : mg "barriers_ahead" = some (.ref f_barriers_ahead)) (F_barriers_ahead : FnP K "barriers_ahead" s_barriers_ahead f_barriers_ahead d_barriers_ahead) (G_barriers_ahead : FnOk P w K mg base CX0 1 f_barriers_ahead d_barriers_ahead ["run"] (spAhead K)) :
    FnOk P w K mg base CX0 2 f fd ["run", "waits"] (spBrokenW K) := by
  have b_barriers_ahead : Binds K d_barriers_ahead ["run"] [] := F_barriers_ahead.bindsN fun _ _ _ _ _ _ us hl => match us, hl with | [_], _ => rfl
  refine F.ok sc_broken_waits (fun vs H Q E h => ?_) (fun cdv A outer s H vs Q E hr h => ?_)
  · obtain ⟨a, b, es, ws, rfl, _⟩ := h
    rfl
  · obtain ⟨a, b, es, ws, rfl, hR, hW, k⟩ := h
    obtain ⟨ts, hb, lt, ht⟩ := hW.at_.got
    have l1000 := hW.len
    have sl : (3000 : Nat) ≤ sizeLine := by decide
    have nd := sc_broken_waits.nd
    refine ⟨_, PSs.nox (pss_cons (ps_set (i := 2) nd rfl (Or.inr rfl) (pe_call G_barriers_ahead (hr.mono (by decide)) rfl g_barriers_ahead F_barriers_ahead.kp b_barriers_ahead .nil pass0 (pa_cons (pv 0) (pa_nil))))
      (pss_one (ps_ret (pe_lc (own := [("early", 3), ("late", 4)]) (g := gTup K 2 (gCons (gName 3) (gCons (gName 4) (gNil)))) (tt := tTest (tOp rEq (tOp (rIxL K) (tVar 2) (tVar 3)) (tOp (rIxL K) (tVar 2) (tVar 4)))) (te := tTup (tCons (tVar 3) (tCons (tVar 4) (tNil)))) (by rfl) nd (pi_list (pv 1))
          (blkOk_by (own := [("early", 3), ("late", 4)]) (N := N_broken_waits) (sc := defScope s_broken_waits) (by decide +kernel)) (fun _ _ _ _ _ => pg_tup rfl (pgs_cons (pg_name (i := 3) nd rfl (Or.inl rfl)) (pgs_cons (pg_name (i := 4) nd rfl (Or.inl rfl)) (pgs_nil)))) (fun _ _ _ _ _ => pts_one (pt_cmpR op_eq (pe_ix ix_list (pv 2) (pv 3) (fun _ _ => rfl)) (pe_ix ix_list (pv 2) (pv 4) (fun _ _ => rfl)) (nomark _)))
          (fun _ _ _ _ _ => pe_tup (pa_cons (pv 3) (pa_cons (pv 4) (pa_nil)))))))), ?_⟩
    refine ⟨_, rfl, a, es, rfl, hR, fun q G sG nq hq => ?_⟩
    refine ⟨_, rfl, b, rfl, ⟨_, SqL.of (sG _ _ hb)⟩, fun D hD => ?_⟩
    refine lc_rel (n := ws.length) (by have := walk_list (K := K) (a := b) (xs := ts.map V.ref); rw [List.length_map, lt] at this; exact this) (fun i => (fun w => decide (ahead es w.1 = ahead es w.2)) (ws.getD i (0, 0))) (fun i y G => ∃ t, y = .ref t ∧ SqT K G t (wv (ws.getD i (0, 0)))) (fun i y G G' s ⟨t, e, h⟩ => ⟨t, e, SqT_up s h⟩) (by omega) hD (fun G2 s => SqL.of (s _ _ (sG _ _ hb))) ?_ ?_
    · rintro i v H2 H3 Qy Qn hi sH hacc ⟨rfl, hv⟩ ky kn
      obtain ⟨t, e1, e2⟩ := ht i hi
      rw [e1] at hv
      obtain rfl : V.ref t = v := Option.some.inj hv
      have ew : ws.getD i (0, 0) = ws[i] := by
        rw [List.getD_eq_getElem?_getD, List.getElem?_eq_getElem hi]
        rfl
      have ok := hW.ok.ok _ (List.getElem_mem hi)
      have l1 := ok.lt
      have l2 := ok.len
      have hw := SqT_up (sG.trans sH) e2
      dsimp only at ky kn
      rw [ew] at ky kn
      refine ⟨t, [_, _], rfl, hw, rfl, _, [_], rfl, _, [], rfl, rfl, ?_⟩
      refine ⟨rfl, _, rfl, _, rfl, q, _, _, _, rfl, rfl, SqL.of (sH _ _ hq), atI_nat (ahead_at (by omega)), _, rfl, _, rfl, q, _, _, _, rfl, rfl, SqL.of (sH _ _ hq), atI_nat (ahead_at l2), ?_⟩
      by_cases c : ahead es ws[i].1 = ahead es ws[i].2
      · refine ⟨rfl, _, rfl, iteP (by first | omega | rw [c]) ?_⟩
        refine ⟨_, rfl, _, rfl, (by show 2 ≤ sizeLine; omega), fun T hT => ?_⟩
        obtain ⟨acc, hacc⟩ := hacc
        refine ky _ _ (decide_eq_true c) (Same.updf hT) ⟨T, rfl, ?_⟩
        exact SqT.of (by rw [off_at (fun z => by rw [z, hacc] at hT; cases hT)]; exact upd_same)
      · exact ⟨rfl, _, rfl, iteQ (by first | omega | (intro z; have := V.int.inj z; omega)) (kn _ (decide_eq_false c) (Same.refl _))⟩
    · intro H2 ys s2 hys py
      exact k D H2 (sG.trans s2) (none_back sG hD) (LsT.of_paired hys (paired_mono (fun x y ⟨t, e, h⟩ => ⟨t, e, SqT_up (off_le _ _) h⟩) (paired_selG (R := fun x y => ∃ t, y = .ref t ∧ SqT K (off H2 D) t (wv x)) py)))
end
end K17
set_option Elab.async false
set_option linter.all false
set_option maxRecDepth 100000
set_option maxHeartbeats 4000000
/-! sorted(xs, key=lambda y: y[n]), as a rule: the keys told item by item. -/
namespace KLam
open PySem PySem.Spec PyProof.Rows L2 LamX
/-- the wish: T: the tables of code objects -/
def tSortLamP (T : List (Addr × Str)) (K : PySem.W.Frag) (n : Int) (te : TE) : TE := fun σ H Q => te σ H fun x H1 => Tabs T H1 ∧ ∃ (a : Addr) (ps : List (V × Int)), x = .ref a ∧ SqL K H1 a (ps.map Prod.fst) ∧
  (∀ p ∈ ps, ∃ (t : Addr) (zs : List V), p.1 = .ref t ∧ SqT K H1 t zs ∧ atI zs n = some (.int p.2)) ∧
  ∀ H2 p, ExtN H1 H2 → Tabs T H2 → H2 p = none → Q (.ref p) (upd H2 p (.lst ((ps.mergeSort fun u v => decide (u.2 ≤ v.2)).map Prod.fst)))
section
variable {X : Cx}
theorem pe_sortedLamP {T : List (Addr × Str)} {c P : Addr} {params : Arguments} {scope : Scope} {y : Str} {n : Int} {kk j : Nat} {e : Expr} {te : TE} {p p1 p2 p3 lpos kpos pos : Pos} (he : PE X e te)
    (hgs : Gl X "sorted") (hm : X.mg "sorted" = none)
    (TB : TabB X.base X.mg c P) (hcode : X.env.code = .ref c) (hmT : (P, X.env.qual ++ "<lambda>") ∈ T) (hu : ∀ q ∈ T, q.1 = P → q.2 = X.env.qual ++ "<lambda>") (hr : Room 3 X.A)
    (hdef : defaultsOf params X.env = ([], [])) (hcl : cloFrom X.env.cells scope.names [] = []) (hfr : ∀ z ∈ scope.names, z.2 ≠ .free)
    (hco : scope.isCoroutine = false) (hgen : scope.isGenerator = false) (hk : scope.kind = .function) (hnc : ∀ x ∈ scope.names, x.2 ≠ .cell) (hy : scope.names.lookup y = some .local) (hd : (y == ("__debug__" : Str)) = false)
    (hb : ∀ (q : Str) (pm cv ctv u : Value), bindArgs (PySem.W.kla_fn "<lambda>" q params (.Subscript (.Name y p1) (.Constant (.int n) kk p2) p3) scope [] pm cv ctv) ⟨[u], []⟩ = pure [(y, u)])
    (hstar : starEach [e] X.env = (false, eval e X.env) :: starEach [] X.env := by rfl) (ha : backTo pos (starEach [e] X.env) = (false, eval e X.env) :: backTo pos (starEach [] X.env) := by rfl) (hpl : (backTo pos (starEach [e] X.env)).any (·.1) = false := by rfl) :
    PE X (.Call (.Name "sorted" p) [e] [⟨some "key", .Lambda params (.Subscript (.Name y p1) (.Constant (.int n) kk p2) p3) scope lpos, kpos⟩] pos) (tSortLamP T X.K n te) := by
  refine ⟨fun pins s σ H Q I h => ?_⟩
  refine wpAny_Call_Name_kw (ld_blt I hgs hm (by rfl : bootBuiltins "sorted" = some (.builtin "sorted")) ?_ (by decide) (by decide))
  have h' : tCons te tNil σ H (fun vs H1 => match vs with
    | [x] => Tabs T H1 ∧ ∃ (a : Addr) (ps : List (V × Int)), x = .ref a ∧ SqL X.K H1 a (ps.map Prod.fst) ∧
      (∀ p ∈ ps, ∃ (t : Addr) (zs : List V), p.1 = .ref t ∧ SqT X.K H1 t zs ∧ atI zs n = some (.int p.2)) ∧
      ∀ H2 p, ExtN H1 H2 → Tabs T H2 → H2 p = none → Q (.ref p) (upd H2 p (.lst ((ps.mergeSort fun u v => decide (u.2 ≤ v.2)).map Prod.fst)))
    | _ => False) := h
  refine PyProof.Rows.callWith_kw (thn ((pa_cons he pa_nil hstar).run pos pins s σ H _ I h') fun us s1 ⟨vs, H1, I1, r1, q1⟩ => ?_) ha hpl (by rfl) (by rfl)
  match vs, r1, q1 with
  | [], r1, q1 => exact q1.elim
  | _ :: _ :: _, r1, q1 => exact q1.elim
  | [x], r1, q1 =>
    obtain ⟨hT, a, ps, ex, hxs, hkp, qp⟩ := q1
    obtain ⟨g, hg⟩ : ∃ g : V → Int, ∀ p ∈ ps, g p.1 = p.2 := by
      refine ⟨fun u => ((ps.find? fun p => decide (p.1 = u)).map Prod.snd).getD 0, fun p hp => ?_⟩
      show ((ps.find? fun r => decide (r.1 = p.1)).map Prod.snd).getD 0 = p.2
      cases e : ps.find? fun r => decide (r.1 = p.1) with
      | none =>
        have := List.find?_eq_none.mp e p hp
        simp at this
      | some r =>
        have hr2 : r.1 = p.1 := by
          have := List.find?_some e
          simpa using this
        obtain ⟨t, zs, e1, h1, k1⟩ := hkp p hp
        obtain ⟨t', zs', e2, h2, k2⟩ := hkp r (List.mem_of_find?_eq_some e)
        rw [hr2, e1] at e2
        obtain rfl := V.ref.inj e2
        rw [I1.tuple_inj h2 h1, k1] at k2
        exact (V.int.inj (Option.some.inj k2)).symm
    have hsort : (ps.mergeSort fun u v => decide (u.2 ≤ v.2)).map Prod.fst = (ps.map Prod.fst).mergeSort fun u v => decide (g u ≤ g v) := by
      refine List.map_mergeSort fun u hu v hv => ?_
      rw [hg u hu, hg v hv]
    obtain ⟨xs, exs⟩ : ∃ xs, xs = ps.map Prod.fst := ⟨_, rfl⟩
    rw [← exs] at hxs hsort
    have hk1 : ∀ u ∈ xs, ∃ (t : Addr) (zs : List V), u = .ref t ∧ SqT X.K H1 t zs ∧ atI zs n = some (.int (g u)) := fun u hu => by
      rw [exs] at hu
      obtain ⟨p, hp, rfl⟩ := List.mem_map.mp hu
      obtain ⟨t, zs, e1, h1, k1⟩ := hkp p hp
      exact ⟨t, zs, e1, h1, by rw [hg p hp]; exact k1⟩
    have q : ∀ H2 p, ExtN H1 H2 → Tabs T H2 → H2 p = none → Q (.ref p) (upd H2 p (.lst (xs.mergeSort fun u v => decide (g u ≤ g v)))) := by
      rw [hsort] at qp
      exact qp
    subst ex
    obtain ⟨u, rfl, rx⟩ := vals1 r1
    obtain rfl : u = Value.ref a := rx
    show wpAny _ _ (evalAll ((do let v ← eval (.Lambda params (.Subscript (.Name y p1) (.Constant (.int n) kk p2) p3) scope lpos) X.env; standAt pos; pure v) :: [])) _ _ s1
    refine wpAny_evalAll_cons (wpAny_bind (lam_make2 I1 TB hcode hmT hu hT hdef (fun z hz e => absurd e (hfr z hz)) fun f c' pm' ctv H2 s2 I2 eN T2 hf hfn hfr2 hco2 => wpAny_bind (wpAny_standAt (wpAny_pure ?_))))
    refine wpAny_evalAll_nil ?_
    rw [hcl] at hf
    show wpAny _ _ (call (.builtin "sorted") [.ref a] [("key", .ref f)]) _ _ s2
    have hx2 := sqL_ext hxs eN
    obtain ⟨its, rv, hl, hz⟩ := I2.list hx2
    have lim2 : s2.heap.NoLimit := I2.nolimit
    refine PySem.W.sorted_key_data (b := false) (β := V) (bs := xs) (vs := its) (R := fun (v : Value) (x : V) => RelV x v) (fun u => .int (g u)) hl.isList (each_vals rv) (fun d hd d' hd' => ?_) (.inr fun d hd => ?_) hz (fun x hx => ?_) (ksk_s1 _ _) (fun x => ksk_l1 _ _) (fun x => ksk_t1 _ _) (fun v x rx hx h tk kp => ?_) (fun out c2 h3 tk kp fr get len each => ?_)
    · obtain ⟨x, _, rfl⟩ := List.mem_map.mp hd
      obtain ⟨x', _, rfl⟩ := List.mem_map.mp hd'
      rfl
    · obtain ⟨x, _, rfl⟩ := List.mem_map.mp hd
      exact ⟨(fun z => nomatch z), fun xs z => nomatch z⟩
    · have := hr.un
      show X.A.units + 2 + _ < cLine
      simp only [PyData.depth]
      omega
    · obtain ⟨t, zs, rfl, hsq, hat⟩ := hk1 x hx
      obtain rfl : v = Value.ref t := rx
      obtain ⟨its', rv', pl, hz'⟩ := I2.tuple (sqT_ext hsq eN)
      obtain ⟨j, j1, j2, j3, j4, j5⟩ := atI_get hat
      obtain ⟨w', ew, rw'⟩ := rv'.get j2
      obtain ⟨tk', rfl⟩ : ∃ tk', w' = .int (g (.ref t)) tk' := rw'
      have hl' := rv'.length
      have hn := line63
      refine lam_key (s := { s2 with heap := h, toks := tk }) (j := j) (its := its'.toArray) (hr.in1.in1.depth) (lim2.keeps kp) (kp _ _ hf) ?_ hco hgen hk hnc hy hd (fun u => hb _ _ _ _ u) (IsTup.keeps pl kp) (by rw [List.size_toArray, ← hl']; exact j1) (by omega) (by omega) (by simpa using ew)
      obtain ⟨⟨oc, vs, t', hoc, hdc, hvc⟩, _⟩ := I2.hok c' _ hco2
      exact ⟨c', oc, vs, t', rfl, kp _ _ hoc, hdc, hvc⟩
    · rw [PySem.W.dataLe_int] at each
      refine ⟨.ref _, upd H2 (s2.heap.objs.size + 1) (.lst (xs.mergeSort fun u v => decide (g u ≤ g v))), I2.laid (t' := tk) kp (Nat.le_succ _) ⟨by rw [List.length_mergeSort]; exact hz, _, c2, vals_each each, get⟩, rfl, q _ _ eN T2 (I2.hok.fresh (Nat.le_succ _))⟩
end
end KLam
set_option Elab.async false
set_option linter.all false
set_option maxRecDepth 100000
set_option maxHeartbeats 8000000
/-! Waits apart: the lambda's table is written. -/
namespace K17
open PySem PySem.Spec PyProof.Rows L2 KB LamX
abbrev cA (K : PySem.W.Frag) : Addr := (He.cT K ("apart_of", none)).1
abbrev tA (K : PySem.W.Frag) : Addr := (He.cT K ("apart_of", none)).2
/-- the table of the only lambda -/
abbrev TbK (K : PySem.W.Frag) : List (Addr × Str) := [(tA K, "apart_of.<locals>.<lambda>")]
/-- a def whose code object is known -/
theorem okT {P : Program} {w : World} {K : PySem.W.Frag} {mg : Str → Option Value} {base : Heap} {x qual : Str} {params : Arguments} {body : List Stmt} {scope : Scope} {dvs : List V} {kws : List (Str × V)} {dn : Str} {fd : FuncData} {CX : CXT} {N ps : List Str} {k : Nat} {sp : Sp}
    (F : FunD K x qual params body scope dvs kws (He.ga K dn) fd) (S : FnScope N ps scope) (len : ∀ (vs : List V) (H : Hp) (Q : VK) (E : XK), sp vs H Q E → vs.length = ps.length)
    (hbody : ∀ (A : Around) (outer : List Env) (s : Shared) (H : Hp) (vs : List V) (Q : VK) (E : XK), Room k (A.deeper (envOfC qual scope s.heap.objs.size (He.ga K dn) (.ref (He.codeOf K (dn, none))))) → sp vs H Q E →
      ∃ t, PSs (cxOf CX P w K mg base N qual scope (He.ga K dn) (.ref (He.codeOf K (dn, none))) A outer s H E) body t ∧ t { nx := fun x H' => Q V.non H', rt := Q } (L2.start N vs) H) :
    FnOk P w K mg base CX (k + 1) (He.ga K dn) fd ps sp := by
  obtain ⟨oc, od, dV, kV, doc, pm, an, cdv, ct, osl, rfl, lk, hcd, _, _⟩ := F.ex
  obtain ⟨c, rfl⟩ := He.codeIn_ref hcd
  have e : He.codeOf K (dn, none) = c := He.codeOf_eq (p := (dn, none)) lk rfl
  subst e
  exact fn_of lk hcd S len fun A outer s H vs Q E hr hsp => hbody A outer s H vs Q E hr hsp
theorem tabs_same {K : PySem.W.Frag} {H H' : Hp} (k : Same H H') (h : Tabs (TbK K) H) : Tabs (TbK K) H' := h.ext k
theorem tabs_but {K : PySem.W.Frag} {pu : Addr} {H H' : Hp} (k : But pu H H') (hp : ∃ xs, H pu = some (.lst xs)) (h : Tabs (TbK K) H) : Tabs (TbK K) H' := fun p hm => by
  obtain ⟨xs, hp⟩ := hp
  obtain ⟨ps, h1, h2, h3⟩ := h p hm
  refine ⟨ps, k _ _ (fun z => ?_) h1, h2, fun pos cv hc => ?_⟩
  · rw [z, hp] at h1
    cases h1
  · obtain ⟨c, e1, e2⟩ := h3 pos cv hc
    refine ⟨c, e1, k _ _ (fun z => ?_) e2⟩
    rw [z, hp] at e2
    cases e2
/-- all but p and the tables stays -/
def ButN (p : Addr) (H H' : Hp) : Prop := ∀ b o, b ≠ p → H b = some o → (∀ ps, o ≠ .tbl ps) → H' b = some o
theorem ButN.of {p : Addr} {H H' : Hp} (k : But p H H') : ButN p H H' := fun b o n e _ => k b o n e
theorem ButN.ofN {p : Addr} {H H' : Hp} (k : ExtN H H') : ButN p H H' := fun b o _ e t => k b o e t
theorem ButN.trans {p : Addr} {H H1 H2 : Hp} (a : ButN p H H1) (b : ButN p H1 H2) : ButN p H H2 := fun x o n e t => b x o n (a x o n e t) t
theorem butN_off {p : Addr} {H H' : Hp} (k : ButN p H H') : ExtN (off H p) (off H' p) := fun c o e t => by
  unfold off at *
  by_cases h : c = p
  · rw [if_pos h] at e
    cases e
  · rw [if_neg h] at e ⊢
    exact k _ _ h e t
theorem LsT.app {K : PySem.W.Frag} {α : Type} {vv : α → List V} {G : Hp} {q : Addr} {xs : List α} (h : LsT K vv G q xs) {t : Addr} {x : α} (ht : SqT K G t (vv x)) : ∃ ys, G q = some (.lst ys) ∧ ys.length = xs.length ∧ LsT K vv (upd G q (.lst (ys ++ [.ref t]))) q (xs ++ [x]) := by
  obtain ⟨us, hus, lus, kus⟩ := h
  have b : But q G (upd G q (.lst (us.map V.ref ++ [.ref t]))) := fun c o n e => by
    rw [upd_ne n]
    exact e
  refine ⟨_, hus, by rw [List.length_map, lus], us ++ [t], by rw [upd_same, List.map_append]; rfl, by rw [List.length_append, List.length_append, lus]; rfl, fun i u y e1 e2 => ?_⟩
  rcases Nat.lt_or_ge i us.length with c | c
  · rw [List.getElem?_append_left c] at e1
    rw [List.getElem?_append_left (by omega)] at e2
    exact SqT_but b (kus i u y e1 e2) ⟨_, hus⟩
  · rw [List.getElem?_append_right c] at e1
    rw [List.getElem?_append_right (by omega)] at e2
    have hi : i - us.length = 0 := by
      have := (List.getElem?_eq_some_iff.mp e1).1
      simp at this
      omega
    rw [hi] at e1
    rw [show i - xs.length = 0 by omega] at e2
    cases e1
    cases e2
    exact SqT_but b ht ⟨_, hus⟩
/-- new, or a table -/
def NewN (H : Hp) (q : Addr) : Prop := ∀ o, H q = some o → ∃ ps, o = .tbl ps
theorem NewN.of {H : Hp} {q : Addr} (h : H q = none) : NewN H q := fun o e => by rw [h] at e; cases e
theorem NewN.back {H H' : Hp} {q : Addr} (k : ExtN H H') (h : NewN H' q) : NewN H q := fun o e => by
  cases o with
  | tbl ps => exact ⟨ps, rfl⟩
  | _ => exact (h _ (k _ _ e (fun ps z => by cases z)))
theorem NewN.ne {H : Hp} {q a : Addr} {xs : List V} (h : NewN H q) (e : H a = some (.lst xs)) : a ≠ q := fun z => by
  rw [z] at e
  obtain ⟨ps, z⟩ := h _ e
  cases z
theorem fm_congr {α β : Type} {f g : α → Option β} : ∀ {l : List α}, (∀ x ∈ l, f x = g x) → l.filterMap f = l.filterMap g
  | [], _ => rfl
  | a :: l, h => by
    rw [List.filterMap_cons, List.filterMap_cons, h a (List.mem_cons_self ..), fm_congr fun x hx => h x (List.mem_cons_of_mem _ hx)]
theorem fm_all {α β : Type} (f : α → β) : ∀ (l : List α), (List.range l.length).filterMap (fun i => (l[i]?).map f) = l.map f
  | [] => rfl
  | x :: r => by
    rw [List.length_cons, List.range_succ_eq_map, List.filterMap_cons, List.filterMap_map]
    show f x :: (List.range r.length).filterMap (fun i => (r[i]?).map f) = _
    rw [fm_all f r]
    rfl
def spApart (K : PySem.W.Frag) : Sp := fun vs H Q _ => ∃ (b : Addr) (ws : List (Nat × Nat)), vs = [.ref b] ∧ WtAt K H b ws ∧ ws.length ≤ 1000 ∧ Tabs (TbK K) H ∧ ∀ q H', ExtN H H' → Tabs (TbK K) H' → NewN H q → WtAt K H' q (apart ws) → Q (.ref q) H'
def spEnds (K : PySem.W.Frag) : Sp := fun vs H Q _ => ∃ (b : Addr) (ws : List (Nat × Nat)), vs = [.ref b] ∧ WtAt K H b ws ∧ ws.length ≤ 1000 ∧ Tabs (TbK K) H ∧ ∀ q H', ExtN H H' → Tabs (TbK K) H' → NewN H q → H' q = some (.lst (numsV (ends ws))) → Q (.ref q) H'
section
variable {P : Program} {w : World} {K : PySem.W.Frag} {mg : Str → Option Value} {base : Heap}
abbrev s_apart_of : Stmt := top 21
abbrev N_apart_of : List Str := ["waits", "found", "last", "early", "late"]
theorem sc_apart_of : FnScope N_apart_of ["waits"] (defScope s_apart_of) := ⟨rfl, rfl, rfl, by decide +kernel, rfl, by decide +kernel, by decide +kernel⟩
theorem ok_apart_of {fd : FuncData} (F : FnP K "apart_of" s_apart_of (He.ga K "apart_of") fd) (Z : FreeS mg) (TB : TabB base mg (cA K) (tA K)) :
    FnOk P w K mg base CX0 4 (He.ga K "apart_of") fd ["waits"] (spApart K) := by
  refine okT F sc_apart_of (fun vs H Q E h => ?_) (fun A outer s H vs Q E hr h => ?_)
  · obtain ⟨b, ws, rfl, _⟩ := h
    rfl
  · obtain ⟨b, ws, rfl, hW, l1000, hT, k⟩ := h
    obtain ⟨ts, hb, lt, ht⟩ := id hW.ex
    have sl : (3000 : Nat) ≤ sizeLine := by decide
    have nd := sc_apart_of.nd
    refine ⟨_, PSs.nox (pss_cons (ps_set (i := 1) nd rfl (Or.inl rfl) (pe_lst (pa_nil)))
      (pss_cons (ps_set (i := 2) nd rfl (Or.inl rfl) (pe_int))
      (pss_cons (ps_for PassesOwn.never rfl (pi_list (KLam.pe_sortedLamP (j := 0) (T := TbK K) (c := cA K) (P := tA K) (pv 0) (by rfl) Z.sorted TB rfl (List.mem_singleton.mpr rfl) (fun q h _ => by rw [List.mem_singleton.mp h]; rfl) (hr.mono (by decide)) rfl rfl (by decide) rfl rfl rfl (by decide) rfl (by decide) (fun _ _ _ _ _ => rfl))) (pg_tup rfl (pgs_cons (pg_name (i := 3) nd rfl (Or.inl rfl)) (pgs_cons (pg_name (i := 4) nd rfl (Or.inl rfl)) (pgs_nil))))
        (pss_one (ps_if (pt_cmpR op_ge (pv 3) (pv 2) (nomark _)) (pss_cons (ps_expr (pe_bm PySem.F.plainAttrs_list PySem.F.slot_list_append PySem.F.type_list_append mt_append (pv 1) (pa_cons (pe_tup (pa_cons (pv 3) (pa_cons (pv 4) (pa_nil)))) (pa_nil))))
      (pss_one (ps_set (i := 2) nd rfl (Or.inl rfl) (pv 4)))) (pss_nil))))
      (pss_one (ps_ret (pv 1)))))), ?_⟩
    refine ⟨(by show 0 ≤ sizeLine; omega), fun q hq => ?_⟩
    have s1 := Same.updf (o := .lst []) hq
    obtain ⟨G0, eG0⟩ : ∃ X, X = upd H q (.lst []) := ⟨_, rfl⟩
    have hq0 : G0 q = some (.lst []) := by rw [eG0]; exact upd_same
    rw [← eG0] at s1 ⊢
    clear eG0
    obtain ⟨zw, ezw⟩ : ∃ z, z = ts.zip ws := ⟨_, rfl⟩
    have z1 : zw.map Prod.fst = ts := by rw [ezw, List.map_fst_zip (by omega)]
    have z2 : zw.map Prod.snd = ws := by rw [ezw, List.map_snd_zip (by omega)]
    have zm : ∀ p ∈ zw, SqT K H p.1 (wv p.2) := fun p hp => by
      obtain ⟨i, hi, rfl⟩ := List.getElem_of_mem hp
      refine ht i _ _ ?_ ?_
      · rw [← z1, List.getElem?_map, List.getElem?_eq_getElem hi]
        rfl
      · rw [← z2, List.getElem?_map, List.getElem?_eq_getElem hi]
        rfl
    have zl : zw.length = ws.length := by rw [← z2, List.length_map]
    refine ⟨_, rfl, tabs_same s1 hT, b, zw.map fun p => (.ref p.1, (p.2.2 : Int)), rfl, ?_, fun p hp => ?_, fun G1 r e1 T1 n1 => ?_⟩
    · rw [List.map_map, show (Prod.fst ∘ fun p : Addr × (Nat × Nat) => (V.ref p.1, (p.2.2 : Int))) = (V.ref ∘ Prod.fst) from rfl, ← List.map_map, z1]
      exact SqL.of (s1 _ _ hb)
    · obtain ⟨p', hp', rfl⟩ := List.mem_map.mp hp
      exact ⟨p'.1, wv p'.2, rfl, SqT_up s1 (zm p' hp'), atI_nat (j := 1) rfl⟩
    obtain ⟨zs, ezs⟩ : ∃ z, z = zw.mergeSort fun u v => decide (u.2.2 ≤ v.2.2) := ⟨_, rfl⟩
    have el : ((zw.map fun p => (V.ref p.1, (p.2.2 : Int))).mergeSort fun u v => decide (u.2 ≤ v.2)).map Prod.fst = (zs.map Prod.fst).map V.ref := by
      rw [ezs, ← List.map_mergeSort (r := fun u v : Addr × (Nat × Nat) => decide (u.2.2 ≤ v.2.2)) (f := fun p : Addr × (Nat × Nat) => (V.ref p.1, (p.2.2 : Int))) (fun u _ v _ => by rw [decide_eq_decide]; omega), List.map_map, List.map_map]
      rfl
    have eb : zs.map Prod.snd = byEnd ws := by
      rw [ezs, List.map_mergeSort (s := fun u v : Nat × Nat => decide (u.2 ≤ v.2)) (fun u _ v _ => rfl), z2]
      rfl
    have zsm : ∀ p ∈ zs, SqT K H p.1 (wv p.2) := fun p hp => zm p (by rw [ezs] at hp; exact List.mem_mergeSort.mp hp)
    have zsl : zs.length = ws.length := by rw [ezs, List.length_mergeSort, zl]
    rw [el]
    have sr := Same.updf (o := .lst ((zs.map Prod.fst).map V.ref)) n1
    have e2 : ExtN G0 (upd G1 r (.lst ((zs.map Prod.fst).map V.ref))) := e1.trans (ExtN.of sr)
    have T2 := tabs_same sr T1
    have hr2 := upd_same (H := G1) (a := r) (o := .lst ((zs.map Prod.fst).map V.ref))
    obtain ⟨G2, eG2⟩ : ∃ X, X = upd G1 r (.lst ((zs.map Prod.fst).map V.ref)) := ⟨_, rfl⟩
    rw [← eG2] at e2 T2 hr2 ⊢
    clear eG2 sr
    have hq2 : G2 q = some (.lst []) := e2 _ _ hq0 fun ps z => by cases z
    have nrq : r ≠ q := fun z => by
      rw [z, e1 _ _ hq0 (fun ps z => by cases z)] at n1
      cases n1
    refine ⟨r, rfl, ⟨_, SqL.of hr2⟩, ?_⟩
    have bl : (byEnd ws).length = ws.length := List.length_mergeSort _
    refine for_list (xs := (zs.map Prod.fst).map V.ref) (fun i σ G => But q G2 G ∧ ∃ (last : Nat) (acc : List (Nat × Nat)) (v3 v4 : Option V), apart ws = acc ++ greedy last ((byEnd ws).drop i) ∧ acc.length ≤ i ∧ WtAt K G q acc ∧ σ = [some (.ref b), some (.ref q), some (.int (last : Int)), v3, v4])
      ⟨But.refl _ _, 0, [], none, none, rfl, Nat.le_refl _, LsT.nil hq2, rfl⟩ (fun i σ G _ hh => SqL.of (hh.1 _ _ nrq hr2)) ?_ ?_
    · rintro i y σ G hy ⟨bG, last, acc, v3, v4, ea, la, hA, rfl⟩
      have hi : i < zs.length := by
        have := (List.getElem?_eq_some_iff.mp hy).1
        rw [List.length_map, List.length_map] at this
        exact this
      rw [List.getElem?_map, List.getElem?_map, List.getElem?_eq_getElem hi] at hy
      obtain rfl : V.ref zs[i].1 = y := Option.some.inj hy
      have hw0 := KLam.sqT_ext (SqT_up s1 (zsm _ (List.getElem_mem hi))) e2
      have hw : SqT K G zs[i].1 (wv zs[i].2) := SqT_but bG hw0 ⟨_, hq2⟩
      have ei : (byEnd ws).drop i = zs[i].2 :: (byEnd ws).drop (i + 1) := by
        rw [← eb, List.drop_eq_getElem_cons (by rw [List.length_map]; exact hi), List.getElem_map]
      rw [ei] at ea
      refine ⟨zs[i].1, [_, _], rfl, hw, rfl, _, [_], rfl, _, [], rfl, rfl, ?_⟩
      refine ⟨_, rfl, _, rfl, _, _, rfl, rfl, _, rfl, ?_⟩
      by_cases c : last ≤ zs[i].2.1
      · have eg : greedy last (zs[i].2 :: (byEnd ws).drop (i + 1)) = zs[i].2 :: greedy zs[i].2.2 ((byEnd ws).drop (i + 1)) := if_pos c
        rw [eg] at ea
        refine iteP (by omega) ?_
        obtain ⟨ys, y1, y2, _⟩ := hA.app hw
        refine ⟨_, rfl, Or.inl ⟨rfl, _, SqL.of y1⟩, _, rfl, _, rfl, (by show 2 ≤ sizeLine; omega), fun T hT => ?_⟩
        have sT := Same.updf (o := .tup [V.int (zs[i].2.1 : Int), V.int (zs[i].2.2 : Int)]) hT
        obtain ⟨ys', y1', y2', hA'⟩ := (hA.same sT).app (t := T) (x := zs[i].2) (SqT.of upd_same)
        refine ⟨q, _, _, rfl, rfl, y1', by omega, ?_⟩
        refine ⟨_, rfl, (bG.trans (But.of sT)).trans (fun c o n e => by rw [upd_ne n]; exact e), zs[i].2.2, acc ++ [zs[i].2], _, _, by rw [ea, List.append_assoc]; rfl, by rw [List.length_append]; show _ + 1 ≤ _; omega, hA', rfl⟩
      · have eg : greedy last (zs[i].2 :: (byEnd ws).drop (i + 1)) = greedy last ((byEnd ws).drop (i + 1)) := if_neg c
        rw [eg] at ea
        exact iteQ (by omega) ⟨bG, last, acc, _, _, ea, by omega, hA, rfl⟩
    · rintro σ G ⟨bG, last, acc, v3, v4, ea, la, hA, rfl⟩
      rw [List.length_map, List.length_map, List.drop_of_length_le (by omega), show greedy last [] = [] from rfl, List.append_nil] at ea
      rw [← ea] at hA
      refine ⟨_, rfl, k q G (fun c o e nt => ?_) (tabs_but bG ⟨_, hq2⟩ T2) (NewN.of hq) hA⟩
      exact bG _ _ (ne_of_none e hq) (e2 _ _ (s1 _ _ e) nt)
abbrev s_ends_of : Stmt := top 22
abbrev N_ends_of : List Str := ["waits", "early", "late"]
theorem sc_ends_of : FnScope N_ends_of ["waits"] (defScope s_ends_of) := ⟨rfl, rfl, rfl, by decide +kernel, rfl, by decide +kernel, by decide +kernel⟩
theorem ok_ends_of {f : Addr} {fd : FuncData} (F : FnP K "ends_of" s_ends_of f fd) (Z : FreeS mg)
    {f_apart_of : Addr} {d_apart_of : FuncData} (g_apart_of : mg "apart_of" = some (.ref f_apart_of)) (F_apart_of : FnP K "apart_of" s_apart_of f_apart_of d_apart_of) (G_apart_of : FnOk P w K mg base CX0 4 f_apart_of d_apart_of ["waits"] (spApart K)) :
    FnOk P w K mg base CX0 5 f fd ["waits"] (spEnds K) := by
  have b_apart_of : Binds K d_apart_of ["waits"] [] := F_apart_of.bindsN fun _ _ _ _ _ _ us hl => match us, hl with | [_], _ => rfl
  refine F.ok sc_ends_of (fun vs H Q E h => ?_) (fun cdv A outer s H vs Q E hr h => ?_)
  · obtain ⟨b, ws, rfl, _⟩ := h
    rfl
  · obtain ⟨b, ws, rfl, hW, l1000, hT, k⟩ := h
    have sl : (3000 : Nat) ≤ sizeLine := by decide
    have nd := sc_ends_of.nd
    refine ⟨_, PSs.nox (pss_one (ps_ret (pe_lc (own := [("early", 1), ("late", 2)]) (g := gTup K 2 (gCons (gName 1) (gCons (gName 2) (gNil)))) (tt := tYes) (te := tVar 2) (by rfl) nd (pi_list (pe_call G_apart_of (hr.mono (by decide)) rfl g_apart_of F_apart_of.kp b_apart_of .nil pass0 (pa_cons (pv 0) (pa_nil))))
          (blkOk_by (own := [("early", 1), ("late", 2)]) (N := N_ends_of) (sc := defScope s_ends_of) (by decide +kernel)) (fun _ _ _ _ _ => pg_tup rfl (pgs_cons (pg_name (i := 1) nd rfl (Or.inl rfl)) (pgs_cons (pg_name (i := 2) nd rfl (Or.inl rfl)) (pgs_nil)))) (fun _ _ _ _ _ => pts_nil)
          (fun _ _ _ _ _ => pv 2)))), ?_⟩
    refine ⟨_, rfl, b, ws, rfl, hW, l1000, hT, fun q G eG TG nq hA => ?_⟩
    obtain ⟨ts, hq, lt, ht⟩ := hA.got
    have la : (apart ws).length ≤ 1000 := by
      have := (greedy_sub (byEnd ws) 0).length_le
      have bl : (byEnd ws).length = ws.length := List.length_mergeSort _
      unfold apart
      omega
    refine ⟨q, rfl, ⟨_, SqL.of hq⟩, fun D hD => ?_⟩
    refine lc_sel (n := (apart ws).length) (by have := walk_list (K := K) (a := q) (xs := ts.map V.ref); rw [List.length_map, lt] at this; exact this) (fun i => ((apart ws)[i]?).map fun w => .int (w.2 : Int)) (by omega) hD (fun G2 s => SqL.of (s _ _ hq)) ?_ ?_
    · rintro i v H2 H3 Qy Qn hi sH ⟨rfl, hv⟩ ky kn
      obtain ⟨t, e1, e2⟩ := ht i hi
      rw [e1] at hv
      obtain rfl : V.ref t = v := Option.some.inj hv
      refine ⟨t, [_, _], rfl, SqT_up sH e2, rfl, _, [_], rfl, _, [], rfl, rfl, ?_⟩
      exact ⟨rfl, _, rfl, ky _ _ (Same.refl _) (by rw [List.getElem?_eq_getElem hi]; rfl)⟩
    · intro H2 s2 hR
      refine k D H2 (eG.trans (ExtN.of s2)) (tabs_same s2 TG) (NewN.back eG (NewN.of hD)) ?_
      rw [hR, fm_all (fun w : Nat × Nat => V.int (w.2 : Int)) (apart ws)]
      unfold ends numsV
      rw [List.map_map]
      rfl
end
end K17
set_option Elab.async false
set_option linter.all false
set_option maxRecDepth 100000
set_option maxHeartbeats 4000000
/-! set() of a list of whole numbers, what is in it. -/
namespace KB
open PySem PySem.Spec PyProof.Rows L2
/-- the set of the ints of a list -/
def SetJ (P : Program) (w : World) (a : Addr) (S : Int → Bool) : HO := .ext fun h => ∃ n, h.SetOf (intKind P w) a S n
section
variable {X : Cx}
/-- set(xs), xs a list of ints -/
def rSetJ (P : Program) (w : World) (K : PySem.W.Frag) : List V → Hp → VK → Prop := fun xs H Q => ∃ (l : Addr) (ns : List Int), xs = [.ref l] ∧ SqL K H l (ns.map V.int) ∧ ns.length < 1000 ∧
  ∀ (p : Addr) (S : Int → Bool), H p = none → (∀ k, S k = ns.any (· == k)) → Q (.ref p) (upd H p (SetJ P w p S))
theorem cr_setJ (hc : X.calm = true) : CallR X (.type "set") (rSetJ X.prog X.w X.K) := by
  intro pins s σ H xs us Q I r h
  obtain ⟨l, ns, rfl, hs, hl, q⟩ := h
  obtain ⟨its, rv, hls, _⟩ := I.list hs
  rw [Vals.ref1 r]
  have hlen : its.length = ns.length := by rw [← rv.length, List.length_map]
  have hsz : its.toArray.size = ns.length := by rw [List.size_toArray, hlen]
  refine call_set_list (I.ok.hd hc) hls.isList (ns := ns) (by simpa using Vals.ints rv) (by rw [hsz]; show ns.length + 1 < 4096; omega) fun h' tk hS hk => ?_
  have ho : ∃ o, h'.get? s.heap.objs.size = some o := by
    obtain ⟨o, _, _, _, ho, _⟩ := hS
    exact ⟨o, ho⟩
  refine ⟨.ref _, upd H s.heap.objs.size (SetJ X.prog X.w s.heap.objs.size _), I.laid (t' := tk) (a := s.heap.objs.size) (fun b u e => hk b u (Heap.lt_size e) e) (Nat.le_refl _) ⟨⟨_, hS⟩, ho, fun h1 h2 p k => ?_⟩, rfl, q _ _ (I.hok.fresh (Nat.le_refl _)) fun k => ?_⟩
  · obtain ⟨n, o, es, ep, t, e, r⟩ := p
    exact ⟨n, o, es, ep, t, k _ e, r⟩
  · rw [firstMet_any, hsz]
    have e : (List.range ns.length).map (fun i => ns.getD i 0) = ns := by
      refine List.ext_getElem? fun j => ?_
      rw [List.getElem?_map]
      by_cases hj : j < ns.length
      · rw [List.getElem?_range hj, List.getElem?_eq_getElem hj]
        show some (ns.getD j 0) = some ns[j]
        rw [List.getD_eq_getElem?_getD, List.getElem?_eq_getElem hj]
        rfl
      · rw [List.getElem?_eq_none (by rw [List.length_range]; omega), List.getElem?_eq_none (by omega)]
        rfl
    rw [e]
/-- k in such a set -/
def rInJ (P : Program) (w : World) : R2 := fun x y H Q => ∃ k a S, x = V.int k ∧ y = V.ref a ∧ H a = some (SetJ P w a S) ∧ Q (.bl (S k)) H
theorem op_inJ : OpR X (compareOp .In) (rInJ X.prog X.w) := by
  intro pins s σ H x y v u Q I rx ry h
  obtain ⟨k, a, S, rfl, rfl, ha, q⟩ := h
  obtain ⟨tk, rfl⟩ := rx
  cases ry
  obtain ⟨⟨n, hS⟩, _⟩ := I.hok a _ ha
  exact wpAny_inSet_of (intKind_is _ _ _ _) rfl hS ⟨.bl (S k), H, I.tok _, rfl, q⟩
end
end KB
set_option Elab.async false
set_option linter.all false
set_option maxRecDepth 100000
set_option maxHeartbeats 8000000
/-! Barriers put in. -/
namespace K17
open PySem PySem.Spec PyProof.Rows L2 KB LamX
/-- ascending places of a run -/
structure PlOk (n : Nat) (P : List Nat) : Prop where
  asc : P.Pairwise (· < ·)
  lt : ∀ p ∈ P, p < n
theorem PlOk.nd {n : Nat} {P : List Nat} (h : PlOk n P) : P.Nodup := List.nodup_iff_pairwise_ne.mpr (h.asc.imp fun h => Nat.ne_of_lt h)
def spNeedPl (K : PySem.W.Frag) : Sp := fun vs H Q _ => ∃ (a c : Addr) (es : List Ev) (P : List Nat), vs = [.ref a, .ref c] ∧ RunOk K H a es ∧ H c = some (.lst (numsV P)) ∧ PlOk es.length P ∧ P.length ≤ 1000 ∧ ∀ H', Same H H' → Q .non H'
def spThese (K : PySem.W.Frag) : Sp := fun vs H Q _ => ∃ (a b c : Addr) (es : List Ev) (ws : List (Nat × Nat)) (P : List Nat), vs = [.ref a, .ref b, .ref c] ∧ RunOk K H a es ∧ WtAt K H b ws ∧ (∀ w ∈ ws, w.1 < es.length ∧ w.2 < es.length) ∧ ws.length ≤ 1000 ∧ H c = some (.lst (numsV P)) ∧ PlOk es.length P ∧
  ∀ t q r H', Same H H' → H q = none → H r = none → H' t = some (.tup [.ref q, .ref r]) → RunAt K H' q (wr es P es.length) → WtAt K H' r (movedL P ws) → Q (.ref t) H'
def spFor (K : PySem.W.Frag) : Sp := fun vs H Q _ => ∃ (a b : Addr) (es : List Ev) (ws : List (Nat × Nat)), vs = [.ref a, .ref b] ∧ RunOk K H a es ∧ WtOk K H b es ws ∧ Tabs (TbK K) H ∧ ∀ q H', ExtN H H' → Tabs (TbK K) H' → NewN H q → H' q = some (.lst (numsV (ends (brokenL es ws)))) → Q (.ref q) H'
theorem asc_len : ∀ {P : List Nat} {b n : Nat}, P.Pairwise (· < ·) → (∀ p ∈ P, b ≤ p ∧ p < n) → P.length ≤ n - b
  | [], _, _, _, _ => Nat.zero_le _
  | x :: r, b, n, h, k => by
    obtain ⟨h1, h2⟩ := List.pairwise_cons.mp h
    have hx := k x List.mem_cons_self
    have := asc_len (b := x + 1) (n := n) h2 fun p hp => ⟨h1 p hp, (k p (List.mem_cons_of_mem _ hp)).2⟩
    rw [List.length_cons]
    omega
theorem PlOk.len {n : Nat} {P : List Nat} (h : PlOk n P) : P.length ≤ n := asc_len (b := 0) h.asc fun p hp => ⟨Nat.zero_le _, h.lt p hp⟩
theorem SqT_off {K : PySem.W.Frag} {G H : Hp} {t D : Addr} {xs : List V} (h : SqT K G t xs) (k : Same G H) (n : G D = none) : SqT K (off H D) t xs := by
  rcases h with (h | ⟨o, h⟩) | h
  · exact .inl (.inl (by rw [off_at (ne_of_none h n)]; exact k _ _ h))
  · exact .inl (.inr ⟨o, by rw [off_at (ne_of_none h n)]; exact k _ _ h⟩)
  · exact .inr h
theorem LsT.but {K : PySem.W.Frag} {α : Type} {vv : α → List V} {H H' : Hp} {a p : Addr} {xs : List α} (k : But p H H') (n : a ≠ p) (hp : ∃ ys, H p = some (.lst ys)) (h : LsT K vv H a xs) : LsT K vv H' a xs := by
  obtain ⟨ts, h1, h2, h3⟩ := h
  exact ⟨ts, k _ _ n h1, h2, fun i t e e1 e2 => SqT_but k (h3 i t e e1 e2) hp⟩
theorem But.upd' {p : Addr} {H : Hp} {o : HO} : But p H (upd H p o) := fun c o' n e => by
  rw [upd_ne n]
  exact e
theorem any_contains (P : List Nat) (i : Nat) : (P.map fun x : Nat => (x : Int)).any (· == (i : Int)) = P.contains i := by
  rw [List.any_map, Bool.eq_iff_iff, List.any_eq_true, List.contains_iff_mem]
  constructor
  · rintro ⟨x, hx, e⟩
    have : (x : Int) = (i : Int) := by simpa using e
    rw [show i = x by omega]
    exact hx
  · intro h
    exact ⟨i, h, by simp⟩
theorem wr_len2 {es : List Ev} {P : List Nat} (nd : P.Nodup) {i : Nat} (h : i ≤ es.length) (l : P.length ≤ es.length) : (wr es P i).length ≤ 2 * es.length := by
  rw [wr_len nd i h]
  have := List.length_filter_le (fun p => decide (p < i)) P
  omega
section
variable {P : Program} {w : World} {K : PySem.W.Frag} {mg : Str → Option Value} {base : Heap}
abbrev s_need_places : Stmt := top 26
abbrev N_need_places : List Str := ["run", "places"]
theorem sc_need_places : FnScope N_need_places ["run", "places"] (defScope s_need_places) := ⟨rfl, rfl, rfl, by decide +kernel, rfl, by decide +kernel, by decide +kernel⟩
theorem ok_need_places {f : Addr} {fd : FuncData} (F : FnP K "need_places" s_need_places f fd) (Z : FreeS mg)
    {f_are_ascending_below : Addr} {d_are_ascending_below : FuncData} (g_are_ascending_below : mg "are_ascending_below" = some (.ref f_are_ascending_below)) (F_are_ascending_below : FnP K "are_ascending_below" s_are_ascending_below f_are_ascending_below d_are_ascending_below) (G_are_ascending_below : FnOk P w K mg base CX0 4 f_are_ascending_below d_are_ascending_below ["value", "bound"] (spAscB K)) :
    FnOk P w K mg base CX0 5 f fd ["run", "places"] (spNeedPl K) := by
  have b_are_ascending_below : Binds K d_are_ascending_below ["value", "bound"] [] := F_are_ascending_below.bindsN fun _ _ _ _ _ _ us hl => match us, hl with | [_, _], _ => rfl
  refine F.ok sc_need_places (fun vs H Q E h => ?_) (fun cdv A outer s H vs Q E hr h => ?_)
  · obtain ⟨a, c, es, ps, rfl, _⟩ := h
    rfl
  · obtain ⟨a, c, es, ps, rfl, hR, hc, hP, l1, k⟩ := h
    obtain ⟨ts, ha, lt, ht⟩ := hR.at_.got
    have nd := sc_need_places.nd
    refine ⟨_, PSs.nox (pss_one (ps_if (pt_not (pt_val (pe_call G_are_ascending_below (hr.mono (by decide)) rfl g_are_ascending_below F_are_ascending_below.kp b_are_ascending_below .nil pass0 (pa_cons (pv 1) (pa_cons (pe_callB call_len_seq (by rfl) Z.len (by decide +kernel) (pa_cons (pv 0) (pa_nil))) (pa_nil)))))) (pss_one (ps_dead)) (pss_nil))), ?_⟩
    exact ⟨_, rfl, _, rfl, a, _, rfl, .inl (SqL.of ha), c, ps, es.length, (by rw [List.length_map, lt]; rfl), hc, l1, hP.asc, hP.lt, fun G s => ⟨true, rfl, iteF (k G s)⟩⟩
abbrev s_with_these : Stmt := top 28
abbrev N_with_these : List Str := ["run", "waits", "places", "put_in", "events", "moved", "place", "event", "early", "late"]
theorem sc_with_these : FnScope N_with_these ["run", "waits", "places"] (defScope s_with_these) := ⟨rfl, rfl, rfl, by decide +kernel, rfl, by decide +kernel, by decide +kernel⟩
theorem ok_with_these {f : Addr} {fd : FuncData} (F : FnP K "with_these" s_with_these f fd) (Z : FreeS mg) :
    FnOk P w K mg base CX0 1 f fd ["run", "waits", "places"] (spThese K) := by
  refine F.ok sc_with_these (fun vs H Q E h => ?_) (fun cdv A outer s H vs Q E hr h => ?_)
  · obtain ⟨a, b, c, es, ws, ps, rfl, _⟩ := h
    rfl
  · obtain ⟨a, b, c, es, ws, ps, rfl, hR, hW, hlt, l1000, hc, hP, k⟩ := h
    obtain ⟨ts, ha, lt, ht⟩ := hR.at_.got
    have l100 := hR.len
    have sl : (3000 : Nat) ≤ sizeLine := by decide
    have lP := hP.len
    have nd := sc_with_these.nd
    refine ⟨_, PSs.nox (pss_cons (ps_set (i := 3) nd rfl (Or.inl rfl) (pe_callTy (cr_setJ rfl) (by rfl) Z.tset (by decide +kernel) (pa_cons (pv 2) pa_nil)))
      (pss_cons (ps_set (i := 4) nd rfl (Or.inl rfl) (pe_lst (pa_nil)))
      (pss_cons (ps_set (i := 5) nd rfl (Or.inr rfl) (pe_lst (pa_nil)))
      (pss_cons (ps_for PassesOwn.never rfl (pi_enum (by rfl) Z.enumerate (pa_cons (pv 0) (pa_nil))) (pg_tup rfl (pgs_cons (pg_name (i := 6) nd rfl (Or.inl rfl)) (pgs_cons (pg_name (i := 7) nd rfl (Or.inl rfl)) (pgs_nil))))
        (pss_cons (ps_if (pt_cmpR op_inJ (pv 6) (pv 3) (by rfl)) (pss_one (ps_expr (pe_bm PySem.F.plainAttrs_list PySem.F.slot_list_append PySem.F.type_list_append mt_append (pv 4) (pa_cons (pe_tup (pa_cons (pe_str) (pa_nil))) (pa_nil))))) (pss_nil))
      (pss_cons (ps_expr (pe_bm PySem.F.plainAttrs_list PySem.F.slot_list_append PySem.F.type_list_append mt_append (pv 5) (pa_cons (pe_callB call_len_seq (by rfl) Z.len (by decide +kernel) (pa_cons (pv 4) (pa_nil))) (pa_nil))))
      (pss_one (ps_expr (pe_bm PySem.F.plainAttrs_list PySem.F.slot_list_append PySem.F.type_list_append mt_append (pv 4) (pa_cons (pv 7) (pa_nil))))))))
      (pss_one (ps_ret (pe_tup (pa_cons (pv 4) (pa_cons (pe_lc (own := [("early", 8), ("late", 9)]) (g := gTup K 2 (gCons (gName 8) (gCons (gName 9) (gNil)))) (tt := tYes) (te := tTup (tCons (tOp (rIxL K) (tVar 5) (tVar 8)) (tCons (tOp (rIxL K) (tVar 5) (tVar 9)) (tNil)))) (by rfl) nd (pi_list (pv 1))
          (blkOk_by (own := [("early", 8), ("late", 9)]) (N := N_with_these) (sc := defScope s_with_these) (by decide +kernel)) (fun _ _ _ _ _ => pg_tup rfl (pgs_cons (pg_name (i := 8) nd rfl (Or.inl rfl)) (pgs_cons (pg_name (i := 9) nd rfl (Or.inl rfl)) (pgs_nil)))) (fun _ _ _ _ _ => pts_nil)
          (fun _ _ _ _ _ => pe_tup (pa_cons (pe_ix ix_list (pv 5) (pv 8) (fun _ _ => rfl)) (pa_cons (pe_ix ix_list (pv 5) (pv 9) (fun _ _ => rfl)) (pa_nil))))) (pa_nil)))))))))), ?_⟩
    refine ⟨_, rfl, c, ps.map fun x : Nat => (x : Int), rfl, SqL.of (by rw [List.map_map]; exact hc), (by rw [List.length_map]; omega), fun u S hu hS => ?_⟩
    dsimp only [cxOf, Cx.nox]
    have hS' : ∀ i : Nat, S (i : Int) = ps.contains i := fun i => by rw [hS, any_contains]
    have s0 := Same.updf (o := SetJ P w u S) hu
    obtain ⟨G0, eG⟩ : ∃ X, X = upd H u (SetJ P w u S) := ⟨_, rfl⟩
    have hu0 : G0 u = some (SetJ P w u S) := by rw [eG]; exact upd_same
    rw [← eG] at s0 ⊢
    clear eG hS
    refine ⟨(by show 0 ≤ sizeLine; omega), fun q hq => ⟨(by show 0 ≤ sizeLine; omega), fun r hr' => ?_⟩⟩
    have s1 := Same.updf (o := .lst []) hq
    have s2 := Same.updf (o := .lst []) hr'
    have nqr : q ≠ r := fun z => by
      rw [← z, upd_same] at hr'
      cases hr'
    have hqG : (upd (upd G0 q (.lst [])) r (.lst [])) q = some (.lst []) := by rw [upd_ne nqr, upd_same]
    have hrG : (upd (upd G0 q (.lst [])) r (.lst [])) r = some (.lst []) := upd_same
    have nH : H q = none := none_back s0 hq
    have nH2 : H r = none := none_back (s0.trans s1) hr'
    obtain ⟨G1, eG⟩ : ∃ X, X = upd (upd G0 q (.lst [])) r (.lst []) := ⟨_, rfl⟩
    have s01 : Same G0 G1 := by rw [eG]; exact s1.trans s2
    have sH := s0.trans s01
    rw [← eG] at hqG hrG ⊢
    clear eG s1 s2
    have ne1 : ∀ {c : Addr} {o : HO}, H c = some o → c ≠ q := fun e => ne_of_none e nH
    have ne2 : ∀ {c : Addr} {o : HO}, H c = some o → c ≠ r := fun e => ne_of_none e nH2
    have nuq : u ≠ q := fun z => by rw [z, hq] at hu0; cases hu0
    have nur : u ≠ r := fun z => by
      have := s01 _ _ hu0
      rw [z, hrG] at this
      cases this
    refine ⟨_, rfl, a, _, rfl, SqL.of (sH _ _ ha), ?_⟩
    refine for_it (n := es.length) (by have := walk_enum (K := K) (a := a) (xs := ts.map V.ref); rw [List.length_map, lt] at this; exact this) (fun i σ G => (∀ c o, c ≠ q → c ≠ r → G1 c = some o → G c = some o) ∧ RunAt K G q (wr es ps i) ∧ G r = some (.lst (numsV ((List.range i).map (sent ps)))) ∧ ∃ v6 v7, σ = [some (.ref a), some (.ref b), some (.ref c), some (.ref u), some (.ref q), some (.ref r), v6, v7, none, none])
      ⟨fun c o _ _ e => e, LsT.nil hqG, hrG, none, none, rfl⟩ (fun i σ G _ hh => SqL.of (hh.1 _ _ (ne1 ha) (ne2 ha) (sH _ _ ha))) ?_ ?_
    · rintro i v σ G' G hi ⟨bG, hQ, hM, v6, v7, rfl⟩ ⟨T, x1, x2, rfl, nT, rfl, g1, g2⟩
      dsimp only at g1 g2
      obtain rfl := Option.some.inj g1
      obtain ⟨t, e1, e2⟩ := ht i hi
      rw [e1] at g2
      obtain rfl := Option.some.inj g2
      have sT := Same.updf (o := .tup [V.int (i : Nat), V.ref t]) nT
      have he : SqT K G' t es[i].v := by
        rcases SqT_up sH e2 with (h | ⟨o, h⟩) | h
        · exact .inl (.inl (bG _ _ (fun z => by rw [z, hqG] at h; cases h) (fun z => by rw [z, hrG] at h; cases h) h))
        · exact .inl (.inr ⟨o, bG _ _ (fun z => by rw [z, hqG] at h; cases h) (fun z => by rw [z, hrG] at h; cases h) h⟩)
        · exact .inr h
      have heT := SqT_up sT he
      have hQT := hQ.same sT
      have hMT := sT _ _ hM
      have huT := sT _ _ (bG _ _ nuq nur (s01 _ _ hu0))
      have bT : ∀ c o, c ≠ q → c ≠ r → G1 c = some o → (upd G' T (.tup [V.int (i : Nat), V.ref t])) c = some o := fun c o a b e => sT _ _ (bG _ _ a b e)
      obtain ⟨G2, eG⟩ : ∃ X, X = upd G' T (.tup [V.int (i : Nat), V.ref t]) := ⟨_, rfl⟩
      have hTT : SqT K G2 T [V.int (i : Nat), V.ref t] := by rw [eG]; exact SqT.of upd_same
      rw [← eG] at heT hQT hMT huT bT ⊢
      clear eG sT hQ hM bG he nT
      refine ⟨T, [_, _], rfl, hTT, rfl, _, [_], rfl, _, [], rfl, rfl, ?_⟩
      refine ⟨_, rfl, _, rfl, (i : Int), u, S, rfl, rfl, huT, _, rfl, ?_⟩
      rw [hS' i]
      have le1 := wr_len2 hP.nd (show i ≤ es.length by omega) lP
      have fin : ∀ (G5 : Hp) (pre' : List Ev), (∀ c o, c ≠ q → c ≠ r → G1 c = some o → G5 c = some o) → RunAt K G5 q pre' → SqT K G5 t es[i].v → G5 r = some (.lst (numsV ((List.range i).map (sent ps)))) → pre es ps i = pre' →
          ∀ σ : L2.St, σ = [some (.ref a), some (.ref b), some (.ref c), some (.ref u), some (.ref q), some (.ref r), some (.int (i : Nat)), some (.ref t), none, none] → ∃ ys, G5 q = some (.lst ys) ∧ ys.length = sent ps i ∧ ∃ zs, G5 r = some (.lst zs) ∧ zs.length < sizeLine ∧
            ∃ G6, G6 = upd G5 r (.lst (zs ++ [.int ((sent ps i : Nat) : Int)])) ∧ G6 q = some (.lst ys) ∧ ys.length < sizeLine ∧ (∀ c o, c ≠ q → c ≠ r → G1 c = some o → (upd G6 q (.lst (ys ++ [.ref t]))) c = some o) ∧ RunAt K (upd G6 q (.lst (ys ++ [.ref t]))) q (wr es ps (i + 1)) ∧ (upd G6 q (.lst (ys ++ [.ref t]))) r = some (.lst (numsV ((List.range (i + 1)).map (sent ps)))) := fun G5 pre' b5 hQ5 he5 hM5 ep σ eσ => by
        have h6 := hQ5.but (But.upd' (p := r) (o := .lst (numsV ((List.range i).map (sent ps)) ++ [.int ((sent ps i : Nat) : Int)]))) nqr ⟨_, hM5⟩
        have he6 := SqT_but (But.upd' (p := r) (o := .lst (numsV ((List.range i).map (sent ps)) ++ [.int ((sent ps i : Nat) : Int)]))) he5 ⟨_, hM5⟩
        obtain ⟨ys, y1, y2, y3⟩ := h6.app he6
        rw [← ep] at y2 y3
        have pl := pre_len (es := es) hP.nd (show i ≤ es.length by omega)
        have y1' : G5 q = some (.lst ys) := by rw [upd_ne nqr] at y1; exact y1
        have cnt := List.length_filter_le (fun p => decide (p < i + 1)) ps
        refine ⟨ys, y1', by rw [y2, pl], _, hM5, by unfold numsV; rw [List.length_map, List.length_map, List.length_range]; omega, _, rfl, y1, ?_, fun c o n1 n2 e => ?_, ?_, ?_⟩
        · rw [y2, pl]
          unfold sent
          omega
        · rw [upd_ne n1, upd_ne n2]
          exact b5 _ _ n1 n2 e
        · rw [wr_succ, List.getElem?_eq_getElem hi]
          exact y3
        · rw [upd_ne nqr.symm, upd_same, List.range_succ]
          unfold numsV
          rw [List.map_append, List.map_append]
          rfl
      cases qc : ps.contains i with
      | true =>
        have ep : pre es ps i = wr es ps i ++ [.bar] := by
          unfold pre
          rw [qc]
          rfl
        obtain ⟨us, u1, u2, _⟩ := hQT.app heT
        refine iteT ⟨_, rfl, Or.inl ⟨rfl, _, SqL.of u1⟩, (by show 1 ≤ sizeLine; omega), fun tb htb => ?_⟩
        have sb := Same.updf (o := .tup [V.str "barrier"]) htb
        obtain ⟨us', u1', u2', u3'⟩ := (hQT.same sb).app (t := tb) (x := Ev.bar) (SqT.of upd_same)
        refine ⟨q, _, _, rfl, rfl, u1', by omega, ?_⟩
        have bq : But q (upd G2 tb (.tup [V.str "barrier"])) (upd (upd G2 tb (.tup [V.str "barrier"])) q (.lst (us' ++ [.ref tb]))) := But.upd'
        have he5 := SqT_but bq (SqT_up sb heT) ⟨_, u1'⟩
        have hM5 := bq _ _ nqr.symm (sb _ _ hMT)
        have b5 : ∀ c o, c ≠ q → c ≠ r → G1 c = some o → (upd (upd G2 tb (.tup [V.str "barrier"])) q (.lst (us' ++ [.ref tb]))) c = some o := fun c o n1 n2 e => bq _ _ n1 (sb _ _ (bT _ _ n1 n2 e))
        obtain ⟨G5, eG⟩ : ∃ X, X = upd (upd G2 tb (.tup [V.str "barrier"])) q (.lst (us' ++ [.ref tb])) := ⟨_, rfl⟩
        rw [← eG] at u3' he5 hM5 b5 ⊢
        clear eG bq
        obtain ⟨ys, y1, yl, zs, z1, z2, G6, e6, y6, yl2, c1, c2, c3⟩ := fin G5 _ b5 u3' he5 hM5 ep _ rfl
        refine ⟨_, rfl, Or.inl ⟨rfl, _, SqL.of z1⟩, _, rfl, q, _, rfl, .inl (SqL.of y1), r, _, _, rfl, rfl, z1, z2, ?_⟩
        rw [yl, ← e6]
        exact ⟨_, rfl, Or.inl ⟨rfl, _, SqL.of y6⟩, _, rfl, q, _, _, rfl, rfl, y6, yl2, c1, c2, c3, _, _, rfl⟩
      | false =>
        have ep : pre es ps i = wr es ps i := by
          unfold pre
          rw [qc]
          exact List.append_nil _
        obtain ⟨ys, y1, yl, zs, z1, z2, G6, e6, y6, yl2, c1, c2, c3⟩ := fin G2 _ bT hQT heT hMT ep _ rfl
        refine iteF ⟨_, rfl, Or.inl ⟨rfl, _, SqL.of z1⟩, _, rfl, q, _, rfl, .inl (SqL.of y1), r, _, _, rfl, rfl, z1, z2, ?_⟩
        rw [yl, ← e6]
        exact ⟨_, rfl, Or.inl ⟨rfl, _, SqL.of y6⟩, _, rfl, q, _, _, rfl, rfl, y6, yl2, c1, c2, c3, _, _, rfl⟩
    · rintro σ G ⟨bG, hQ, hM, v6, v7, rfl⟩
      have sG : Same H G := fun c o e => bG _ _ (ne1 e) (ne2 e) (sH _ _ e)
      obtain ⟨tw, hb, ltw, htw⟩ := hW.got
      refine via_nx ?_
      refine ⟨_, rfl, _, rfl, b, rfl, ⟨_, SqL.of (sG _ _ hb)⟩, fun D hD => ?_⟩
      refine lc_rel (n := ws.length) (by have := walk_list (K := K) (a := b) (xs := tw.map V.ref); rw [List.length_map, ltw] at this; exact this) (fun i => (fun w => true) (ws.getD i (0, 0))) (fun i y G => ∃ t, y = .ref t ∧ SqT K G t (wv ((fun w : Nat × Nat => (sent ps w.1, sent ps w.2)) (ws.getD i (0, 0))))) (fun i y G G' s ⟨t, e, h⟩ => ⟨t, e, SqT_up s h⟩) (by omega) hD (fun G2 s => SqL.of (s _ _ (sG _ _ hb))) ?_ ?_
      · rintro i v H2 H3 Qy Qn hi sH' hacc ⟨rfl, hv⟩ ky kn
        obtain ⟨t, e1, e2⟩ := htw i hi
        rw [e1] at hv
        obtain rfl : V.ref t = v := Option.some.inj hv
        have ew : ws.getD i (0, 0) = ws[i] := by
          rw [List.getD_eq_getElem?_getD, List.getElem?_eq_getElem hi]
          rfl
        obtain ⟨l1, l2⟩ := hlt _ (List.getElem_mem hi)
        have hw := SqT_up (sG.trans sH') e2
        rw [ew] at ky
        have at_ : ∀ j, j < es.length → (numsV ((List.range es.length).map (sent ps)))[j]? = some (.int (sent ps j : Int)) := fun j hj => by
          unfold numsV
          rw [List.getElem?_map, List.getElem?_map, List.getElem?_range hj]
          rfl
        refine ⟨t, [_, _], rfl, hw, rfl, _, [_], rfl, _, [], rfl, rfl, ?_⟩
        refine ⟨rfl, _, rfl, _, rfl, r, _, _, _, rfl, rfl, SqL.of (sH' _ _ hM), atI_nat (at_ _ l1), _, rfl, _, rfl, r, _, _, _, rfl, rfl, SqL.of (sH' _ _ hM), atI_nat (at_ _ l2), (by show 2 ≤ sizeLine; omega), fun T hT => ?_⟩
        obtain ⟨acc, hacc⟩ := hacc
        refine ky _ _ rfl (Same.updf hT) ⟨T, rfl, ?_⟩
        exact SqT.of (by rw [off_at (fun z => by rw [z, hacc] at hT; cases hT)]; exact upd_same)
      · intro H2 ys s2 hys py
        refine ⟨(by show 2 ≤ sizeLine; omega), fun T hT => ?_⟩
        have sT := Same.updf (o := .tup [V.ref q, V.ref D]) hT
        have pp := paired_selG (l := ws) (z := (0, 0)) (c := fun _ => true) (R := fun x y => ∃ t, y = .ref t ∧ SqT K (off H2 D) t (wv ((fun w : Nat × Nat => (sent ps w.1, sent ps w.2)) x))) py
        rw [List.filter_eq_self.mpr (fun _ _ => rfl)] at pp
        have hD0 := none_back sG hD
        have hWD : WtAt K H2 D (movedL ps ws) := by
          obtain ⟨ts', e1, e2, e3⟩ := (LsT.of_paired (vv := fun x : Nat × Nat => wv ((fun w : Nat × Nat => (sent ps w.1, sent ps w.2)) x)) hys (paired_mono (fun x y ⟨t, e, h⟩ => ⟨t, e, SqT_up (off_le _ _) h⟩) pp)).ex
          refine ⟨ts', e1, by unfold movedL; rw [List.length_map, e2], fun i t x h1 h2 => ?_⟩
          unfold movedL at h2
          rw [List.getElem?_map] at h2
          obtain ⟨v, q1, rfl⟩ := Option.map_eq_some_iff.mp h2
          exact e3 i t v h1 q1
        exact k T q D _ ((sG.trans s2).trans sT) nH hD0 upd_same (hQ.same (s2.trans sT)) (hWD.same sT)
abbrev s_barriers_for : Stmt := top 29
abbrev N_barriers_for : List Str := ["run", "waits"]
theorem sc_barriers_for : FnScope N_barriers_for ["run", "waits"] (defScope s_barriers_for) := ⟨rfl, rfl, rfl, by decide +kernel, rfl, by decide +kernel, by decide +kernel⟩
theorem ok_barriers_for {f : Addr} {fd : FuncData} (F : FnP K "barriers_for" s_barriers_for f fd) (Z : FreeS mg)
    {f_need_run : Addr} {d_need_run : FuncData} (g_need_run : mg "need_run" = some (.ref f_need_run)) (F_need_run : FnP K "need_run" s_need_run f_need_run d_need_run) (G_need_run : FnOk P w K mg base CX0 5 f_need_run d_need_run ["run"] (spNeedRun K))
    {f_need_waits : Addr} {d_need_waits : FuncData} (g_need_waits : mg "need_waits" = some (.ref f_need_waits)) (F_need_waits : FnP K "need_waits" s_need_waits f_need_waits d_need_waits) (G_need_waits : FnOk P w K mg base CX0 6 f_need_waits d_need_waits ["run", "waits"] (spNeedWaits K))
    {f_ends_of : Addr} {d_ends_of : FuncData} (g_ends_of : mg "ends_of" = some (.ref f_ends_of)) (F_ends_of : FnP K "ends_of" s_ends_of f_ends_of d_ends_of) (G_ends_of : FnOk P w K mg base CX0 5 f_ends_of d_ends_of ["waits"] (spEnds K))
    {f_broken_waits : Addr} {d_broken_waits : FuncData} (g_broken_waits : mg "broken_waits" = some (.ref f_broken_waits)) (F_broken_waits : FnP K "broken_waits" s_broken_waits f_broken_waits d_broken_waits) (G_broken_waits : FnOk P w K mg base CX0 2 f_broken_waits d_broken_waits ["run", "waits"] (spBrokenW K)) :
    FnOk P w K mg base CX0 7 f fd ["run", "waits"] (spFor K) := by
  have b_need_run : Binds K d_need_run ["run"] [] := F_need_run.bindsN fun _ _ _ _ _ _ us hl => match us, hl with | [_], _ => rfl
  have b_need_waits : Binds K d_need_waits ["run", "waits"] [] := F_need_waits.bindsN fun _ _ _ _ _ _ us hl => match us, hl with | [_, _], _ => rfl
  have b_ends_of : Binds K d_ends_of ["waits"] [] := F_ends_of.bindsN fun _ _ _ _ _ _ us hl => match us, hl with | [_], _ => rfl
  have b_broken_waits : Binds K d_broken_waits ["run", "waits"] [] := F_broken_waits.bindsN fun _ _ _ _ _ _ us hl => match us, hl with | [_, _], _ => rfl
  refine F.ok sc_barriers_for (fun vs H Q E h => ?_) (fun cdv A outer s H vs Q E hr h => ?_)
  · obtain ⟨a, b, es, ws, rfl, _⟩ := h
    rfl
  · obtain ⟨a, b, es, ws, rfl, hR, hW, hT, k⟩ := h
    have nd := sc_barriers_for.nd
    refine ⟨_, PSs.nox (pss_cons (ps_expr (pe_call G_need_run (hr.mono (by decide)) rfl g_need_run F_need_run.kp b_need_run .nil pass0 (pa_cons (pv 0) (pa_nil))))
      (pss_cons (ps_expr (pe_call G_need_waits (hr.mono (by decide)) rfl g_need_waits F_need_waits.kp b_need_waits .nil pass0 (pa_cons (pv 0) (pa_cons (pv 1) (pa_nil)))))
      (pss_one (ps_ret (pe_call G_ends_of (hr.mono (by decide)) rfl g_ends_of F_ends_of.kp b_ends_of .nil pass0 (pa_cons (pe_call G_broken_waits (hr.mono (by decide)) rfl g_broken_waits F_broken_waits.kp b_broken_waits .nil pass0 (pa_cons (pv 0) (pa_cons (pv 1) (pa_nil)))) (pa_nil))))))), ?_⟩
    refine ⟨_, rfl, a, es, rfl, hR, fun G1 s1 => ⟨_, rfl, _, rfl, a, b, es, ws, rfl, hR.same s1, hW.same s1, fun G2 s2 => ?_⟩⟩
    have s12 := s1.trans s2
    refine ⟨_, rfl, _, rfl, a, b, es, ws, rfl, hR.same s12, hW.same s12, fun q G s nq hq => ?_⟩
    have s123 := s12.trans s
    refine ⟨q, _, rfl, hq, (by have := List.length_filter_le (fun w => decide (ahead es w.1 = ahead es w.2)) ws; have := hW.len; unfold brokenL; omega), tabs_same s123 hT, fun r G' e T' nr hr' => ?_⟩
    exact k r G' ((ExtN.of s123).trans e) T' (NewN.back (ExtN.of s123) nr) hr'
end
end K17
set_option Elab.async false
set_option linter.all false
set_option maxRecDepth 100000
set_option maxHeartbeats 8000000
/-! Comprehensions over lists of numbers and of tuples. -/
namespace K17
open PySem PySem.Spec PyProof.Rows L2 KB LamX
theorem paired_fm {α : Type} {f : Nat → Option α} {R : α → V → Prop} : ∀ {is : List Nat} {ys : List V}, Paired (fun i y => ∃ d, f i = some d ∧ R d y) is ys → Paired R (is.filterMap f) ys
  | _, _, .nil => .nil
  | i :: is, _, .cons r t => by
    obtain ⟨d, e, h⟩ := r
    rw [List.filterMap_cons, e]
    exact .cons h (paired_fm t)
theorem fm_get {α β : Type} (f : α → β) (c : α → Bool) (l : List α) : (((List.range l.length).filter fun i => ((l[i]?).map c).getD false).filterMap fun i => (l[i]?).map f) = (l.filter c).map f := by
  induction l with
  | nil => rfl
  | cons x r ih =>
    rw [List.length_cons, List.range_succ_eq_map, List.filter_cons, List.filter_map]
    have e : ((fun i => (((x :: r)[i]?).map c).getD false) ∘ Nat.succ) = fun i => ((r[i]?).map c).getD false := rfl
    have e2 : ∀ is : List Nat, ((is.map Nat.succ).filterMap fun i => ((x :: r)[i]?).map f) = is.filterMap fun i => (r[i]?).map f := fun is => by
      rw [List.filterMap_map]
      rfl
    rw [e]
    by_cases h : c x = true
    · rw [if_pos (by simpa using h), List.filterMap_cons, e2, ih, List.filter_cons, if_pos h]
      rfl
    · rw [if_neg (by simpa using h), e2, ih, List.filter_cons, if_neg h]
theorem sel_bool (c : Nat → Bool) (l : List Nat) : ((List.range l.length).filterMap fun i => (l[i]?).bind fun x => if c x = true then some (V.int (x : Int)) else none) = numsV (l.filter c) := by
  induction l with
  | nil => rfl
  | cons x l ih =>
    rw [List.length_cons, List.range_succ_eq_map, List.filterMap_cons, List.filterMap_map, List.filter_cons]
    have e : ((fun i => ((x :: l)[i]?).bind fun x => if c x = true then some (V.int (x : Int)) else none) ∘ Nat.succ) = fun i => (l[i]?).bind fun x => if c x = true then some (V.int (x : Int)) else none := rfl
    rw [e, ih]
    by_cases h : c x = true
    · simp [h, numsV]
    · simp [h, numsV]
theorem paired_len {α β : Type} {R : α → β → Prop} : ∀ {xs : List α} {ys : List β}, Paired R xs ys → xs.length = ys.length
  | _, _, .nil => rfl
  | _, _, .cons _ t => congrArg (· + 1) (paired_len t)
theorem lc_nums {K : PySem.W.Frag} {l : List Nat} {a : Addr} {g : TG} {tt : TT} {te : TE} {vs : List Nat} {σ : L2.St} {H1 : Hp} {D : Addr} {Qd : Hp → Prop} (c : Nat → Bool) (hn : l.length ≤ 100000) (ha : H1 a = some (.lst (numsV l))) (hD : H1 D = none)
    (hs : ∀ p H (Qy : V → Hp → Prop) (Qn : Hp → Prop), p ∈ l → Same H1 H → (∀ H4, Same H H4 → c p = true → Qy (.int (p : Int)) H4) → (∀ H4, Same H H4 → c p = false → Qn H4) →
      g (.int (p : Int)) (wipe σ vs) H fun σ2 H2 => wipe σ2 vs = wipe σ vs ∧ tt σ2 H2 fun b H3 => if b = true then te σ2 H3 Qy else Qn H3)
    (hd : ∀ H, Same H1 H → H D = some (.lst (numsV (l.filter c))) → Qd H) :
    ∃ W : Nat → Nat → Hp → Prop, (∃ m, W 0 m (upd H1 D (.lst []))) ∧ ∀ i m H, W i m H →
      ((Itl K a).stop i H ∧ Qd H) ∨ ((Itl K a).go i H ∧ ∃ Nx : Hp → Prop, (∀ H', Nx H' → ∃ m', m' < m ∧ W (i + 1) m' H') ∧ ∀ x H', (Itl K a).yld i H x H' → g x (wipe σ vs) H' fun σ2 H2 => wipe σ2 vs = wipe σ vs ∧ tt σ2 H2 fun b H3 =>
        if b = true then te σ2 H3 fun y H4 => ∃ acc, H4 D = some (.lst acc) ∧ acc.length < sizeLine ∧ Nx (upd H4 D (.lst (acc ++ [y]))) else Nx H3) := by
  have ln : (numsV l).length = l.length := List.length_map _
  refine lc_sel (n := (numsV l).length) (walk_list (K := K) (a := a) (xs := numsV l)) (fun j => (l[j]?).bind fun x => if c x = true then some (V.int (x : Int)) else none) (by omega) hD (fun H2 s3 => SqL.of (s3 _ _ ha)) ?_ ?_
  · rintro j v H5 H6 Qy Qn hj s5 ⟨rfl, hy⟩ ky_ kn
    have lj : j < l.length := by omega
    unfold numsV at hy
    rw [List.getElem?_map, List.getElem?_eq_getElem lj] at hy
    obtain rfl := Option.some.inj hy
    rw [List.getElem?_eq_getElem lj, Option.bind_some] at ky_ kn
    exact hs _ _ Qy Qn (List.getElem_mem lj) s5 (fun H4 s4 e => ky_ _ _ s4 (by rw [if_pos e])) (fun H4 s4 e => kn _ s4 (by rw [e]; rfl))
  · intro H5 s5 hR
    rw [ln, sel_bool] at hR
    exact hd H5 s5 hR
theorem lc_bools {K : PySem.W.Frag} {l : List Nat} {a : Addr} {g : TG} {tt : TT} {te : TE} {vs : List Nat} {σ : L2.St} {H1 : Hp} {D : Addr} {Qd : Hp → Prop} (c : Nat → Bool) (hn : l.length ≤ 100000) (ha : H1 a = some (.lst (numsV l))) (hD : H1 D = none)
    (hs : ∀ p H (Qy : V → Hp → Prop) (Qn : Hp → Prop), p ∈ l → Same H1 H → (∀ H4, Same H H4 → Qy (.bl (c p)) H4) →
      g (.int (p : Int)) (wipe σ vs) H fun σ2 H2 => wipe σ2 vs = wipe σ vs ∧ tt σ2 H2 fun b H3 => if b = true then te σ2 H3 Qy else Qn H3)
    (hd : ∀ H, Same H1 H → H D = some (.lst ((l.map c).map V.bl)) → Qd H) :
    ∃ W : Nat → Nat → Hp → Prop, (∃ m, W 0 m (upd H1 D (.lst []))) ∧ ∀ i m H, W i m H →
      ((Itl K a).stop i H ∧ Qd H) ∨ ((Itl K a).go i H ∧ ∃ Nx : Hp → Prop, (∀ H', Nx H' → ∃ m', m' < m ∧ W (i + 1) m' H') ∧ ∀ x H', (Itl K a).yld i H x H' → g x (wipe σ vs) H' fun σ2 H2 => wipe σ2 vs = wipe σ vs ∧ tt σ2 H2 fun b H3 =>
        if b = true then te σ2 H3 fun y H4 => ∃ acc, H4 D = some (.lst acc) ∧ acc.length < sizeLine ∧ Nx (upd H4 D (.lst (acc ++ [y]))) else Nx H3) := by
  have ln : (numsV l).length = l.length := List.length_map _
  refine lc_sel (n := (numsV l).length) (walk_list (K := K) (a := a) (xs := numsV l)) (fun j => (l[j]?).map fun x => V.bl (c x)) (by omega) hD (fun H2 s3 => SqL.of (s3 _ _ ha)) ?_ ?_
  · rintro j v H5 H6 Qy Qn hj s5 ⟨rfl, hy⟩ ky_ kn
    have lj : j < l.length := by omega
    unfold numsV at hy
    rw [List.getElem?_map, List.getElem?_eq_getElem lj] at hy
    obtain rfl := Option.some.inj hy
    rw [List.getElem?_eq_getElem lj, Option.map_some] at ky_
    exact hs _ _ Qy Qn (List.getElem_mem lj) s5 (fun H4 s4 => ky_ _ _ s4 rfl)
  · intro H5 s5 hR
    refine hd H5 s5 ?_
    rw [hR, ln]
    refine congrArg (fun z => some (HO.lst z)) ?_
    refine List.ext_getElem? fun j => ?_
    have key : ∀ m : Nat, (List.range m).filterMap (fun j => (l[j]?).map fun x => V.bl (c x)) = ((l.take m).map c).map V.bl := fun m => by
      induction m with
      | zero => rfl
      | succ m ih =>
        rw [List.range_succ, List.filterMap_append, ih, List.take_succ, List.map_append, List.map_append]
        cases h : l[m]? <;> simp [h]
    rw [key, List.take_length]
theorem ls_bools {K : PySem.W.Frag} {α : Type} {vv : α → List V} {xs : List α} {a : Addr} {g : TG} {tt : TT} {te : TE} {vs : List Nat} {σ : L2.St} {H1 : Hp} {D : Addr} {Qd : Hp → Prop} (c : α → Bool) (hn : xs.length ≤ 100000) (ha : LsT K vv H1 a xs) (hD : H1 D = none)
    (hs : ∀ x t H (Qy : V → Hp → Prop) (Qn : Hp → Prop), x ∈ xs → Same H1 H → SqT K H t (vv x) → (∀ H4, Same H H4 → Qy (.bl (c x)) H4) →
      g (.ref t) (wipe σ vs) H fun σ2 H2 => wipe σ2 vs = wipe σ vs ∧ tt σ2 H2 fun b H3 => if b = true then te σ2 H3 Qy else Qn H3)
    (hd : ∀ H, Same H1 H → H D = some (.lst ((xs.map c).map V.bl)) → Qd H) :
    ∃ W : Nat → Nat → Hp → Prop, (∃ m, W 0 m (upd H1 D (.lst []))) ∧ ∀ i m H, W i m H →
      ((Itl K a).stop i H ∧ Qd H) ∨ ((Itl K a).go i H ∧ ∃ Nx : Hp → Prop, (∀ H', Nx H' → ∃ m', m' < m ∧ W (i + 1) m' H') ∧ ∀ x H', (Itl K a).yld i H x H' → g x (wipe σ vs) H' fun σ2 H2 => wipe σ2 vs = wipe σ vs ∧ tt σ2 H2 fun b H3 =>
        if b = true then te σ2 H3 fun y H4 => ∃ acc, H4 D = some (.lst acc) ∧ acc.length < sizeLine ∧ Nx (upd H4 D (.lst (acc ++ [y]))) else Nx H3) := by
  obtain ⟨ts, h1, h2, h3⟩ := ha.got
  refine lc_sel (n := xs.length) (by have := walk_list (K := K) (a := a) (xs := ts.map V.ref); rw [List.length_map, h2] at this; exact this) (fun j => (xs[j]?).map fun x => V.bl (c x)) hn hD (fun H2 s3 => SqL.of (s3 _ _ h1)) ?_ ?_
  · rintro j v H5 H6 Qy Qn hj s5 ⟨rfl, hy⟩ ky_ kn
    obtain ⟨t, e1, e2⟩ := h3 j hj
    rw [e1] at hy
    obtain rfl := Option.some.inj hy
    exact hs xs[j] t _ Qy Qn (List.getElem_mem hj) s5 (SqT_up s5 e2) fun H4 s4 => ky_ _ _ s4 (by rw [List.getElem?_eq_getElem hj]; rfl)
  · intro H2 s2 hR
    refine hd H2 s2 ?_
    rw [hR, fm_all (fun x => V.bl (c x)) xs, List.map_map]
    rfl
theorem ls_rel {K : PySem.W.Frag} {α : Type} {vv : α → List V} {xs : List α} {a : Addr} {g : TG} {tt : TT} {te : TE} {vs : List Nat} {σ : L2.St} {H1 : Hp} {D : Addr} {Qd : Hp → Prop} (c : α → Bool) (R : α → V → Hp → Prop) (hR : ∀ x y H H', Same H H' → R x y H → R x y H') (hn : xs.length ≤ 100000) (ha : LsT K vv H1 a xs) (hD : H1 D = none)
    (hs : ∀ x t H (Qy : V → Hp → Prop) (Qn : Hp → Prop), x ∈ xs → Same H1 H → (∃ acc, H D = some (.lst acc)) → SqT K H t (vv x) → SqT K (off H D) t (vv x) → (∀ y H4, c x = true → Same H H4 → R x y (off H4 D) → Qy y H4) → (∀ H4, c x = false → Same H H4 → Qn H4) →
      g (.ref t) (wipe σ vs) H fun σ2 H2 => wipe σ2 vs = wipe σ vs ∧ tt σ2 H2 fun b H3 => if b = true then te σ2 H3 Qy else Qn H3)
    (hd : ∀ H ys, Same H1 H → H D = some (.lst ys) → Paired (fun x y => R x y (off H D)) (xs.filter c) ys → Qd H) :
    ∃ W : Nat → Nat → Hp → Prop, (∃ m, W 0 m (upd H1 D (.lst []))) ∧ ∀ i m H, W i m H →
      ((Itl K a).stop i H ∧ Qd H) ∨ ((Itl K a).go i H ∧ ∃ Nx : Hp → Prop, (∀ H', Nx H' → ∃ m', m' < m ∧ W (i + 1) m' H') ∧ ∀ x H', (Itl K a).yld i H x H' → g x (wipe σ vs) H' fun σ2 H2 => wipe σ2 vs = wipe σ vs ∧ tt σ2 H2 fun b H3 =>
        if b = true then te σ2 H3 fun y H4 => ∃ acc, H4 D = some (.lst acc) ∧ acc.length < sizeLine ∧ Nx (upd H4 D (.lst (acc ++ [y]))) else Nx H3) := by
  obtain ⟨ts, h1, h2, h3⟩ := ha.got
  refine lc_rel (n := xs.length) (by have := walk_list (K := K) (a := a) (xs := ts.map V.ref); rw [List.length_map, h2] at this; exact this) (fun i => ((xs[i]?).map c).getD false) (fun i y G => ∃ x, ((xs[i]?).map id) = some x ∧ R x y G) (fun i y G G' s ⟨x, e, h⟩ => ⟨x, e, hR _ _ _ _ s h⟩) hn hD (fun H2 s3 => SqL.of (s3 _ _ h1)) ?_ ?_
  · rintro j v H5 H6 Qy Qn hj s5 hacc ⟨rfl, hy⟩ ky_ kn
    obtain ⟨t, e1, e2⟩ := h3 j hj
    rw [e1] at hy
    obtain rfl := Option.some.inj hy
    rw [List.getElem?_eq_getElem hj] at ky_ kn
    exact hs xs[j] t _ Qy Qn (List.getElem_mem hj) s5 hacc (SqT_up s5 e2) (SqT_off e2 s5 hD) (fun y H4 cx s4 r => ky_ y H4 cx s4 ⟨_, rfl, r⟩) fun H4 cx s4 => kn H4 cx s4
  · intro H2 ys s2 hys py
    refine hd H2 ys s2 hys ?_
    have h := paired_fm py
    rw [fm_get id c xs, List.map_id] at h
    exact h
end K17
set_option linter.all false
/-! How many lists of the fewest places there are: theory alone. -/
namespace K17
def reachN (ws : List (Nat × Nat)) (n p : Nat) : Nat := (ws.filter fun w => decide (p ≤ w.1)).foldl (fun m w => min m w.2) n
theorem fold_le : ∀ (l : List (Nat × Nat)) (m : Nat), l.foldl (fun m w => min m w.2) m ≤ m ∧ (∀ w ∈ l, l.foldl (fun m w => min m w.2) m ≤ w.2) ∧ (l.foldl (fun m w => min m w.2) m = m ∨ ∃ w ∈ l, l.foldl (fun m w => min m w.2) m = w.2)
  | [], m => ⟨Nat.le_refl _, fun w h => (nomatch h), .inl rfl⟩
  | x :: r, m => by
    obtain ⟨h1, h2, h3⟩ := fold_le r (min m x.2)
    rw [List.foldl_cons]
    refine ⟨by omega, fun w hw => ?_, ?_⟩
    · rcases List.mem_cons.mp hw with rfl | hw
      · omega
      · exact h2 w hw
    · rcases h3 with h3 | ⟨w, hw, h3⟩
      · by_cases c : m ≤ x.2
        · left; omega
        · exact .inr ⟨x, List.mem_cons_self, by omega⟩
      · exact .inr ⟨w, List.mem_cons_of_mem _ hw, h3⟩
theorem reach_le (ws : List (Nat × Nat)) (n p : Nat) : reachN ws n p ≤ n := (fold_le _ n).1
theorem reach_wait {ws : List (Nat × Nat)} {n p : Nat} {w : Nat × Nat} (h : w ∈ ws) (hp : p ≤ w.1) : reachN ws n p ≤ w.2 := (fold_le _ n).2.1 w (List.mem_filter.mpr ⟨h, decide_eq_true hp⟩)
theorem reach_or (ws : List (Nat × Nat)) (n p : Nat) : reachN ws n p = n ∨ ∃ w ∈ ws, p ≤ w.1 ∧ reachN ws n p = w.2 := by
  rcases (fold_le (ws.filter fun w => decide (p ≤ w.1)) n).2.2 with h | ⟨w, hw, h⟩
  · exact .inl h
  · obtain ⟨h1, h2⟩ := List.mem_filter.mp hw
    exact .inr ⟨w, h1, of_decide_eq_true h2, h⟩
/-- the places behind p, up to r -/
def onw (p r : Nat) : List Nat := (List.range (r - p)).map fun i => p + 1 + i
theorem mem_onw {p r q : Nat} : q ∈ onw p r ↔ p < q ∧ q ≤ r := by
  unfold onw
  rw [List.mem_map]
  constructor
  · rintro ⟨i, hi, rfl⟩
    have := List.mem_range.mp hi
    omega
  · rintro ⟨h1, h2⟩
    exact ⟨q - p - 1, List.mem_range.mpr (by omega), by omega⟩
theorem onw_nd (p r : Nat) : (onw p r).Nodup := by
  unfold onw
  rw [List.nodup_iff_pairwise_ne, List.pairwise_map]
  exact (List.nodup_iff_pairwise_ne.mp List.nodup_range).imp fun h z => h (by omega)
/-- lists of k places behind p that serve all stretches from p on -/
def lists (ws : List (Nat × Nat)) (n : Nat) : Nat → Nat → List (List Nat)
  | 0, p => if reachN ws n p = n then [[]] else []
  | k + 1, p => (onw p (min (reachN ws n p) (n - 1))).flatMap fun q => (lists ws n k q).map (q :: ·)
section
variable {ws : List (Nat × Nat)} {n : Nat} (hw : ∀ w ∈ ws, w.1 < w.2 ∧ w.2 < n)
include hw
theorem mem_lists : ∀ {k p : Nat} {P : List Nat}, P ∈ lists ws n k p ↔ P.length = k ∧ P.Pairwise (· < ·) ∧ (∀ q ∈ P, p < q ∧ q < n) ∧ ∀ w ∈ ws, p ≤ w.1 → ∃ q ∈ P, w.1 < q ∧ q ≤ w.2
  | 0, p, P => by
    unfold lists
    constructor
    · intro h
      split at h
      · rename_i e
        rw [List.mem_singleton.mp h]
        refine ⟨rfl, .nil, fun q h => (nomatch h), fun w h1 h2 => ?_⟩
        have := reach_wait (n := n) h1 h2
        have := (hw w h1).2
        omega
      · cases h
    · rintro ⟨h1, _, _, h4⟩
      have e := List.length_eq_zero_iff.mp h1
      subst e
      have : reachN ws n p = n := by
        rcases reach_or ws n p with h | ⟨w, m, h, _⟩
        · exact h
        · obtain ⟨q, hq, _⟩ := h4 w m h
          cases hq
      rw [if_pos this]
      exact List.mem_singleton.mpr rfl
  | k + 1, p, P => by
    unfold lists
    rw [List.mem_flatMap]
    constructor
    · rintro ⟨q, hq, h⟩
      obtain ⟨P', h', rfl⟩ := List.mem_map.mp h
      obtain ⟨q1, q2⟩ := mem_onw.mp hq
      obtain ⟨h1, h2, h3, h4⟩ := mem_lists.mp h'
      refine ⟨by rw [List.length_cons, h1], List.pairwise_cons.mpr ⟨fun x hx => (h3 x hx).1, h2⟩, fun x hx => ?_, fun w m hp => ?_⟩
      · rcases List.mem_cons.mp hx with rfl | hx
        · omega
        · have := h3 x hx
          omega
      · by_cases c : q ≤ w.1
        · obtain ⟨x, hx, h⟩ := h4 w m c
          exact ⟨x, List.mem_cons_of_mem _ hx, h⟩
        · have := reach_wait (n := n) m hp
          exact ⟨q, List.mem_cons_self, by omega, by omega⟩
    · rintro ⟨h1, h2, h3, h4⟩
      cases P with
      | nil => cases h1
      | cons q r =>
        obtain ⟨p1, p2⟩ := List.pairwise_cons.mp h2
        have hq := h3 q List.mem_cons_self
        have hr : q ≤ reachN ws n p := by
          rcases reach_or ws n p with h | ⟨w, m, h, e⟩
          · omega
          · obtain ⟨x, hx, hh⟩ := h4 w m h
            rcases List.mem_cons.mp hx with rfl | hx
            · omega
            · have := p1 x hx
              omega
        refine ⟨q, mem_onw.mpr ⟨hq.1, by omega⟩, List.mem_map.mpr ⟨r, mem_lists.mpr ⟨by simpa using h1, p2, fun x hx => ⟨p1 x hx, (h3 x (List.mem_cons_of_mem _ hx)).2⟩, fun w m hp => ?_⟩, rfl⟩⟩
        obtain ⟨x, hx, hh⟩ := h4 w m (by omega)
        rcases List.mem_cons.mp hx with rfl | hx
        · omega
        · exact ⟨x, hx, hh⟩
end
theorem nodup_flat {f : Nat → List (List Nat)} : ∀ {l : List Nat}, l.Nodup → (∀ q ∈ l, (f q).Nodup) → (l.flatMap fun q => (f q).map (q :: ·)).Nodup
  | [], _, _ => List.nodup_nil
  | q :: r, nd, h => by
    obtain ⟨n1, n2⟩ := List.nodup_cons.mp nd
    rw [List.flatMap_cons]
    refine List.nodup_append.mpr ⟨?_, nodup_flat n2 fun x hx => h x (List.mem_cons_of_mem _ hx), fun a ha b hb z => ?_⟩
    · rw [List.nodup_iff_pairwise_ne, List.pairwise_map]
      exact (List.nodup_iff_pairwise_ne.mp (h q List.mem_cons_self)).imp fun h z => h (List.cons.inj z).2
    · obtain ⟨x, _, rfl⟩ := List.mem_map.mp ha
      obtain ⟨y, hy, hb⟩ := List.mem_flatMap.mp hb
      obtain ⟨b', _, rfl⟩ := List.mem_map.mp hb
      exact n1 ((List.cons.inj z).1 ▸ hy)
theorem lists_nd (ws : List (Nat × Nat)) (n : Nat) : ∀ k p, (lists ws n k p).Nodup
  | 0, p => by
    unfold lists
    split
    · exact List.nodup_cons.mpr ⟨fun h => (nomatch h), List.nodup_nil⟩
    · exact List.nodup_nil
  | k + 1, p => nodup_flat (onw_nd _ _) fun q _ => lists_nd ws n k q
def cnt (ws : List (Nat × Nat)) (n k p : Nat) : Nat := (lists ws n k p).length
theorem cnt_succ' (ws : List (Nat × Nat)) (n k p : Nat) : cnt ws n (k + 1) p = ((onw p (min (reachN ws n p) (n - 1))).map (cnt ws n k)).sum := by
  show ((onw p (min (reachN ws n p) (n - 1))).flatMap fun q => (lists ws n k q).map (q :: ·)).length = _
  rw [List.length_flatMap]
  congr 1
  refine List.map_congr_left fun q _ => ?_
  rw [List.length_map]
  rfl
/-- how far it is from p to the end, how many ways there are -/
def Good (ws : List (Nat × Nat)) (n p s v : Nat) : Prop := (p = n ∧ s = 0 ∧ v = 1) ∨ (p < n ∧ 1 ≤ s ∧ (∀ k, k + 1 < s → cnt ws n k p = 0) ∧ cnt ws n (s - 1) p = v ∧ 0 < v)
theorem sum_zero : ∀ {l : List Nat} {f : Nat → Nat}, (∀ q ∈ l, f q = 0) → (l.map f).sum = 0
  | [], _, _ => rfl
  | q :: r, f, h => by
    rw [List.map_cons, List.sum_cons, h q List.mem_cons_self, sum_zero fun x hx => h x (List.mem_cons_of_mem _ hx)]
theorem sum_filter {S W f : Nat → Nat} {m : Nat} : ∀ {l : List Nat}, (∀ q ∈ l, f q = if S q = m then W q else 0) → (l.map f).sum = ((l.filter fun q => decide (S q = m)).map W).sum
  | [], _ => rfl
  | q :: r, h => by
    rw [List.map_cons, List.sum_cons, h q List.mem_cons_self, sum_filter (S := S) (W := W) fun x hx => h x (List.mem_cons_of_mem _ hx), List.filter_cons]
    by_cases c : S q = m
    · rw [if_pos c, if_pos (decide_eq_true c), List.map_cons, List.sum_cons]
    · rw [if_neg c, if_neg (by rw [decide_eq_true_eq]; exact c), Nat.zero_add]
theorem sum_pos {l : List Nat} {W : Nat → Nat} {q : Nat} (h : q ∈ l) (hp : 0 < W q) : 0 < (l.map W).sum := by
  induction l with
  | nil => cases h
  | cons x r ih =>
    rw [List.map_cons, List.sum_cons]
    rcases List.mem_cons.mp h with rfl | h
    · omega
    · have := ih h
      omega
theorem good_step {ws : List (Nat × Nat)} {n p f : Nat} {S W : Nat → Nat} (hp : p < n) (hg : ∀ q, p < q → q ≤ n → Good ws n q (S q) (W q)) (hr : p < reachN ws n p) (hf : ∃ q ∈ onw p (reachN ws n p), S q = f) (hm : ∀ q ∈ onw p (reachN ws n p), f ≤ S q) :
    Good ws n p (f + 1) (((onw p (reachN ws n p)).filter fun q => decide (S q = f)).map W).sum := by
  have rl := reach_le ws n p
  by_cases e : reachN ws n p = n
  · have gn := hg n hp (Nat.le_refl _)
    have sn : S n = 0 ∧ W n = 1 := by
      rcases gn with ⟨_, a, b⟩ | ⟨a, _⟩
      · exact ⟨a, b⟩
      · omega
    have f0 : f = 0 := by
      have := hm n (mem_onw.mpr ⟨hp, by omega⟩)
      omega
    subst f0
    have h1 : ∀ q ∈ onw p n, (if q = n then 1 else 0) = if S q = 0 then W q else 0 := fun q hq => by
      obtain ⟨a, b⟩ := mem_onw.mp hq
      by_cases z : q = n
      · subst z
        rw [if_pos rfl, if_pos sn.1, sn.2]
      · rw [if_neg z, if_neg]
        rcases hg q a b with ⟨y, _⟩ | ⟨_, y, _⟩
        · exact absurd y z
        · omega
    have hsum : ((onw p n).map fun q => if q = n then 1 else 0).sum = 1 := by
      have : onw p n = onw p (n - 1) ++ [n] := by
        unfold onw
        rw [show n - p = (n - 1 - p) + 1 by omega, List.range_succ, List.map_append]
        congr 1
        show [p + 1 + (n - 1 - p)] = [n]
        congr 1
        omega
      rw [this, List.map_append, List.sum_append, sum_zero fun q hq => if_neg (by have := mem_onw.mp hq; omega)]
      show 0 + ((if n = n then 1 else 0) + 0) = 1
      rw [if_pos rfl]
      rfl
    rw [e, ← sum_filter h1, hsum]
    refine .inr ⟨hp, by omega, fun k hk => by omega, ?_, by omega⟩
    show (if reachN ws n p = n then [[]] else []).length = 1
    rw [if_pos e]
    rfl
  · have fq : ∀ q ∈ onw p (reachN ws n p), q < n ∧ 1 ≤ S q ∧ (∀ k, k + 1 < S q → cnt ws n k q = 0) ∧ cnt ws n (S q - 1) q = W q ∧ 0 < W q := fun q hq => by
      obtain ⟨a, b⟩ := mem_onw.mp hq
      rcases hg q a (by omega) with ⟨y, _⟩ | y
      · omega
      · exact y
    have em : min (reachN ws n p) (n - 1) = reachN ws n p := by omega
    obtain ⟨q0, hq0, e0⟩ := hf
    have f1 : 1 ≤ f := by
      have := (fq q0 hq0).2.1
      omega
    have c0 : cnt ws n 0 p = 0 := by
      show (if reachN ws n p = n then [[]] else []).length = 0
      rw [if_neg e]
      rfl
    have cf : cnt ws n f p = (((onw p (reachN ws n p)).filter fun q => decide (S q = f)).map W).sum := by
      obtain ⟨g, rfl⟩ : ∃ g, f = g + 1 := ⟨f - 1, by omega⟩
      rw [cnt_succ', em]
      refine sum_filter fun q hq => ?_
      obtain ⟨_, a, b, c, _⟩ := fq q hq
      by_cases z : S q = g + 1
      · rw [if_pos z, ← c, z]
        rfl
      · rw [if_neg z]
        have := hm q hq
        exact b g (by omega)
    refine .inr ⟨hp, by omega, fun k hk => ?_, cf, ?_⟩
    · cases k with
      | zero => exact c0
      | succ k =>
        rw [cnt_succ', em]
        exact sum_zero fun q hq => (fq q hq).2.2.1 k (by have := hm q hq; omega)
    · exact sum_pos (List.mem_filter.mpr ⟨hq0, decide_eq_true e0⟩) (fq q0 hq0).2.2.2.2
section
variable {ws : List (Nat × Nat)} {n : Nat} (hw : ∀ w ∈ ws, w.1 < w.2 ∧ w.2 < n)
include hw
theorem ends_pos : ∀ p ∈ ends ws, 0 < p ∧ p < n := fun p hp => by
  have hl : ∀ w ∈ ws, w.1 < w.2 := fun w h => (hw w h).1
  obtain ⟨g, hg, rfl⟩ := List.mem_map.mp hp
  have := hw g (apart_mem hl hg)
  omega
/-- the number of ways is the number of the lists of the fewest places -/
theorem good_ends {s v : Nat} (hn : 0 < n) (h : Good ws n 0 s v) : v = cnt ws n (ends ws).length 0 := by
  have hl : ∀ w ∈ ws, w.1 < w.2 := fun w h => (hw w h).1
  rcases h with ⟨a, _⟩ | ⟨_, h1, h2, h3, h4⟩
  · omega
  · have mE : ends ws ∈ lists ws n (ends ws).length 0 := (mem_lists hw).mpr ⟨rfl, ends_asc hl, ends_pos hw, fun w m _ => served_iff.mp (ends_serve hl) w m⟩
    have pE : 0 < cnt ws n (ends ws).length 0 := List.length_pos_of_mem mE
    have lt : ∀ k, k < (ends ws).length → cnt ws n k 0 = 0 := fun k hk => by
      refine List.length_eq_zero_iff.mpr (List.eq_nil_iff_forall_not_mem.mpr fun P hP => ?_)
      obtain ⟨g1, g2, g3, g4⟩ := (mem_lists hw).mp hP
      have := (ends_least hl g2 (served_iff.mpr fun w m => g4 w m (Nat.zero_le _))).1
      omega
    have e : s - 1 = (ends ws).length := by
      rcases Nat.lt_trichotomy (s - 1) (ends ws).length with c | c | c
      · have := lt _ c
        omega
      · exact c
      · have := h2 (ends ws).length (by omega)
        omega
    rw [← h3, e]
/-- all lists of as many places that serve: as many -/
theorem all_fewest {L : List (List Nat)} (nd : L.Nodup) (hm : ∀ P, P ∈ L ↔ (P.Pairwise (· < ·) ∧ ∀ q ∈ P, q < n) ∧ P.length = (ends ws).length ∧ served ws P = true) : L.length = cnt ws n (ends ws).length 0 := by
  have hl : ∀ w ∈ ws, w.1 < w.2 := fun w h => (hw w h).1
  refine List.Perm.length_eq ((List.perm_ext_iff_of_nodup nd (lists_nd ws n _ 0)).mpr fun P => ?_)
  rw [hm, mem_lists hw]
  constructor
  · rintro ⟨⟨h1, h2⟩, h3, h4⟩
    refine ⟨h3, h1, fun q hq => ⟨?_, h2 q hq⟩, fun w m _ => served_iff.mp h4 w m⟩
    rcases Nat.eq_zero_or_pos q with z | z
    · -- without place 0 it serves as well
      exfalso
      subst z
      cases P with
      | nil => cases hq
      | cons x r =>
        obtain ⟨p1, p2⟩ := List.pairwise_cons.mp h1
        have x0 : x = 0 := by
          rcases List.mem_cons.mp hq with h | h
          · exact h.symm
          · have := p1 0 h
            omega
        subst x0
        have sr : served ws r = true := served_iff.mpr fun w m => by
          obtain ⟨q, hq, a, b⟩ := served_iff.mp h4 w m
          rcases List.mem_cons.mp hq with rfl | hq
          · omega
          · exact ⟨q, hq, a, b⟩
        have := (ends_least hl p2 sr).1
        rw [List.length_cons] at h3
        omega
    · exact z
  · rintro ⟨h1, h2, h3, h4⟩
    exact ⟨⟨h2, fun q hq => (h3 q hq).2⟩, h1, served_iff.mpr fun w m => h4 w m (Nat.zero_le _)⟩
end
end K17
set_option Elab.async false
set_option linter.all false
set_option maxRecDepth 100000
set_option maxHeartbeats 4000000
/-! min(xs, default=d), xs a list of ints. -/
namespace KB
open PySem PySem.Spec PyProof.Rows L2
abbrev mnC (J S : Addr) (dv : Value) : Code := .builtin "min.loop" ⟨[.ref J, .none, .ref S], kwD dv⟩
section
variable {prog : Program} {w : World} {A : Around} {R : Result → Shared → Prop} {J S : Addr} {fq wq : List Addr} {N : Nat} {Iv : Nat → Value → Prop} {Sv : Nat → Heap → Prop} {dv : Value}
theorem mn_name : (toString "min" ++ toString ".loop" : String) = "min.loop" := by decide
/-- what is promised of the end -/
def MnEnd (R : Result → Shared → Prop) (S : Addr) (wq : List Addr) (G : Value → Prop) (s : Shared) : Prop :=
  ∀ (v : Value) (h' : Heap) (tk : Nat), G v → (∀ (b : Addr) (o : Obj), b ∉ wq → b ≠ S → s.heap.get? b = some o → h'.get? b = some o) → R (.ok (.ret v)) { s with heap := h', toks := tk }
theorem MnEnd.on {G : Value → Prop} {s : Shared} {h1 : Heap} {t1 : Nat} (m : MnEnd R S wq G s) (k : ∀ (b : Addr) (o : Obj), b ∉ wq → b ≠ S → s.heap.get? b = some o → h1.get? b = some o) : MnEnd R S wq G { s with heap := h1, toks := t1 } :=
  fun v h' tk g kk => m v h' tk g fun b o n1 n2 e => kk b o n1 n2 (k b o n1 n2 e)
theorem mn_turns (Wk : Walks prog w A.in1 J fq wq N Iv Sv) (bt : Nat → Nat → Bool) (C : CmpOf prog w A.in1 .Lt Iv bt) (nS : S ∉ fq) (d : Nat) : ∀ (i : Nat) (s : Shared) (u : Value) (cap : Nat), N = (i + 1) + d → Sv (i + 1) s.heap → Iv (argBest bt i) u →
    s.heap.get? S = some { cls := .type "list", dict := none, data := .seq #[u, u] cap, slots := #[] } → MnEnd R S wq (Iv (argBest bt (N - 1))) s → codeAny (model prog w) A (mnC J S dv) R s := by
  have nw : S ∉ wq := fun m => nS (Wk.sub _ m)
  induction d with
  | zero =>
    intro i s u cap hN hSt hI hS hE
    have eN : i + 1 = N := by omega
    refine codeAny_builtin PySem.F.entry_min_loop ?_
    rw [Around.under_plainId PySem.F.plain_min_loop _]
    show wpAny _ A.in1 (seqItems? (.ref S) >>= _) _ _ s
    refine wpAny_bind (wpAny_seqItems hS rfl ?_)
    show wpAny _ A.in1 (tryCatch (pyNext (.ref J)) _ >>= _) _ _ s
    refine wpAny_bind (wpAny_tryCatch (Wk.done s _ _ (by rw [← eN]; exact hSt) fun h1 t1 k1 => ?_))
    have hS1 := k1 S _ nw hS
    show wpAny _ A.in1 (updateSeq S (fun _ => #[]) >>= _) _ _ _
    refine wpAny_bind (wpAny_updateSeq hS1 rfl (wpAny_bind (wpAny_letGo (wpAny_pure ?_))))
    refine hE u _ t1 (by rw [← eN]; exact hI) fun b o n1 n2 e => ?_
    exact (Heap.get?_update_other _ _ (Ne.symm n2)).trans (k1 b o n1 e)
  | succ d ih =>
    intro i s u cap hN hSt hI hS hE
    have hi : i + 1 < N := by omega
    refine codeAny_builtin PySem.F.entry_min_loop ?_
    rw [Around.under_plainId PySem.F.plain_min_loop _]
    show wpAny _ A.in1 (seqItems? (.ref S) >>= _) _ _ s
    refine wpAny_bind (wpAny_seqItems hS rfl ?_)
    show wpAny _ A.in1 (tryCatch (pyNext (.ref J)) _ >>= _) _ _ s
    refine wpAny_bind (wpAny_tryCatch (Wk.item (i + 1) s _ _ hi hSt fun v h1 t1 hv hSt1 k1 => ?_))
    have hS1 := k1 S _ nw hS
    show wpAny _ A.in1 (tryCatch (holding [v, v] (richCompare .Lt v u >>= _)) _ >>= _) _ _ _
    refine wpAny_bind (wpAny_tryCatch (wpAny_holding (wpAny_bind (C (i + 1) (argBest bt i) v u _ _ _ hv hI ?_))))
    refine wpAny_bind (wpAny_holding (wpAny_truthy_bool (wpAny_bind (wpAny_letGo (wpAny_pure ?_)))))
    cases q : bt (i + 1) (argBest bt i) with
    | true =>
      have eB : argBest bt (i + 1) = i + 1 := by simp only [argBest, q, if_true]
      simp only [if_true]
      refine wpAny_bind (wpAny_updateSeq hS1 rfl (wpAny_bind (wpAny_letGo ?_)))
      rw [mn_name]
      refine wpAny_pure ⟨plainId_quiet PySem.F.plain_min_loop _, ih (i + 1) _ v _ (by omega) (Wk.frame _ _ _ hSt1 fun b hb o e => ?_) (by rw [eB]; exact hv) (Heap.get?_update_self _ hS1 rfl) (hE.on fun b o n1 n2 e => ?_)⟩
      · exact (Heap.get?_update_other _ _ (fun z : S = b => nS (z ▸ hb))).trans e
      · exact (Heap.get?_update_other _ _ (Ne.symm n2)).trans (k1 b o n1 e)
    | false =>
      have eB : argBest bt (i + 1) = argBest bt i := by simp only [argBest, q, Bool.false_eq_true, if_false]
      simp only [Bool.false_eq_true, if_false]
      refine wpAny_bind (wpAny_letGo ?_)
      rw [mn_name]
      exact wpAny_pure ⟨plainId_quiet PySem.F.plain_min_loop _, ih (i + 1) _ u cap (by omega) hSt1 (by rw [eB]; exact hI) hS1 (hE.on fun b o n1 n2 e => k1 b o n1 e)⟩
/-- from the first turn on -/
theorem mn_first (Wk : Walks prog w A.in1 J fq wq N Iv Sv) (bt : Nat → Nat → Bool) (C : CmpOf prog w A.in1 .Lt Iv bt) (nS : S ∉ fq) {s : Shared} {cap : Nat} (hSt : Sv 0 s.heap)
    (hS : s.heap.get? S = some { cls := .type "list", dict := none, data := .seq #[] cap, slots := #[] }) (h0 : N = 0 → MnEnd R S wq (fun v => v = dv) s) (h1 : 0 < N → MnEnd R S wq (Iv (argBest bt (N - 1))) s) : codeAny (model prog w) A (mnC J S dv) R s := by
  have nw : S ∉ wq := fun m => nS (Wk.sub _ m)
  refine codeAny_builtin PySem.F.entry_min_loop ?_
  rw [Around.under_plainId PySem.F.plain_min_loop _]
  show wpAny _ A.in1 (seqItems? (.ref S) >>= _) _ _ s
  refine wpAny_bind (wpAny_seqItems hS rfl ?_)
  show wpAny _ A.in1 (tryCatch (pyNext (.ref J)) _ >>= _) _ _ s
  rcases Nat.eq_zero_or_pos N with e | hN
  · refine wpAny_bind (wpAny_tryCatch (Wk.done s _ _ (by rw [e]; exact hSt) fun h' tk k' => ?_))
    show wpAny _ A.in1 (rule (toString "min" ++ toString ".default") >>= fun _ => ret dv) _ _ _
    refine wpAny_bind (wpAny_rule ?_)
    exact wpAny_pure (h0 e dv h' tk rfl fun b o n1 n2 ee => k' b o n1 ee)
  · refine wpAny_bind (wpAny_tryCatch (Wk.item 0 s _ _ hN hSt fun v h' tk hv hSt1 k' => ?_))
    have hS1 := k' S _ nw hS
    show wpAny _ A.in1 (updateSeq S (fun _ => #[v, v]) >>= _) _ _ _
    refine wpAny_bind (wpAny_updateSeq hS1 rfl ?_)
    rw [mn_name]
    refine wpAny_pure ⟨plainId_quiet PySem.F.plain_min_loop _, mn_turns Wk bt C nS (N - 1) 0 _ v _ (by omega) (Wk.frame _ _ _ hSt1 fun b hb o e => ?_) hv (Heap.get?_update_self _ hS1 rfl) ((h1 hN).on fun b o n1 n2 e => ?_)⟩
    · exact (Heap.get?_update_other _ _ (fun z : S = b => nS (z ▸ hb))).trans e
    · exact (Heap.get?_update_other _ _ (Ne.symm n2)).trans (k' b o n1 e)
end
section
variable {prog : Program} {w : World} {A : Around} {E : Value → Shared → Prop} {s : Shared} {l : Addr}
theorem mn_args (a v : Value) : argsOk "min" ⟨[a], kwD v⟩ := by unfold argsOk kwD; kernel_rfl
theorem min_dflt {xs : Array (Int × Tok)} {dv : Value} {Q : Value → Shared → Prop} (hh : A.handled = none) (hl : s.heap.IsList l (intItems xs))
    (k0 : xs.size = 0 → ∀ h' tk, (∀ b o, s.heap.get? b = some o → h'.get? b = some o) → Q dv { s with heap := h', toks := tk })
    (k1 : 0 < xs.size → ∀ v h' tk, (intItems xs)[argBest (fun i j => decide (numAt xs i < numAt xs j)) (xs.size - 1)]? = some v → (∀ b o, s.heap.get? b = some o → h'.get? b = some o) → Q v { s with heap := h', toks := tk }) :
    wpAny (model prog w) A (call (.builtin "min") [.ref l] (kwD dv)) Q E s := by
  have fin : wpAny (model prog w) A.in1 (Builtin.«min» ⟨[.ref l], kwD dv⟩) (fun z s' => match z with
      | .done f => (match (Except.ok f : Result) with | .ok (.ret v) => Q v s' | .ok _ => False | .error e => E e s')
      | .again c' => c'.quiet = true ∧ codeAny (model prog w) A c' (fun r s' => match r with | .ok (.ret v) => Q v s' | .ok _ => False | .error e => E e s') s') E s := by
    show wpAny _ A.in1 (Builtin.Builtins.bindParams "min" ["key", "default"] 0 ⟨[], kwD dv⟩ >>= _) _ _ s
    refine wpAny_bind (wpAny_of_eq (show Builtin.Builtins.bindParams "min" ["key", "default"] 0 ⟨[], kwD dv⟩ = pure [none, some dv] from rfl) ?_)
    refine wpAny_bind (wpAny_pure ?_)
    refine wpAny_bind (iter_intList hl fun s2 e hI hlt ne => ?_)
    subst e
    refine wpAny_bind (wpAny_newObj_type ?_)
    rw [mn_name]
    have nS : s.heap.objs.size + 1 ∉ [s.heap.objs.size, l] := fun m => by
      have hl' : l < s.heap.objs.size := by
        obtain ⟨_, e, _⟩ := hl
        exact Heap.lt_size e
      rcases List.mem_cons.mp m with e | m
      · exact absurd e (Nat.succ_ne_self _)
      · rw [List.mem_singleton] at m
        rw [← m] at hl'
        exact Nat.lt_irrefl _ (Nat.lt_of_succ_lt hl')
    have sz : (s.heap.push { cls := .type "list_iterator", data := .fields #[.ref l, .int 0 0] }).objs.size = s.heap.objs.size + 1 := Heap.size_push ..
    have Wk := Walks.list (prog := prog) (w := w) (A := A.in1) hh s.heap.objs.size l ne (intItems xs)
    have old : ∀ (b : Addr) (o : Obj), s.heap.get? b = some o → b ∉ [s.heap.objs.size] ∧ b ≠ s.heap.objs.size + 1 := fun b o e => by
      have := Heap.lt_size e
      refine ⟨fun m => ?_, Nat.ne_of_lt (Nat.lt_succ_of_lt this)⟩
      rw [List.mem_singleton] at m
      exact Nat.ne_of_lt this m
    refine wpAny_pure ⟨plainId_quiet PySem.F.plain_min_loop _, ?_⟩
    rw [sz]
    refine mn_first (S := s.heap.objs.size + 1) (dv := dv) Wk (fun i j => decide (numAt xs i < numAt xs j)) (CmpOf.ints_lt (numAt xs) fun _ _ => intItems_at) nS (Wk.frame _ _ _ hI fun b _ o e => Heap.get?_push_of_some _ e) (by rw [← sz]; exact Heap.get?_push_size _ rfl) (fun h0 v h' tk g k => ?_) (fun h1 v h' tk g k => ?_)
    · subst g
      exact k0 (by simpa [intItems] using h0) h' tk fun b o e => k b o (old b o e).1 (old b o e).2 (Heap.get?_push_of_some _ (Heap.get?_push_of_some _ e))
    · exact k1 (by simpa [intItems] using h1) v h' tk (by simpa [intItems] using g) fun b o e => k b o (old b o e).1 (old b o e).2 (Heap.get?_push_of_some _ (Heap.get?_push_of_some _ e))
  refine wpAny_call (codeAny_call_builtin PySem.F.plain_min PySem.F.entry_min ?_)
  simp only [checkBuiltinCall, PySem.F.kind_min]
  cases q : Manifest.signature? "min" with
  | none => exact wpAny_pure fin
  | some sig =>
    have ha := mn_args (.ref l) dv
    simp only [argsOk, q] at ha
    show wpAny _ A.in1 (Bind.checkArgs "min" sig ⟨[.ref l], kwD dv⟩) _ _ s
    rw [show Bind.checkArgs "min" sig ⟨[.ref l], kwD dv⟩ = pure () from ha]
    exact wpAny_pure fin
end
section
variable {X : Cx}
/-- min(xs, default=d) -/
def rMinDf (K : PySem.W.Frag) : List V → List V → Hp → VK → Prop := fun vs zs H Q => ∃ (a : Addr) (ns : List Int) (d : Int), vs = [.ref a] ∧ zs = [.int d] ∧ SqL K H a (ns.map V.int) ∧ ∀ m : Int, (ns = [] → m = d) → (ns ≠ [] → m ∈ ns ∧ ∀ y ∈ ns, m ≤ y) → Q (.int m) H
theorem cr_minDf (hc : X.calm = true) : CallRK X (.builtin "min") [Str.ofString "default"] (rMinDf X.K) := by
  intro pins s σ H vs zs us ws Q I r rz h
  obtain ⟨a, ns, d, rfl, rfl, hs, q⟩ := h
  obtain ⟨dv, rfl, rd⟩ := rz.one
  obtain ⟨its, rv, hl, _⟩ := I.list hs
  rw [Vals.ref1 r]
  obtain ⟨xs, e⟩ := rv.ints.allInts.items
  have hn : numsOf (intItems xs).toList = ns := by
    rw [← e]
    exact rv.ints.numsOf
  rw [nums_intItems] at hn
  have hl' := hl.isList
  rw [e] at hl'
  have ln : ns.length = xs.size := by rw [← hn, List.length_map, Array.length_toList]
  refine min_dflt (I.ok.hd hc) hl' (fun h0 h' tk k => ?_) (fun h1 v h' tk hv k => ?_)
  · have e0 : ns = [] := List.eq_nil_of_length_eq_zero (by omega)
    exact ⟨.int d, H, I.kept k, rd, q d (fun _ => rfl) fun z => absurd e0 z⟩
  · obtain ⟨t, rfl⟩ := intItems_at hv
    obtain ⟨b1, b2⟩ := argBest_lt (numAt xs) (xs.size - 1)
    have ne : ns ≠ [] := fun z => by
      rw [z] at ln
      simp at ln
      omega
    refine ⟨.int _, H, I.kept k, ⟨_, rfl⟩, q _ (fun z => absurd z ne) fun _ => ⟨?_, fun y hy => ?_⟩⟩
    · rw [numAt_eq, hn]
      exact PySem.getD_mem (by omega)
    · obtain ⟨j, hj, rfl⟩ := mem_getD hy
      rw [← hn, ← numAt_eq]
      exact b2 j (by omega)
end
end KB
set_option Elab.async false
set_option linter.all false
set_option maxRecDepth 100000
set_option maxHeartbeats 8000000
/-! The fewest barriers, how many such lists; waits apart. -/
namespace K17
open PySem PySem.Spec PyProof.Rows L2 KB LamX
/-- all are kept with barriers at these places -/
def enoughB (es : List Ev) (ws : List (Nat × Nat)) (P : List Nat) : Bool := ws.all fun w => decide (ahead es w.1 < ahead es w.2) || P.any fun p => stab p w
theorem cnt_none {P : List Nat} {a b : Nat} (h : ∀ p ∈ P, ¬ (a ≤ p ∧ p < b)) (hab : a ≤ b) : (P.filter fun p => decide (p < a)).length = (P.filter fun p => decide (p < b)).length := by
  congr 1
  refine List.filter_congr fun p hp => decide_eq_decide.mpr ⟨fun z => by omega, fun z => ?_⟩
  have := h p hp
  omega
theorem broken_enough {es : List Ev} {P : List Nat} {ws : List (Nat × Nat)} (nd : P.Nodup) (h : WaitsOk es ws) : (brokenL (wr es P es.length) (movedL P ws)).isEmpty = enoughB es ws P := by
  rw [Bool.eq_iff_iff, List.isEmpty_iff]
  unfold brokenL movedL enoughB
  rw [List.filter_eq_nil_iff, List.all_eq_true]
  constructor
  · intro g w hw
    have ok := h.ok w hw
    have l1 := ok.lt
    have l2 := ok.len
    have g := g _ (List.mem_map.mpr ⟨w, hw, rfl⟩)
    rw [decide_eq_true_eq] at g
    have g : ¬ ahead (wr es P es.length) (sent P w.1) = ahead (wr es P es.length) (sent P w.2) := g
    rw [ahead_wr nd (by omega), ahead_wr nd l2] at g
    have m1 := ahead_mono es (Nat.le_of_lt l1)
    by_cases c : ahead es w.1 < ahead es w.2
    · rw [decide_eq_true c, Bool.true_or]
    · rw [decide_eq_false c, Bool.false_or, List.any_eq_true]
      rcases Classical.em (∃ p ∈ P, w.1 + 1 ≤ p ∧ p < w.2 + 1) with ⟨p, hp, q⟩ | z
      · exact ⟨p, hp, stab_iff.mpr (by omega)⟩
      · exact absurd (by rw [cnt_none (fun p hp q => z ⟨p, hp, q⟩) (by omega)]; omega) g
  · intro g v hv
    obtain ⟨w, hw, rfl⟩ := List.mem_map.mp hv
    have ok := h.ok w hw
    have l1 := ok.lt
    have l2 := ok.len
    rw [decide_eq_true_eq]
    show ¬ ahead (wr es P es.length) (sent P w.1) = ahead (wr es P es.length) (sent P w.2)
    rw [ahead_wr nd (by omega), ahead_wr nd l2]
    have m1 := ahead_mono es (Nat.le_of_lt l1)
    have m2 := cnt_mono (P := P) (show w.1 + 1 ≤ w.2 + 1 by omega)
    have g := g w hw
    rw [Bool.or_eq_true, decide_eq_true_eq, List.any_eq_true] at g
    rcases g with c | ⟨p, hp, q⟩
    · omega
    · have q := stab_iff.mp q
      have := cnt_lt hp (show w.1 + 1 ≤ p from q.1) (show p < w.2 + 1 by omega)
      omega
def spIsEnough (K : PySem.W.Frag) : Sp := fun vs H Q _ => ∃ (a b c : Addr) (es : List Ev) (ws : List (Nat × Nat)) (P : List Nat), vs = [.ref a, .ref b, .ref c] ∧ RunOk K H a es ∧ es.length ≤ 50 ∧ WtOk K H b es ws ∧ H c = some (.lst (numsV P)) ∧ PlOk es.length P ∧ ∀ H', Same H H' → Q (.bl (enoughB es ws P)) H'
def spReach (K : PySem.W.Frag) : Sp := fun vs H Q _ => ∃ (b : Addr) (ws : List (Nat × Nat)) (p n : Nat), vs = [.ref b, .int (p : Int), .int (n : Int)] ∧ WtAt K H b ws ∧ ws.length ≤ 1000 ∧ (∀ w ∈ ws, w.2 ≤ n) ∧ ∀ H', Same H H' → Q (.int (reachN ws n p : Nat)) H'
def spManyF (K : PySem.W.Frag) : Sp := fun vs H Q _ => ∃ (b : Addr) (ws : List (Nat × Nat)) (n : Nat), vs = [.ref b, .int (n : Int)] ∧ WtAt K H b ws ∧ ws.length ≤ 1000 ∧ (∀ w ∈ ws, w.1 < w.2 ∧ w.2 < n) ∧ 0 < n ∧ n ≤ 100 ∧ ∀ H', Same H H' → Q (.int (cnt ws n (ends ws).length 0 : Nat)) H'
def spManyL (K : PySem.W.Frag) : Sp := fun vs H Q _ => ∃ (a b : Addr) (es : List Ev) (ws : List (Nat × Nat)), vs = [.ref a, .ref b] ∧ RunOk K H a es ∧ WtOk K H b es ws ∧ ∀ H', Same H H' → Q (.int (cnt (brokenL es ws) es.length (ends (brokenL es ws)).length 0 : Nat)) H'
def spApartW (K : PySem.W.Frag) : Sp := fun vs H Q _ => ∃ (a b : Addr) (es : List Ev) (ws : List (Nat × Nat)), vs = [.ref a, .ref b] ∧ RunOk K H a es ∧ WtOk K H b es ws ∧ Tabs (TbK K) H ∧ ∀ q H', ExtN H H' → Tabs (TbK K) H' → NewN H q → WtAt K H' q (apart (brokenL es ws)) → Q (.ref q) H'
theorem paired_eq {α β : Type} {f : α → β} : ∀ {xs : List α} {ys : List β}, Paired (fun x y => y = f x) xs ys → ys = xs.map f
  | _, _, .nil => rfl
  | _, _, .cons r t => by rw [r, paired_eq t]; rfl
theorem rgV_onw (p r : Nat) : rgV ((p : Int) + 1) ((r : Int) + 1) = numsV (onw p r) := by
  unfold rgV numsV onw
  rw [List.map_map, show (((r : Int) + 1) - ((p : Int) + 1)).toNat = r - p by omega]
  refine List.map_congr_left fun i _ => ?_
  show V.int (((p : Int) + 1) + (i : Int)) = V.int (((p + 1 + i : Nat) : Int))
  congr 1
theorem fm_if {α β : Type} (C : α → Bool) (f : α → β) : ∀ l : List α, l.filterMap (fun i => if C i = true then some (f i) else none) = (l.filter C).map f
  | [] => rfl
  | x :: r => by
    rw [List.filterMap_cons, List.filter_cons, fm_if C f r]
    by_cases h : C x = true
    · rw [if_pos h, if_pos h]
      rfl
    · rw [if_neg h, if_neg h]
/-- those of some numbers, something of each -/
theorem lc_filt {K : PySem.W.Frag} {l : List Nat} {a : Addr} {g : TG} {tt : TT} {te : TE} {vs : List Nat} {σ : L2.St} {H1 : Hp} {D : Addr} {Qd : Hp → Prop} (c : Nat → Bool) (f : Nat → Int) (hn : l.length ≤ 100000) (ha : H1 a = some (.lst (numsV l))) (hD : H1 D = none)
    (hs : ∀ p H (Qy : V → Hp → Prop) (Qn : Hp → Prop), p ∈ l → Same H1 H → (∀ H4, Same H H4 → c p = true → Qy (.int (f p)) H4) → (∀ H4, Same H H4 → c p = false → Qn H4) →
      g (.int (p : Int)) (wipe σ vs) H fun σ2 H2 => wipe σ2 vs = wipe σ vs ∧ tt σ2 H2 fun b H3 => if b = true then te σ2 H3 Qy else Qn H3)
    (hd : ∀ H, Same H1 H → H D = some (.lst (((l.filter c).map f).map V.int)) → Qd H) :
    ∃ W : Nat → Nat → Hp → Prop, (∃ m, W 0 m (upd H1 D (.lst []))) ∧ ∀ i m H, W i m H →
      ((Itl K a).stop i H ∧ Qd H) ∨ ((Itl K a).go i H ∧ ∃ Nx : Hp → Prop, (∀ H', Nx H' → ∃ m', m' < m ∧ W (i + 1) m' H') ∧ ∀ x H', (Itl K a).yld i H x H' → g x (wipe σ vs) H' fun σ2 H2 => wipe σ2 vs = wipe σ vs ∧ tt σ2 H2 fun b H3 =>
        if b = true then te σ2 H3 fun y H4 => ∃ acc, H4 D = some (.lst acc) ∧ acc.length < sizeLine ∧ Nx (upd H4 D (.lst (acc ++ [y]))) else Nx H3) := by
  have ln : (numsV l).length = l.length := List.length_map _
  refine lc_sel (n := (numsV l).length) (walk_list (K := K) (a := a) (xs := numsV l)) (fun j => if c (l.getD j 0) = true then some (V.int (f (l.getD j 0))) else none) (by omega) hD (fun H2 s3 => SqL.of (s3 _ _ ha)) ?_ ?_
  · rintro j v H5 H6 Qy Qn hj s5 ⟨rfl, hy⟩ ky_ kn
    have hj2 : j < l.length := by omega
    unfold numsV at hy
    rw [List.getElem?_map, List.getElem?_eq_getElem hj2] at hy
    obtain rfl := Option.some.inj hy
    have e : l.getD j 0 = l[j] := by
      rw [List.getD_eq_getElem?_getD, List.getElem?_eq_getElem hj2]
      rfl
    rw [e] at ky_ kn
    exact hs l[j] _ Qy Qn (List.getElem_mem hj2) s5 (fun H4 s4 h => ky_ _ _ s4 (if_pos h)) fun H4 s4 h => kn _ s4 (if_neg (by rw [h]; exact Bool.false_ne_true))
  · intro H2 s2 hR
    refine hd H2 s2 ?_
    rw [hR, ln, fm_if (fun j => c (l.getD j 0)) (fun j => V.int (f (l.getD j 0))), ← sel_getG 0 l c, List.map_map, List.map_map]
    rfl
theorem rep_flat {x : V} : ∀ k : Nat, (List.replicate k [x]).flatten = (List.range k).map fun _ => x
  | 0 => rfl
  | k + 1 => by
    rw [List.replicate_succ', List.flatten_append, rep_flat k, List.range_succ, List.map_append]
    rfl
theorem set_map {n p : Nat} {S : Nat → Nat} {v : Nat} (hp : p < n) : ((List.range n).map fun q => V.int (S q : Int)).set p (V.int (v : Int)) = (List.range n).map fun q => V.int ((if q = p then v else S q : Nat) : Int) := by
  refine List.ext_getElem? fun i => ?_
  by_cases hi : i < n
  · rw [List.getElem?_map, List.getElem?_range hi]
    by_cases e : i = p
    · subst e
      rw [List.getElem?_set_self (by rw [List.length_map, List.length_range]; exact hi)]
      show some (V.int (v : Int)) = some (V.int ((if i = i then v else S i : Nat) : Int))
      rw [if_pos rfl]
    · rw [List.getElem?_set_ne (fun z => e z.symm), List.getElem?_map, List.getElem?_range hi]
      show some (V.int (S i : Int)) = some (V.int ((if i = p then v else S i : Nat) : Int))
      rw [if_neg e]
  · rw [List.getElem?_eq_none (by rw [List.length_set, List.length_map, List.length_range]; omega), List.getElem?_eq_none (by rw [List.length_map, List.length_range]; omega)]
theorem at_map2 {n i : Nat} {S : Nat → Nat} (h : i < n) : ((List.range n).map fun q => V.int (S q : Int))[i]? = some (.int (S i : Int)) := by
  rw [List.getElem?_map, List.getElem?_range h]
  rfl
theorem sum_cast (l : List Nat) (f : Nat → Nat) : ((l.map fun x => (f x : Int))).sum = (((l.map f).sum : Nat) : Int) := by
  induction l with
  | nil => rfl
  | cons x r ih =>
    rw [List.map_cons, List.map_cons, List.sum_cons, List.sum_cons, ih]
    omega
section
variable {P : Program} {w : World} {K : PySem.W.Frag} {mg : Str → Option Value} {base : Heap}
abbrev s_is_enough : Stmt := top 27
abbrev N_is_enough : List Str := ["run", "waits", "places", "events", "moved"]
theorem sc_is_enough : FnScope N_is_enough ["run", "waits", "places"] (defScope s_is_enough) := ⟨rfl, rfl, rfl, by decide +kernel, rfl, by decide +kernel, by decide +kernel⟩
theorem ok_is_enough {f : Addr} {fd : FuncData} (F : FnP K "is_enough" s_is_enough f fd) (Z : FreeS mg)
    {f_need_run : Addr} {d_need_run : FuncData} (g_need_run : mg "need_run" = some (.ref f_need_run)) (F_need_run : FnP K "need_run" s_need_run f_need_run d_need_run) (G_need_run : FnOk P w K mg base CX0 5 f_need_run d_need_run ["run"] (spNeedRun K))
    {f_need_waits : Addr} {d_need_waits : FuncData} (g_need_waits : mg "need_waits" = some (.ref f_need_waits)) (F_need_waits : FnP K "need_waits" s_need_waits f_need_waits d_need_waits) (G_need_waits : FnOk P w K mg base CX0 6 f_need_waits d_need_waits ["run", "waits"] (spNeedWaits K))
    {f_need_places : Addr} {d_need_places : FuncData} (g_need_places : mg "need_places" = some (.ref f_need_places)) (F_need_places : FnP K "need_places" s_need_places f_need_places d_need_places) (G_need_places : FnOk P w K mg base CX0 5 f_need_places d_need_places ["run", "places"] (spNeedPl K))
    {f_with_these : Addr} {d_with_these : FuncData} (g_with_these : mg "with_these" = some (.ref f_with_these)) (F_with_these : FnP K "with_these" s_with_these f_with_these d_with_these) (G_with_these : FnOk P w K mg base CX0 1 f_with_these d_with_these ["run", "waits", "places"] (spThese K))
    {f_broken_waits : Addr} {d_broken_waits : FuncData} (g_broken_waits : mg "broken_waits" = some (.ref f_broken_waits)) (F_broken_waits : FnP K "broken_waits" s_broken_waits f_broken_waits d_broken_waits) (G_broken_waits : FnOk P w K mg base CX0 2 f_broken_waits d_broken_waits ["run", "waits"] (spBrokenW K)) :
    FnOk P w K mg base CX0 7 f fd ["run", "waits", "places"] (spIsEnough K) := by
  have b_need_run : Binds K d_need_run ["run"] [] := F_need_run.bindsN fun _ _ _ _ _ _ us hl => match us, hl with | [_], _ => rfl
  have b_need_waits : Binds K d_need_waits ["run", "waits"] [] := F_need_waits.bindsN fun _ _ _ _ _ _ us hl => match us, hl with | [_, _], _ => rfl
  have b_need_places : Binds K d_need_places ["run", "places"] [] := F_need_places.bindsN fun _ _ _ _ _ _ us hl => match us, hl with | [_, _], _ => rfl
  have b_with_these : Binds K d_with_these ["run", "waits", "places"] [] := F_with_these.bindsN fun _ _ _ _ _ _ us hl => match us, hl with | [_, _, _], _ => rfl
  have b_broken_waits : Binds K d_broken_waits ["run", "waits"] [] := F_broken_waits.bindsN fun _ _ _ _ _ _ us hl => match us, hl with | [_, _], _ => rfl
  refine F.ok sc_is_enough (fun vs H Q E h => ?_) (fun cdv A outer s H vs Q E hr h => ?_)
  · obtain ⟨a, b, c, es, ws, ps, rfl, _⟩ := h
    rfl
  · obtain ⟨a, b, c, es, ws, ps, rfl, hR, l50, hW, hc, hP, k⟩ := h
    have lP := hP.len
    have sl : (3000 : Nat) ≤ sizeLine := by decide
    have nd := sc_is_enough.nd
    refine ⟨_, PSs.nox (pss_cons (ps_expr (pe_call G_need_run (hr.mono (by decide)) rfl g_need_run F_need_run.kp b_need_run .nil pass0 (pa_cons (pv 0) (pa_nil))))
      (pss_cons (ps_expr (pe_call G_need_waits (hr.mono (by decide)) rfl g_need_waits F_need_waits.kp b_need_waits .nil pass0 (pa_cons (pv 0) (pa_cons (pv 1) (pa_nil)))))
      (pss_cons (ps_expr (pe_call G_need_places (hr.mono (by decide)) rfl g_need_places F_need_places.kp b_need_places .nil pass0 (pa_cons (pv 0) (pa_cons (pv 2) (pa_nil)))))
      (pss_cons (ps_asg (pe_call G_with_these (hr.mono (by decide)) rfl g_with_these F_with_these.kp b_with_these .nil pass0 (pa_cons (pv 0) (pa_cons (pv 1) (pa_cons (pv 2) (pa_nil))))) (pg_tup rfl (pgs_cons (pg_name (i := 3) nd rfl (Or.inl rfl)) (pgs_cons (pg_name (i := 4) nd rfl (Or.inl rfl)) (pgs_nil)))))
      (pss_one (ps_ret (pe_cmpR (op_eqE (Nat.lt_of_le_of_lt (Nat.le_add_right _ 64) hr.units)) (pe_call G_broken_waits (hr.mono (by decide)) rfl g_broken_waits F_broken_waits.kp b_broken_waits .nil pass0 (pa_cons (pv 3) (pa_cons (pv 4) (pa_nil)))) (pe_lst (pa_nil)) (nomark _)))))))), ?_⟩
    refine ⟨_, rfl, a, es, rfl, hR, fun G1 s1 => ⟨_, rfl, _, rfl, a, b, es, ws, rfl, hR.same s1, hW.same s1, fun G2 s2 => ?_⟩⟩
    have s12 := s1.trans s2
    refine ⟨_, rfl, _, rfl, a, c, es, ps, rfl, hR.same s12, s12 _ _ hc, hP, by omega, fun G3 s3 => ?_⟩
    have s13 := s12.trans s3
    refine ⟨_, rfl, _, rfl, _, rfl, a, b, c, es, ws, ps, rfl, hR.same s13, hW.at_.same s13, (fun w h => ?_), hW.len, s13 _ _ hc, hP, fun t q r G s nq nr ht hQ hM => ?_⟩
    · have ok := hW.ok.ok w h
      have := ok.lt
      have := ok.len
      omega
    refine ⟨t, [_, _], rfl, SqT.of ht, rfl, _, [_], rfl, _, [], rfl, rfl, ?_⟩
    have lwr := wr_len2 (es := es) hP.nd (Nat.le_refl _) lP
    have nwr : wr es ps es.length ≠ [] := fun z => by
      have hp : 0 < es.length := List.length_pos_iff.mpr hR.ne
      have := sent_le_len (es := es) hP.nd hp
      rw [z] at this
      exact Nat.not_lt_zero _ this
    have lmv : (movedL ps ws).length = ws.length := List.length_map _
    have lw := hW.len
    refine ⟨_, rfl, _, rfl, q, r, _, _, rfl, ⟨hQ, nwr, by omega⟩, ⟨hM, waits_wr hP.nd hW.ok, by omega⟩, fun r3 Gi si m3 i3 => ?_⟩
    obtain ⟨t3, z1, z2, _⟩ := i3.ex
    refine ⟨(by show 0 ≤ sizeLine; omega), fun e0 he0 => ?_⟩
    have s0 := Same.updf (o := .lst []) he0
    refine ⟨r3, e0, _, rfl, rfl, SqL.of (s0 _ _ z1), SqL.of upd_same, ?_⟩
    have ee : ((t3.map V.ref).isEmpty != false) = enoughB es ws ps := by
      rw [← broken_enough hP.nd hW.ok]
      cases t3 with
      | nil => rw [List.length_eq_zero_iff.mp z2.symm]; rfl
      | cons x y =>
        cases q : brokenL (wr es ps es.length) (movedL ps ws) with
        | nil => rw [q] at z2; cases z2
        | cons _ _ => rfl
    rw [ee]
    exact k _ ((s13.trans s).trans (si.trans s0))
abbrev s_apart_waits : Stmt := top 31
abbrev N_apart_waits : List Str := ["run", "waits"]
theorem sc_apart_waits : FnScope N_apart_waits ["run", "waits"] (defScope s_apart_waits) := ⟨rfl, rfl, rfl, by decide +kernel, rfl, by decide +kernel, by decide +kernel⟩
theorem ok_apart_waits {f : Addr} {fd : FuncData} (F : FnP K "apart_waits" s_apart_waits f fd) (Z : FreeS mg)
    {f_need_run : Addr} {d_need_run : FuncData} (g_need_run : mg "need_run" = some (.ref f_need_run)) (F_need_run : FnP K "need_run" s_need_run f_need_run d_need_run) (G_need_run : FnOk P w K mg base CX0 5 f_need_run d_need_run ["run"] (spNeedRun K))
    {f_need_waits : Addr} {d_need_waits : FuncData} (g_need_waits : mg "need_waits" = some (.ref f_need_waits)) (F_need_waits : FnP K "need_waits" s_need_waits f_need_waits d_need_waits) (G_need_waits : FnOk P w K mg base CX0 6 f_need_waits d_need_waits ["run", "waits"] (spNeedWaits K))
    {f_apart_of : Addr} {d_apart_of : FuncData} (g_apart_of : mg "apart_of" = some (.ref f_apart_of)) (F_apart_of : FnP K "apart_of" s_apart_of f_apart_of d_apart_of) (G_apart_of : FnOk P w K mg base CX0 4 f_apart_of d_apart_of ["waits"] (spApart K))
    {f_broken_waits : Addr} {d_broken_waits : FuncData} (g_broken_waits : mg "broken_waits" = some (.ref f_broken_waits)) (F_broken_waits : FnP K "broken_waits" s_broken_waits f_broken_waits d_broken_waits) (G_broken_waits : FnOk P w K mg base CX0 2 f_broken_waits d_broken_waits ["run", "waits"] (spBrokenW K)) :
    FnOk P w K mg base CX0 7 f fd ["run", "waits"] (spApartW K) := by
  have b_need_run : Binds K d_need_run ["run"] [] := F_need_run.bindsN fun _ _ _ _ _ _ us hl => match us, hl with | [_], _ => rfl
  have b_need_waits : Binds K d_need_waits ["run", "waits"] [] := F_need_waits.bindsN fun _ _ _ _ _ _ us hl => match us, hl with | [_, _], _ => rfl
  have b_apart_of : Binds K d_apart_of ["waits"] [] := F_apart_of.bindsN fun _ _ _ _ _ _ us hl => match us, hl with | [_], _ => rfl
  have b_broken_waits : Binds K d_broken_waits ["run", "waits"] [] := F_broken_waits.bindsN fun _ _ _ _ _ _ us hl => match us, hl with | [_, _], _ => rfl
  refine F.ok sc_apart_waits (fun vs H Q E h => ?_) (fun cdv A outer s H vs Q E hr h => ?_)
  · obtain ⟨a, b, es, ws, rfl, _⟩ := h
    rfl
  · obtain ⟨a, b, es, ws, rfl, hR, hW, hT, k⟩ := h
    have nd := sc_apart_waits.nd
    refine ⟨_, PSs.nox (pss_cons (ps_expr (pe_call G_need_run (hr.mono (by decide)) rfl g_need_run F_need_run.kp b_need_run .nil pass0 (pa_cons (pv 0) (pa_nil))))
      (pss_cons (ps_expr (pe_call G_need_waits (hr.mono (by decide)) rfl g_need_waits F_need_waits.kp b_need_waits .nil pass0 (pa_cons (pv 0) (pa_cons (pv 1) (pa_nil)))))
      (pss_one (ps_ret (pe_call G_apart_of (hr.mono (by decide)) rfl g_apart_of F_apart_of.kp b_apart_of .nil pass0 (pa_cons (pe_call G_broken_waits (hr.mono (by decide)) rfl g_broken_waits F_broken_waits.kp b_broken_waits .nil pass0 (pa_cons (pv 0) (pa_cons (pv 1) (pa_nil)))) (pa_nil))))))), ?_⟩
    refine ⟨_, rfl, a, es, rfl, hR, fun G1 s1 => ⟨_, rfl, _, rfl, a, b, es, ws, rfl, hR.same s1, hW.same s1, fun G2 s2 => ?_⟩⟩
    have s12 := s1.trans s2
    refine ⟨_, rfl, _, rfl, a, b, es, ws, rfl, hR.same s12, hW.same s12, fun q G s nq hq => ?_⟩
    have s123 := s12.trans s
    refine ⟨q, _, rfl, hq, (by have := List.length_filter_le (fun w => decide (ahead es w.1 = ahead es w.2)) ws; have := hW.len; unfold brokenL; omega), tabs_same s123 hT, fun r G' e T' nr hr' => ?_⟩
    exact k r G' ((ExtN.of s123).trans e) T' (NewN.back (ExtN.of s123) nr) hr'
abbrev s_reach_from : Stmt := top 24
abbrev N_reach_from : List Str := ["waits", "place", "many", "early", "late"]
theorem sc_reach_from : FnScope N_reach_from ["waits", "place", "many"] (defScope s_reach_from) := ⟨rfl, rfl, rfl, by decide +kernel, rfl, by decide +kernel, by decide +kernel⟩
theorem ok_reach_from {f : Addr} {fd : FuncData} (F : FnP K "reach_from" s_reach_from f fd) (Z : FreeS mg) :
    FnOk P w K mg base CX0 1 f fd ["waits", "place", "many"] (spReach K) := by
  refine F.ok sc_reach_from (fun vs H Q E h => ?_) (fun cdv A outer s H vs Q E hr h => ?_)
  · obtain ⟨b, ws, p, n, rfl, _⟩ := h
    rfl
  · obtain ⟨b, ws, p, n, rfl, hW, lw, hn, k⟩ := h
    have nd := sc_reach_from.nd
    refine ⟨_, PSs.nox (pss_one (ps_ret (pe_callBK (cr_minDf rfl) (by rfl) Z.min (by decide +kernel) (pa_cons (pe_lc (own := [("early", 3), ("late", 4)]) (g := gTup K 2 (gCons (gName 3) (gCons (gName 4) (gNil)))) (tt := tTest (tOp (rI0 fun i j => .bl (decide (j ≤ i))) (tVar 3) (tVar 1))) (te := tVar 4) (by rfl) nd (pi_list (pv 0))
          (blkOk_by (own := [("early", 3), ("late", 4)]) (N := N_reach_from) (sc := defScope s_reach_from) (by decide +kernel)) (fun _ _ _ _ _ => pg_tup rfl (pgs_cons (pg_name (i := 3) nd rfl (Or.inl rfl)) (pgs_cons (pg_name (i := 4) nd rfl (Or.inl rfl)) (pgs_nil)))) (fun _ _ _ _ _ => pts_one (pt_cmpR op_ge (pv 3) (pv 1) (nomark _)))
          (fun _ _ _ _ _ => pv 4)) (pa_nil)) (pk_cons (pv 2) pk_nil)))), ?_⟩
    refine ⟨_, rfl, b, rfl, (by obtain ⟨ts, e, _⟩ := hW.ex; exact ⟨_, SqL.of e⟩), fun D hD => ?_⟩
    refine ls_rel (xs := ws) (vv := wv) (fun w => decide (p ≤ w.1)) (fun w y G => y = .int (w.2 : Int)) (fun w y G G' s h => h) (by omega) hW hD ?_ ?_
    · rintro x t Ga Qy Qn hm sa hacc hx hxo ky_ kn
      refine ⟨t, [_, _], rfl, hx, rfl, _, [_], rfl, _, [], rfl, rfl, ?_⟩
      refine ⟨rfl, _, rfl, _, rfl, _, _, rfl, rfl, _, rfl, ?_⟩
      by_cases c : p ≤ x.1
      · exact iteP (by omega) ⟨_, rfl, ky_ _ _ (decide_eq_true c) (Same.refl _) rfl⟩
      · exact iteQ (by omega) (kn _ (decide_eq_false c) (Same.refl _))
    · intro G ys sG hys py
      have ey := paired_eq (f := fun w : Nat × Nat => V.int (w.2 : Int)) py
      rw [ey] at hys
      refine ⟨_, rfl, D, (ws.filter fun w => decide (p ≤ w.1)).map fun w => (w.2 : Int), (n : Int), rfl, rfl, SqL.of (by rw [List.map_map]; exact hys), fun m h0 h1 => ?_⟩
      have em : m = ((reachN ws n p : Nat) : Int) := by
        have rl := reach_le ws n p
        by_cases e : (ws.filter fun w => decide (p ≤ w.1)) = []
        · rw [h0 (by rw [e]; rfl)]
          unfold reachN
          rw [e]
          rfl
        · obtain ⟨g1, g2⟩ := h1 (fun z => e (List.map_eq_nil_iff.mp z))
          obtain ⟨w, hw, rfl⟩ := List.mem_map.mp g1
          obtain ⟨w1, w2⟩ := List.mem_filter.mp hw
          have w2 := of_decide_eq_true w2
          have r1 := reach_wait (n := n) w1 w2
          rcases reach_or ws n p with z | ⟨v, v1, v2, v3⟩
          · have := hn w w1
            omega
          · have := g2 _ (List.mem_map.mpr ⟨v, List.mem_filter.mpr ⟨v1, decide_eq_true v2⟩, rfl⟩)
            omega
      rw [em]
      exact k _ sG
abbrev s_many_fewest : Stmt := top 23
abbrev N_many_fewest : List Str := ["waits", "many", "steps", "ways", "place", "onward", "fewest", "at"]
theorem sc_many_fewest : FnScope N_many_fewest ["waits", "many"] (defScope s_many_fewest) := ⟨rfl, rfl, rfl, by decide +kernel, rfl, by decide +kernel, by decide +kernel⟩
theorem ok_many_fewest {f : Addr} {fd : FuncData} (F : FnP K "many_fewest" s_many_fewest f fd) (Z : FreeS mg)
    {f_reach_from : Addr} {d_reach_from : FuncData} (g_reach_from : mg "reach_from" = some (.ref f_reach_from)) (F_reach_from : FnP K "reach_from" s_reach_from f_reach_from d_reach_from) (G_reach_from : FnOk P w K mg base CX0 1 f_reach_from d_reach_from ["waits", "place", "many"] (spReach K)) :
    FnOk P w K mg base CX0 2 f fd ["waits", "many"] (spManyF K) := by
  have b_reach_from : Binds K d_reach_from ["waits", "place", "many"] [] := F_reach_from.bindsN fun _ _ _ _ _ _ us hl => match us, hl with | [_, _, _], _ => rfl
  refine F.ok sc_many_fewest (fun vs H Q E h => ?_) (fun cdv A outer s H vs Q E hr h => ?_)
  · obtain ⟨b, ws, n, rfl, _⟩ := h
    rfl
  · obtain ⟨b, ws, n, rfl, hW, lw, hw, n0, n100, k⟩ := h
    have sl : (3000 : Nat) ≤ sizeLine := by decide
    have nd := sc_many_fewest.nd
    refine ⟨_, PSs.nox (pss_cons (ps_set (i := 2) nd rfl (Or.inr rfl) (pe_op op_rep (pe_lst (pa_cons (pe_int) (pa_nil))) (pe_op op_add (pv 1) (pe_int))))
      (pss_cons (ps_set (i := 3) nd rfl (Or.inr rfl) (pe_op op_rep (pe_lst (pa_cons (pe_int) (pa_nil))) (pe_op op_add (pv 1) (pe_int))))
      (pss_cons (ps_for PassesOwn.never rfl (pi_revR (by rfl) Z.reversed (prg_1 (by rfl) Z.range (pv 1))) (pg_name (i := 4) nd rfl (Or.inl rfl))
        (pss_cons (ps_set (i := 5) nd rfl (Or.inl rfl) (pe_listRg rfl (by rfl) Z.tlist (prg_2 (by rfl) Z.range (pe_op op_add (pv 4) (pe_int)) (pe_op op_add (pe_call G_reach_from (hr.mono (by decide)) rfl g_reach_from F_reach_from.kp b_reach_from .nil pass0 (pa_cons (pv 0) (pa_cons (pv 4) (pa_cons (pv 1) (pa_nil))))) (pe_int)))))
      (pss_cons (ps_set (i := 6) nd rfl (Or.inr rfl) (pe_callB (cr_min rfl) (by rfl) Z.min (by decide +kernel) (pa_cons (pe_lc (own := [("at", 7)]) (g := gName 7) (tt := tYes) (te := tOp (rIxL K) (tVar 2) (tVar 7)) (by rfl) nd (pi_list (pv 5))
          (blkOk_by (own := [("at", 7)]) (N := N_many_fewest) (sc := defScope s_many_fewest) (by decide +kernel)) (fun _ _ _ _ _ => pg_name (i := 7) nd rfl (Or.inl rfl)) (fun _ _ _ _ _ => pts_nil)
          (fun _ _ _ _ _ => pe_ix ix_list (pv 2) (pv 7) (fun _ _ => rfl))) (pa_nil))))
      (pss_cons (ps_asg (pe_op op_add (pv 6) (pe_int)) (pg_sub (pv 2) (pv 4) set_list))
      (pss_one (ps_asg (pe_callB (cr_sum rfl) (by rfl) Z.sum (by decide +kernel) (pa_cons (pe_lc (own := [("at", 7)]) (g := gName 7) (tt := tTest (tOp rEq (tOp (rIxL K) (tVar 2) (tVar 7)) (tVar 6))) (te := tOp (rIxL K) (tVar 3) (tVar 7)) (by rfl) nd (pi_list (pv 5))
          (blkOk_by (own := [("at", 7)]) (N := N_many_fewest) (sc := defScope s_many_fewest) (by decide +kernel)) (fun _ _ _ _ _ => pg_name (i := 7) nd rfl (Or.inl rfl)) (fun _ _ _ _ _ => pts_one (pt_cmpR op_eq (pe_ix ix_list (pv 2) (pv 7) (fun _ _ => rfl)) (pv 6) (nomark _)))
          (fun _ _ _ _ _ => pe_ix ix_list (pv 3) (pv 7) (fun _ _ => rfl))) (pa_nil))) (pg_sub (pv 3) (pv 4) set_list)))))))
      (pss_one (ps_ret (pe_ix ix_list (pv 3) (pe_int) (fun _ _ => rfl))))))), ?_⟩
    refine ⟨(by show 1 ≤ sizeLine; omega), fun b1 hb1 => ⟨_, rfl, _, _, rfl, rfl, b1, _, _, rfl, rfl, upd_same, by omega, by omega, by rw [List.length_singleton]; omega, fun q2 hq2 => ?_⟩⟩
    have er : ∀ z : Int, (List.replicate ((n : Int) + 1).toNat [V.int z]).flatten = (List.range (n + 1)).map fun _ => V.int z := fun z => by
      rw [show ((n : Int) + 1).toNat = n + 1 by omega, rep_flat]
    rw [er]
    have x1 := Same.updf (o := .lst [V.int 0]) hb1
    have x2 := Same.updf (o := .lst ((List.range (n + 1)).map fun _ => V.int 0)) hq2
    have n2H : H q2 = none := none_back x1 hq2
    refine ⟨(by show 1 ≤ sizeLine; omega), fun b2 hb2 => ⟨_, rfl, _, _, rfl, rfl, b2, _, _, rfl, rfl, upd_same, by omega, by omega, by rw [List.length_singleton]; omega, fun q3 hq3 => ?_⟩⟩
    rw [er]
    have x3 := Same.updf (o := .lst [V.int 1]) hb2
    have x4 := Same.updf (o := .lst ((List.range (n + 1)).map fun _ => V.int 1)) hq3
    have n3H : H q3 = none := none_back ((x1.trans x2).trans x3) hq3
    have f2 := (x3.trans x4) _ _ (upd_same (a := q2) (o := .lst ((List.range (n + 1)).map fun _ => V.int 0)))
    have f3 := upd_same (H := upd (upd (upd H b1 (.lst [V.int 0])) q2 (.lst ((List.range (n + 1)).map fun _ => V.int 0))) b2 (.lst [V.int 1])) (a := q3) (o := .lst ((List.range (n + 1)).map fun _ => V.int 1))
    have n23 : q2 ≠ q3 := ne_of_none (x3 _ _ (upd_same (a := q2) (o := .lst ((List.range (n + 1)).map fun _ => V.int 0)))) hq3
    have s14 := (x1.trans x2).trans (x3.trans x4)
    obtain ⟨G0, eG⟩ : ∃ X, X = upd (upd (upd (upd H b1 (.lst [V.int 0])) q2 (.lst ((List.range (n + 1)).map fun _ => V.int 0))) b2 (.lst [V.int 1])) q3 (.lst ((List.range (n + 1)).map fun _ => V.int 1)) := ⟨_, rfl⟩
    rw [← eG] at f2 f3 s14 ⊢
    clear eG x1 x2 x3 x4 hq3 hb2 hq2 hb1
    refine norm (σ' := [some (.ref b), some (.int (n : Int)), some (.ref q2), some (.ref q3), none, none, none, none]) rfl ?_
    refine ⟨_, rfl, _, rfl, by omega, by omega, by omega, by omega, ?_⟩
    rw [show ((n : Int) - 0).toNat = n by omega]
    refine for_it (walk_rangeC (lo := 0 + (n : Int) - 1) (c := -1) (n := n)) (fun i σ G => Same H G ∧ ∃ (S W : Nat → Nat) (v4 v5 v6 : Option V), G q2 = some (.lst ((List.range (n + 1)).map fun q => V.int (S q : Int))) ∧ G q3 = some (.lst ((List.range (n + 1)).map fun q => V.int (W q : Int))) ∧ (∀ q, n - i ≤ q → q ≤ n → Good ws n q (S q) (W q)) ∧ σ = [some (.ref b), some (.int (n : Int)), some (.ref q2), some (.ref q3), v4, v5, v6, none])
      ⟨s14, fun _ => 0, fun _ => 1, none, none, none, f2, f3, fun q h1 h2 => .inl ⟨by omega, rfl, rfl⟩, rfl⟩ (fun _ _ _ _ _ => trivial) ?_ ?_
    · rintro i v σ Gz G hi ⟨sG, S, W, v4, v5, v6, h2, h3, hg, rfl⟩ ⟨rfl, hv⟩
      obtain ⟨p, ep⟩ : ∃ p : Nat, p = n - 1 - i := ⟨_, rfl⟩
      have pn : p < n := by omega
      have e1 : 0 + (n : Int) - 1 + ((i : Nat) : Int) * -1 = (p : Int) := by omega
      obtain rfl : v = .int (p : Int) := hv.trans (congrArg V.int e1)
      have hg : ∀ q, p < q → q ≤ n → Good ws n q (S q) (W q) := fun q h1 h2 => hg q (by omega) h2
      have rl := reach_le ws n p
      have rp : p < reachN ws n p := by
        rcases reach_or ws n p with z | ⟨w, m, h, e⟩
        · omega
        · have := hw w m
          omega
      refine ⟨_, rfl, _, _, rfl, rfl, _, rfl, _, rfl, _, rfl, b, ws, p, n, rfl, hW.same sG, lw, (fun w m => by have := hw w m; omega), fun G1 s1 => ?_⟩
      have sG1 := sG.trans s1
      refine ⟨_, _, rfl, rfl, _, _, rfl, rfl, ⟨by omega, by omega, by omega, by omega, by omega⟩, fun q5 hq5 => ?_⟩
      dsimp only
      rw [rgV_onw]
      obtain ⟨L, eL⟩ : ∃ L, L = onw p (reachN ws n p) := ⟨_, rfl⟩
      rw [← eL]
      have mL : ∀ q ∈ L, p < q ∧ q ≤ n := fun q hq => by
        rw [eL] at hq
        have := mem_onw.mp hq
        omega
      have lL : L.length ≤ 100 := by
        rw [eL]
        unfold onw
        rw [List.length_map, List.length_range]
        omega
      have n52 : q2 ≠ q5 := ne_of_none (s1 _ _ h2) hq5
      have n53 : q3 ≠ q5 := ne_of_none (s1 _ _ h3) hq5
      have x5 := Same.updf (o := .lst (numsV L)) hq5
      have h5 := upd_same (H := G1) (a := q5) (o := .lst (numsV L))
      have h2 := x5 _ _ (s1 _ _ h2)
      have h3 := x5 _ _ (s1 _ _ h3)
      have sG2 := sG1.trans x5
      obtain ⟨G2, eG⟩ : ∃ X, X = upd G1 q5 (.lst (numsV L)) := ⟨_, rfl⟩
      rw [← eG] at h5 h2 h3 sG2 ⊢
      clear eG x5 hq5
      refine norm (σ' := [some (.ref b), some (.int (n : Int)), some (.ref q2), some (.ref q3), some (.int (p : Int)), some (.ref q5), v6, none]) rfl ?_
      refine ⟨_, rfl, q5, rfl, ⟨_, SqL.of h5⟩, fun D hD => ?_⟩
      refine lc_filt (K := K) (l := L) (fun _ => true) (fun q => (S q : Int)) (by omega) h5 hD ?_ ?_
      · intro x Ga Qy Qn hx sa ky_ kn
        have := mL x hx
        exact ⟨rfl, _, rfl, _, rfl, q2, _, _, _, rfl, rfl, SqL.of (sa _ _ h2), atI_nat (at_map2 (by omega)), ky_ _ (Same.refl _) rfl⟩
      · intro G3 s3 hB
        rw [List.filter_eq_self.mpr (fun _ _ => rfl)] at hB
        have ne : 0 < L.length := by
          rw [eL]
          unfold onw
          rw [List.length_map, List.length_range]
          omega
        refine ⟨D, _, rfl, SqL.of hB, by rw [List.length_map]; exact ne, fun m hm1 hm2 => ?_⟩
        obtain ⟨q0, hq0, rfl⟩ := List.mem_map.mp hm1
        obtain ⟨f, ef⟩ : ∃ f, f = S q0 := ⟨_, rfl⟩
        rw [← ef]
        have hmin : ∀ q ∈ L, f ≤ S q := fun q hq => by
          have := hm2 _ (List.mem_map.mpr ⟨q, hq, rfl⟩)
          omega
        have h23 := s3 _ _ h2
        have h33 := s3 _ _ h3
        have h53 := s3 _ _ h5
        have sG3 := sG2.trans s3
        refine norm (σ' := [some (.ref b), some (.int (n : Int)), some (.ref q2), some (.ref q3), some (.int (p : Int)), some (.ref q5), some (.int (f : Int)), none]) rfl ?_
        have ix : ixN ((List.range (n + 1)).map fun q => V.int (S q : Int)).length (p : Int) = some p := by
          unfold ixN
          rw [if_pos (by omega), if_pos (by rw [List.length_map, List.length_range]; omega), Int.toNat_natCast]
        refine ⟨_, rfl, _, _, rfl, rfl, _, rfl, _, rfl, q2, _, _, p, rfl, rfl, h23, ix, ?_⟩
        rw [show ((List.range (n + 1)).map fun q => V.int (S q : Int)).set p ((fun (i j : Int) => V.int (i + j)) (f : Int) 1) = (List.range (n + 1)).map fun q => V.int ((if q = p then f + 1 else S q : Nat) : Int) from set_map (show p < n + 1 by omega)]
        have bu : But q2 G3 (upd G3 q2 (.lst ((List.range (n + 1)).map fun q => V.int ((if q = p then f + 1 else S q : Nat) : Int)))) := But.upd'
        have j2 := upd_same (H := G3) (a := q2) (o := .lst ((List.range (n + 1)).map fun q => V.int ((if q = p then f + 1 else S q : Nat) : Int)))
        have j3 := bu _ _ n23.symm h33
        have j5 := bu _ _ n52.symm h53
        have sG4 : Same H (upd G3 q2 (.lst ((List.range (n + 1)).map fun q => V.int ((if q = p then f + 1 else S q : Nat) : Int)))) := fun c o e => bu _ _ (ne_of_none e n2H) (sG3 _ _ e)
        obtain ⟨G4, eG⟩ : ∃ X, X = upd G3 q2 (.lst ((List.range (n + 1)).map fun q => V.int ((if q = p then f + 1 else S q : Nat) : Int))) := ⟨_, rfl⟩
        rw [← eG] at j2 j3 j5 sG4 ⊢
        clear eG bu h23 h33 h53 hB
        refine via_nx ?_
        refine ⟨_, rfl, q5, rfl, ⟨_, SqL.of j5⟩, fun D2 hD2 => ?_⟩
        refine lc_filt (K := K) (l := L) (fun q => decide (S q = f)) (fun q => (W q : Int)) (by omega) j5 hD2 ?_ ?_
        · intro x Ga Qy Qn hx sa ky_ kn
          have hx2 := mL x hx
          have ex : (if x = p then f + 1 else S x) = S x := if_neg (by omega)
          refine ⟨rfl, _, rfl, _, rfl, q2, _, _, _, rfl, rfl, SqL.of (sa _ _ j2), atI_nat (at_map2 (S := fun q => if q = p then f + 1 else S q) (show x < n + 1 by omega)), _, rfl, rfl, _, rfl, ?_⟩
          dsimp only
          rw [ex]
          by_cases c : S x = f
          · refine iteP (by rw [c]) ⟨_, rfl, _, rfl, q3, _, _, _, rfl, rfl, SqL.of (sa _ _ j3), atI_nat (at_map2 (by omega)), ky_ _ (Same.refl _) (decide_eq_true c)⟩
          · exact iteQ (fun z => c (by have := V.int.inj z; omega)) (kn _ (Same.refl _) (decide_eq_false c))
        · intro G5 s5 hB
          refine ⟨D2, _, rfl, SqL.of hB, ?_⟩
          rw [sum_cast]
          have ix2 : ixN ((List.range (n + 1)).map fun q => V.int (W q : Int)).length (p : Int) = some p := by
            unfold ixN
            rw [if_pos (by omega), if_pos (by rw [List.length_map, List.length_range]; omega), Int.toNat_natCast]
          refine ⟨_, rfl, _, rfl, q3, _, _, p, rfl, rfl, s5 _ _ j3, ix2, ?_⟩
          rw [set_map (show p < n + 1 by omega)]
          obtain ⟨sm, esm⟩ : ∃ sm, sm = ((L.filter fun q => decide (S q = f)).map W).sum := ⟨_, rfl⟩
          rw [← esm]
          have bu : But q3 G5 (upd G5 q3 (.lst ((List.range (n + 1)).map fun q => V.int ((if q = p then sm else W q : Nat) : Int)))) := But.upd'
          refine ⟨fun c o e => bu _ _ (ne_of_none e n3H) (s5 _ _ (sG4 _ _ e)), fun q => if q = p then f + 1 else S q, fun q => if q = p then sm else W q, _, _, _, bu _ _ n23 (s5 _ _ j2), upd_same, fun q a1 a2 => ?_, rfl⟩
          by_cases z : q = p
          · subst z
            dsimp only
            rw [if_pos rfl, if_pos rfl, esm, eL]
            exact good_step pn hg rp ⟨q0, by rw [← eL]; exact hq0, ef.symm⟩ (fun q hq => hmin q (by rw [eL]; exact hq))
          · dsimp only
            rw [if_neg z, if_neg z]
            exact hg q (by omega) a2
    · rintro σ G ⟨sG, S, W, v4, v5, v6, h2, h3, hg, rfl⟩
      refine via_nx ?_
      have g0 := hg 0 (by omega) (by omega)
      refine ⟨_, rfl, q3, _, 0, _, rfl, rfl, SqL.of h3, atI_nat (j := 0) (at_map2 (by omega)), ?_⟩
      have := k _ sG
      rw [← good_ends hw n0 g0] at this
      exact this
abbrev s_many_least : Stmt := top 30
abbrev N_many_least : List Str := ["run", "waits"]
theorem sc_many_least : FnScope N_many_least ["run", "waits"] (defScope s_many_least) := ⟨rfl, rfl, rfl, by decide +kernel, rfl, by decide +kernel, by decide +kernel⟩
theorem ok_many_least {f : Addr} {fd : FuncData} (F : FnP K "many_least" s_many_least f fd) (Z : FreeS mg)
    {f_need_run : Addr} {d_need_run : FuncData} (g_need_run : mg "need_run" = some (.ref f_need_run)) (F_need_run : FnP K "need_run" s_need_run f_need_run d_need_run) (G_need_run : FnOk P w K mg base CX0 5 f_need_run d_need_run ["run"] (spNeedRun K))
    {f_need_waits : Addr} {d_need_waits : FuncData} (g_need_waits : mg "need_waits" = some (.ref f_need_waits)) (F_need_waits : FnP K "need_waits" s_need_waits f_need_waits d_need_waits) (G_need_waits : FnOk P w K mg base CX0 6 f_need_waits d_need_waits ["run", "waits"] (spNeedWaits K))
    {f_many_fewest : Addr} {d_many_fewest : FuncData} (g_many_fewest : mg "many_fewest" = some (.ref f_many_fewest)) (F_many_fewest : FnP K "many_fewest" s_many_fewest f_many_fewest d_many_fewest) (G_many_fewest : FnOk P w K mg base CX0 2 f_many_fewest d_many_fewest ["waits", "many"] (spManyF K))
    {f_broken_waits : Addr} {d_broken_waits : FuncData} (g_broken_waits : mg "broken_waits" = some (.ref f_broken_waits)) (F_broken_waits : FnP K "broken_waits" s_broken_waits f_broken_waits d_broken_waits) (G_broken_waits : FnOk P w K mg base CX0 2 f_broken_waits d_broken_waits ["run", "waits"] (spBrokenW K)) :
    FnOk P w K mg base CX0 7 f fd ["run", "waits"] (spManyL K) := by
  have b_need_run : Binds K d_need_run ["run"] [] := F_need_run.bindsN fun _ _ _ _ _ _ us hl => match us, hl with | [_], _ => rfl
  have b_need_waits : Binds K d_need_waits ["run", "waits"] [] := F_need_waits.bindsN fun _ _ _ _ _ _ us hl => match us, hl with | [_, _], _ => rfl
  have b_many_fewest : Binds K d_many_fewest ["waits", "many"] [] := F_many_fewest.bindsN fun _ _ _ _ _ _ us hl => match us, hl with | [_, _], _ => rfl
  have b_broken_waits : Binds K d_broken_waits ["run", "waits"] [] := F_broken_waits.bindsN fun _ _ _ _ _ _ us hl => match us, hl with | [_, _], _ => rfl
  refine F.ok sc_many_least (fun vs H Q E h => ?_) (fun cdv A outer s H vs Q E hr h => ?_)
  · obtain ⟨a, b, es, ws, rfl, _⟩ := h
    rfl
  · obtain ⟨a, b, es, ws, rfl, hR, hW, k⟩ := h
    obtain ⟨ts, ha, lt, _⟩ := id hR.at_.ex
    have l100 := hR.len
    have nd := sc_many_least.nd
    refine ⟨_, PSs.nox (pss_cons (ps_expr (pe_call G_need_run (hr.mono (by decide)) rfl g_need_run F_need_run.kp b_need_run .nil pass0 (pa_cons (pv 0) (pa_nil))))
      (pss_cons (ps_expr (pe_call G_need_waits (hr.mono (by decide)) rfl g_need_waits F_need_waits.kp b_need_waits .nil pass0 (pa_cons (pv 0) (pa_cons (pv 1) (pa_nil)))))
      (pss_one (ps_ret (pe_call G_many_fewest (hr.mono (by decide)) rfl g_many_fewest F_many_fewest.kp b_many_fewest .nil pass0 (pa_cons (pe_call G_broken_waits (hr.mono (by decide)) rfl g_broken_waits F_broken_waits.kp b_broken_waits .nil pass0 (pa_cons (pv 0) (pa_cons (pv 1) (pa_nil)))) (pa_cons (pe_callB call_len_seq (by rfl) Z.len (by decide +kernel) (pa_cons (pv 0) (pa_nil))) (pa_nil)))))))), ?_⟩
    refine ⟨_, rfl, a, es, rfl, hR, fun G1 s1 => ⟨_, rfl, _, rfl, a, b, es, ws, rfl, hR.same s1, hW.same s1, fun G2 s2 => ?_⟩⟩
    have s12 := s1.trans s2
    refine ⟨_, rfl, _, rfl, a, b, es, ws, rfl, hR.same s12, hW.same s12, fun q G s nq hq => ?_⟩
    have s123 := s12.trans s
    refine ⟨_, rfl, a, _, rfl, .inl (SqL.of (s123 _ _ ha)), q, brokenL es ws, es.length, (by rw [List.length_map, lt]; rfl), hq, (by have := List.length_filter_le (fun w => decide (ahead es w.1 = ahead es w.2)) ws; have := hW.len; unfold brokenL; omega), (fun w h => ?_), List.length_pos_iff.mpr hR.ne, l100, fun G' s' => k _ (s123.trans s')⟩
    have ok := hW.ok.ok w (List.mem_filter.mp h).1
    exact ⟨ok.lt, ok.len⟩
end
end K17
set_option Elab.async false
set_option linter.all false
set_option maxRecDepth 100000
set_option maxHeartbeats 8000000
/-! Any object judged: waits apart. -/
namespace K17
open PySem PySem.Spec PyProof.Rows L2 KB LamX
theorem TD.ext {K : PySem.W.Frag} {H H' : Hp} (k : ExtN H H') : ∀ {n : Nat} {x : V} {d : PyData}, TD K H n x d → TD K H' n x d
  | 0, _, _, h => h
  | n + 1, _, _, h => by
    rcases h with h | ⟨a, xs, ds, e, l, l1, t, c⟩ | ⟨a, ps, m, e, n1, ha, ed⟩
    · exact .inl h
    · refine .inr (.inl ⟨a, xs, ds, e, l, l1, ?_, fun i u v e1 e2 => TD.ext k (c i u v e1 e2)⟩)
      rcases t with ⟨t1, t2⟩ | ⟨t1, t2⟩
      · exact .inl ⟨k _ _ t1 (fun ps z => by cases z), t2⟩
      · exact .inr ⟨KLam.sqT_ext t1 k, t2⟩
    · exact .inr (.inr ⟨a, ps, m, e, n1, k _ _ ha (fun ps z => by cases z), ed⟩)
theorem eqv_pd (u v : Nat × Nat) : PyData.eqv (pd u) (pd v) = decide (u = v) := by
  show PyData.eqvAll [.int (u.1 : Int), .int (u.2 : Int)] [.int (v.1 : Int), .int (v.2 : Int)] = _
  simp only [PyData.eqvAll, PyData.eqv]
  rw [Bool.eq_iff_iff, decide_eq_true_eq]
  simp only [Bool.and_eq_true, beq_iff_eq, Bool.and_true]
  constructor
  · rintro ⟨h1, h2⟩
    exact Prod.ext (by omega) (by omega)
  · intro h
    rw [h]
    exact ⟨rfl, rfl⟩
theorem shaped_pd (w : Nat × Nat) : SeqAt.shaped (pd w) = true := by
  simp [pd, SeqAt.shaped, PyData.depth, PyData.depthAll, PyData.canLay0, PyData.canLayAll0]
theorem shaped_list {ds : List PyData} (h : ∀ d ∈ ds, PyData.canLay0 d = true ∧ PyData.depth d ≤ 2) : SeqAt.shaped (.list ds) = true := by
  have g : PyData.canLayAll0 ds = true ∧ PyData.depthAll ds ≤ 3 := by
    induction ds with
    | nil => exact ⟨rfl, Nat.zero_le _⟩
    | cons x r ih =>
      obtain ⟨i1, i2⟩ := ih fun d m => h d (List.mem_cons_of_mem _ m)
      obtain ⟨h1, h2⟩ := h x List.mem_cons_self
      constructor
      · simp only [PyData.canLayAll0, h1, i1, Bool.and_self]
      · simp only [PyData.depthAll]
        omega
  refine Bool.and_eq_true_iff.mpr ⟨?_, decide_eq_true ?_⟩
  · simp only [PyData.canLay0]
    exact g.1
  · simp only [PyData.depth]
    have := g.2
    omega
theorem shaped_wts (ws : List (Nat × Nat)) : SeqAt.shaped (.list (ws.map pd)) = true := shaped_list fun d hd => by
  obtain ⟨w, _, rfl⟩ := List.mem_map.mp hd
  exact ⟨by simp [pd, PyData.canLay0, PyData.canLayAll0], by simp [pd, PyData.depth, PyData.depthAll]⟩
theorem shaped_run (es : List Ev) : SeqAt.shaped (.list (es.map Ev.d)) = true := shaped_list fun d hd => by
  obtain ⟨e, _, rfl⟩ := List.mem_map.mp hd
  constructor
  · cases e <;> simp [Ev.d, PyData.canLay0, PyData.canLayAll0] <;> decide +kernel
  · cases e <;> simp [Ev.d, PyData.depth, PyData.depthAll]
theorem pd_dp {K : PySem.W.Frag} {H : Hp} {t : Addr} {w : Nat × Nat} (h : SqT K H t (wv w)) : Dp K H (.ref t) (pd w) := .tup h (.cons (.int _) (.cons (.int _) .nil))
theorem LsT.dp {K : PySem.W.Frag} {H : Hp} {α : Type} {vv : α → List V} {vd : α → PyData} (hv : ∀ {t : Addr} {x : α}, SqT K H t (vv x) → Dp K H (.ref t) (vd x)) {a : Addr} {xs : List α} (h : LsT K vv H a xs) : Dp K H (.ref a) (.list (xs.map vd)) := by
  obtain ⟨ts, h1, h2, h3⟩ := h
  refine .lst (SqL.of h1) ?_
  clear h1
  induction ts generalizing xs with
  | nil =>
    cases xs with
    | nil => exact .nil
    | cons _ _ => cases h2
  | cons t ts ih =>
    cases xs with
    | nil => cases h2
    | cons x xs => exact .cons (hv (h3 0 t x rfl rfl)) (ih (Nat.succ.inj h2) fun i u v e1 e2 => h3 (i + 1) u v e1 e2)
def adjB (vs : List (Nat × Nat)) : Bool := (List.range (vs.length - 1)).all fun i => decide ((vs.getD i (0, 0)).2 ≤ (vs.getD (1 + i) (0, 0)).1)
def apartB (es : List Ev) (ws : List (Nat × Nat)) : PyData → Bool
  | .list ds => waitsB es (.list ds) && (decide (ds.length = (ends (brokenL es ws)).length) && ((ds.map toW).all (fun w => (brokenL es ws).contains w) && adjB (ds.map toW)))
  | _ => false
def spAreApart (K : PySem.W.Frag) : Sp := fun vs H Q _ => ∃ (a b : Addr) (x : V) (es : List Ev) (ws : List (Nat × Nat)) (d : PyData) (m : Nat), vs = [.ref a, .ref b, x] ∧ RunOk K H a es ∧ WtOk K H b es ws ∧ Tabs (TbK K) H ∧ TD K H m x d ∧ ∀ H', ExtN H H' → Tabs (TbK K) H' → Q (.bl (apartB es ws d)) H'
/-- a list of waits, by the data -/
theorem td_waits {K : PySem.W.Frag} {H : Hp} {x : V} {es : List Ev} {d : PyData} {m : Nat} (h : TD K H m x d) (hq : waitsB es d = true) : ∃ (b : Addr) (vs : List (Nat × Nat)), x = .ref b ∧ d = .list (vs.map pd) ∧ WtAt K H b vs ∧ WaitsOk es vs ∧ vs.length ≤ 1000 := by
  rcases td_cs h with ⟨rfl, rfl⟩ | ⟨b, rfl, rfl⟩ | ⟨i, rfl, rfl⟩ | ⟨z, rfl, rfl⟩ | ⟨b, xs, ds, rfl, hb, rfl, lx, l1, kx⟩ | ⟨b, xs, ds, rfl, hb, rfl, _⟩ | ⟨b, ps, m, rfl, hb, rfl⟩
  · cases hq
  · cases hq
  · cases hq
  · cases hq
  · have ew : (ds.all (waitB es) && ascB (ds.map toW)) = true := hq
    rw [Bool.and_eq_true] at ew
    obtain ⟨qa, qb⟩ := ew
    have hd : ds = (ds.map toW).map pd := by
      rw [List.map_map]
      refine (List.map_id ds).symm.trans (List.map_congr_left fun e he => ?_)
      obtain ⟨w, rfl, _⟩ := waitB_iff.mp (List.all_eq_true.mp qa e he)
      rfl
    refine ⟨b, ds.map toW, rfl, by rw [← hd], ?_, ⟨fun w hw => ?_, ?_⟩, by rw [List.length_map]; exact l1⟩
    · refine LsT.of_paired hb (paired_of (by rw [List.length_map, lx]) fun i w v e1 e2 => ?_)
      rw [List.getElem?_map] at e1
      obtain ⟨e, q1, rfl⟩ := Option.map_eq_some_iff.mp e1
      have td := kx i v e e2 q1
      obtain ⟨w, rfl, ok⟩ := waitB_iff.mp (List.all_eq_true.mp qa e (List.mem_of_getElem? q1))
      obtain ⟨t, x1, x2, d1, d2, m', rfl, hq, e3, t1, t2⟩ := td_tup2 td rfl
      have e4 := PyData.tuple.inj e3
      obtain ⟨r1, r2⟩ := List.cons.inj e4
      obtain ⟨r2, _⟩ := List.cons.inj r2
      subst r1
      subst r2
      obtain rfl := td_int t1
      obtain rfl := td_int t2
      exact ⟨t, rfl, hq⟩
    · obtain ⟨e, he, rfl⟩ := List.mem_map.mp hw
      obtain ⟨w, rfl, ok⟩ := waitB_iff.mp (List.all_eq_true.mp qa e he)
      exact ok
    · -- ascending from one to the next, so all
      have tr : ∀ {u v w : Nat × Nat}, lexP u v → lexP v w → lexP u w := fun {u v w} h1 h2 => by
        unfold lexP at *
        omega
      have step : ∀ i (hi : 1 + i < (ds.map toW).length), lexP ((ds.map toW)[i]'(by omega)) ((ds.map toW)[1 + i]'hi) := fun i hi => by
        have := List.all_eq_true.mp qb i (List.mem_range.mpr (by omega))
        rw [List.getD_eq_getElem?_getD, List.getD_eq_getElem?_getD, List.getElem?_eq_getElem (by omega), List.getElem?_eq_getElem hi] at this
        have this : lexB ((ds.map toW)[i]'(by omega)) ((ds.map toW)[1 + i]'hi) = true := this
        unfold lexB at this
        have this := of_decide_eq_true this
        exact this
      refine List.pairwise_iff_getElem.mpr fun i j hi hj hij => ?_
      obtain ⟨k, rfl⟩ : ∃ k, j = i + 1 + k := ⟨j - i - 1, by omega⟩
      induction k with
      | zero =>
        have := step i (by omega)
        simpa [Nat.add_comm] using this
      | succ k ih =>
        have h1 := ih (by omega) (by omega)
        have h2 := step (i + 1 + k) (by omega)
        have e : 1 + (i + 1 + k) = i + 1 + (k + 1) := by omega
        simp only [e] at h2
        exact tr h1 h2
  · cases hq
  · cases hq
section
variable {P : Program} {w : World} {K : PySem.W.Frag} {mg : Str → Option Value} {base : Heap}
abbrev s_are_apart : Stmt := top 32
abbrev N_are_apart : List Str := ["run", "waits", "value", "fewest", "left", "one", "other", "wait"]
theorem sc_are_apart : FnScope N_are_apart ["run", "waits", "value"] (defScope s_are_apart) := ⟨rfl, rfl, rfl, by decide +kernel, rfl, by decide +kernel, by decide +kernel⟩
theorem ok_are_apart {f : Addr} {fd : FuncData} (F : FnP K "are_apart" s_are_apart f fd) (Z : FreeS mg)
    {f_broken_waits : Addr} {d_broken_waits : FuncData} (g_broken_waits : mg "broken_waits" = some (.ref f_broken_waits)) (F_broken_waits : FnP K "broken_waits" s_broken_waits f_broken_waits d_broken_waits) (G_broken_waits : FnOk P w K mg base CX0 2 f_broken_waits d_broken_waits ["run", "waits"] (spBrokenW K))
    {f_barriers_for : Addr} {d_barriers_for : FuncData} (g_barriers_for : mg "barriers_for" = some (.ref f_barriers_for)) (F_barriers_for : FnP K "barriers_for" s_barriers_for f_barriers_for d_barriers_for) (G_barriers_for : FnOk P w K mg base CX0 7 f_barriers_for d_barriers_for ["run", "waits"] (spFor K))
    {f_are_waits_of : Addr} {d_are_waits_of : FuncData} (g_are_waits_of : mg "are_waits_of" = some (.ref f_are_waits_of)) (F_are_waits_of : FnP K "are_waits_of" s_are_waits_of f_are_waits_of d_are_waits_of) (G_are_waits_of : FnOk P w K mg base CX0 5 f_are_waits_of d_are_waits_of ["run", "value"] (spWaits K)) :
    FnOk P w K mg base CX0 8 f fd ["run", "waits", "value"] (spAreApart K) := by
  have b_broken_waits : Binds K d_broken_waits ["run", "waits"] [] := F_broken_waits.bindsN fun _ _ _ _ _ _ us hl => match us, hl with | [_, _], _ => rfl
  have b_barriers_for : Binds K d_barriers_for ["run", "waits"] [] := F_barriers_for.bindsN fun _ _ _ _ _ _ us hl => match us, hl with | [_, _], _ => rfl
  have b_are_waits_of : Binds K d_are_waits_of ["run", "value"] [] := F_are_waits_of.bindsN fun _ _ _ _ _ _ us hl => match us, hl with | [_, _], _ => rfl
  refine F.ok sc_are_apart (fun vs H Q E h => ?_) (fun cdv A outer s H vs Q E hr h => ?_)
  · obtain ⟨a, b, x, es, ws, d, m, rfl, _⟩ := h
    rfl
  · obtain ⟨a, b, x, es, ws, d, m, rfl, hR, hW, hT, hx, k⟩ := h
    have hu65 : _ + 65 < cLine := Nat.lt_of_le_of_lt (Nat.add_le_add_left (by decide : 65 ≤ 200) _) (Nat.lt_of_le_of_lt (Nat.add_le_add_right (Nat.le_add_right _ _) _) hr.un)
    have nd := sc_are_apart.nd
    refine ⟨_, PSs.nox (pss_cons (ps_set (i := 3) nd rfl (Or.inl rfl) (pe_callB call_len_seq (by rfl) Z.len (by decide +kernel) (pa_cons (pe_call G_barriers_for (hr.mono (by decide)) rfl g_barriers_for F_barriers_for.kp b_barriers_for .nil pass0 (pa_cons (pv 0) (pa_cons (pv 1) (pa_nil)))) (pa_nil))))
      (pss_cons (ps_if (PW.pt (pw_or (pt_not (pt_val (pe_call G_are_waits_of (hr.mono (by decide)) rfl g_are_waits_of F_are_waits_of.kp b_are_waits_of .nil pass0 (pa_cons (pv 0) (pa_cons (pv 2) (pa_nil)))))) (pw_or1 (pt_cmpR op_ne (pe_callB call_len_seq (by rfl) Z.len (by decide +kernel) (pa_cons (pv 2) (pa_nil))) (pv 3) (nomark _))))) (pss_one (ps_ret (pe_bl))) (pss_nil))
      (pss_cons (ps_set (i := 4) nd rfl (Or.inr rfl) (pe_call G_broken_waits (hr.mono (by decide)) rfl g_broken_waits F_broken_waits.kp b_broken_waits .nil pass0 (pa_cons (pv 0) (pa_cons (pv 1) (pa_nil)))))
      (pss_cons (ps_if (pt_not (pt_val (pe_callB (cr_all rfl) (by rfl) Z.all (by decide +kernel) (pa_cons (pe_lc (own := [("wait", 7)]) (g := gName 7) (tt := tYes) (te := tOp (rInD K) (tVar 7) (tVar 4)) (by rfl) nd (pi_list (pv 2))
          (blkOk_by (own := [("wait", 7)]) (N := N_are_apart) (sc := defScope s_are_apart) (by decide +kernel)) (fun _ _ _ _ _ => pg_name (i := 7) nd rfl (Or.inl rfl)) (fun _ _ _ _ _ => pts_nil)
          (fun _ _ _ _ _ => pe_cmpR (op_inD hu65) (pv 7) (pv 4) (by rfl))) (pa_nil))))) (pss_one (ps_ret (pe_bl))) (pss_nil))
      (pss_one (ps_ret (pe_callB (cr_all rfl) (by rfl) Z.all (by decide +kernel) (pa_cons (pe_lc (own := [("one", 5), ("other", 6)]) (g := gTup K 2 (gCons (gName 5) (gCons (gName 6) (gNil)))) (tt := tYes) (te := tOp (rI0 fun i j => .bl (decide (i ≤ j))) (tOp (rIxT K) (tVar 5) (tC (.int 1))) (tOp (rIxT K) (tVar 6) (tC (.int 0)))) (by rfl) nd (pi_zip (by rfl) Z.zip (pa_cons (pv 2) (pa_cons (pe_slice sl_list (pv 2) (po_some (pe_int)) (po_none)) (pa_nil))))
          (blkOk_by (own := [("one", 5), ("other", 6)]) (N := N_are_apart) (sc := defScope s_are_apart) (by decide +kernel)) (fun _ _ _ _ _ => pg_tup rfl (pgs_cons (pg_name (i := 5) nd rfl (Or.inl rfl)) (pgs_cons (pg_name (i := 6) nd rfl (Or.inl rfl)) (pgs_nil)))) (fun _ _ _ _ _ => pts_nil)
          (fun _ _ _ _ _ => pe_cmpR op_le (pe_ix ix_tup (pv 5) (pe_int) (fun _ _ => rfl)) (pe_ix ix_tup (pv 6) (pe_int) (fun _ _ => rfl)) (nomark _))) (pa_nil))))))))), ?_⟩
    refine ⟨_, rfl, _, rfl, a, b, es, ws, rfl, hR, hW, hT, fun q H1 e1 T1 nq hq => ?_⟩
    refine ⟨q, _, rfl, .inl (SqL.of hq), ?_⟩
    have hR := hR.ext e1
    have hW := hW.ext e1
    have hx := hx.ext e1
    refine ⟨_, rfl, _, rfl, a, x, es, d, m, rfl, hR, hx, fun H2 s2 => ?_⟩
    have T2 := tabs_same s2 T1
    have e2 := e1.trans (ExtN.of s2)
    have hR := hR.same s2
    have hW := hW.same s2
    refine ⟨_, rfl, ?_⟩
    cases wq : waitsB es d with
    | false =>
      refine iteT (iteT ?_)
      have ea : apartB es ws d = false := by
        cases d with
        | list ds =>
          show (waitsB es (.list ds) && _) = false
          rw [wq]
          rfl
        | _ => rfl
      rw [ea] at k
      exact k _ e2 T2
    | true =>
      obtain ⟨v, vs, rfl, rfl, hV, okV, lV⟩ := td_waits hx wq
      have hV := hV.same s2
      obtain ⟨tv, hv, lv, pv⟩ := id hV
      have mv : (vs.map pd).map toW = vs := by
        rw [List.map_map]
        exact (List.map_congr_left fun _ _ => rfl).trans (List.map_id vs)
      have ek : apartB es ws (.list (vs.map pd)) = (decide (vs.length = (ends (brokenL es ws)).length) && (vs.all (fun w => (brokenL es ws).contains w) && adjB vs)) := by
        show (waitsB es (.list (vs.map pd)) && (decide ((vs.map pd).length = (ends (brokenL es ws)).length) && (((vs.map pd).map toW).all (fun w => (brokenL es ws).contains w) && adjB ((vs.map pd).map toW)))) = _
        rw [wq, mv, List.length_map]
        rfl
      rw [ek] at k
      refine iteF ?_
      refine ⟨_, rfl, v, _, rfl, .inl (SqL.of hv), _, rfl, rfl, ?_⟩
      have le : (numsV (ends (brokenL es ws))).length = (ends (brokenL es ws)).length := List.length_map _
      rw [List.length_map, lv, le]
      by_cases cl : vs.length = (ends (brokenL es ws)).length
      case neg =>
        refine ⟨_, rfl, ?_⟩
        refine itePos (c := !decide (V.int (vs.length : Int) = V.int ((ends (brokenL es ws)).length : Int))) (by rw [decide_eq_false fun z => cl (by have := V.int.inj z; omega)]; rfl) ?_
        rw [decide_eq_false cl] at k
        exact k _ e2 T2
      refine ⟨_, rfl, ?_⟩
      refine iteNeg (c := !decide (V.int (vs.length : Int) = V.int ((ends (brokenL es ws)).length : Int))) (by rw [decide_eq_true (by rw [cl])]; exact Bool.false_ne_true) ?_
      rw [decide_eq_true cl, Bool.true_and] at k
      refine via_nx ?_
      refine norm (σ' := [some (.ref a), some (.ref b), some (.ref v), some (.int ((ends (brokenL es ws)).length : Int)), none, none, none, none]) rfl ?_
      refine ⟨_, rfl, _, rfl, a, b, es, ws, rfl, hR, hW, fun r G s3 nr hr' => ?_⟩
      have e3 := e2.trans (ExtN.of s3)
      have T3 := tabs_same s3 T2
      have hV3 := hV.same s3
      have hv3 := s3 _ _ hv
      refine norm (σ' := [some (.ref a), some (.ref b), some (.ref v), some (.int ((ends (brokenL es ws)).length : Int)), some (.ref r), none, none, none]) rfl ?_
      refine ⟨_, rfl, v, rfl, ⟨_, SqL.of hv3⟩, fun D hD => ?_⟩
      refine ls_bools (xs := vs) (vv := wv) (fun w => (brokenL es ws).contains w) (by omega) hV3 hD ?_ ?_
      · rintro x t Ga Qy Qn hm sa hx ky_
        refine ⟨rfl, _, rfl, _, rfl, pd x, (brokenL es ws).map pd, pd_dp hx, LsT.dp pd_dp (hr'.same sa), shaped_pd _, shaped_wts _, ?_⟩
        have := ky_ _ (Same.refl _)
        have ec : ((brokenL es ws).map pd).any (fun z => PyData.eqv z (pd x)) = (brokenL es ws).contains x := by
          rw [List.any_map, Bool.eq_iff_iff, List.contains_iff_mem, List.any_eq_true]
          constructor
          · rintro ⟨z, hz, q⟩
            have q : PyData.eqv (pd z) (pd x) = true := q
            rw [eqv_pd] at q
            exact of_decide_eq_true q ▸ hz
          · intro hz
            exact ⟨x, hz, by show PyData.eqv (pd x) (pd x) = true; rw [eqv_pd]; exact decide_eq_true rfl⟩
        rw [ec]
        exact this
      · intro G4 s4 hB
        refine ⟨D, _, rfl, SqL.of hB, ?_⟩
        rw [List.all_map]
        have ea : vs.all (id ∘ fun w => (brokenL es ws).contains w) = vs.all fun w => (brokenL es ws).contains w := rfl
        rw [ea]
        have e4 := e3.trans (ExtN.of s4)
        have T4 := tabs_same s4 T3
        cases ca : vs.all fun w => (brokenL es ws).contains w with
        | false =>
          rw [ca] at k
          exact ⟨_, rfl, iteT (k _ e4 T4)⟩
        | true =>
        rw [ca, Bool.true_and] at k
        refine ⟨_, rfl, iteF ?_⟩
        refine via_nx ?_
        have hv4 := s4 _ _ hv3
        obtain ⟨cq, hq⟩ : ∃ c : List V, c = cutV (tv.map V.ref) (some 1) none := ⟨_, rfl⟩
        have ec : cq = (tv.map V.ref).drop 1 := by
          rw [hq, cut_tl]
        refine ⟨_, rfl, _, rfl, _, rfl, v, _, rfl, SqL.of hv4, fun q5 hqn => ?_⟩
        rw [← hq]
        have s5 : Same G4 (upd G4 q5 (.lst cq)) := Same.updf hqn
        refine ⟨v, q5, _, _, rfl, SqL.of (s5 _ _ hv4), SqL.of upd_same, fun D5 hD5 => ?_⟩
        refine lc_sel (n := vs.length - 1) (walk_zip (K := K) (a := v) (b := q5) (xs := tv.map V.ref) (ys := cq) (by rw [ec, List.length_drop, List.length_map]; omega)) (fun i => some (.bl (decide ((vs.getD i (0, 0)).2 ≤ (vs.getD (1 + i) (0, 0)).1)))) (by omega) hD5 (fun H2 s2 => ⟨SqL.of (s2 _ _ (s5 _ _ hv4)), SqL.of (s2 _ _ upd_same)⟩) ?_ ?_
        · rintro t y H5 H6 Qy Qn ht s6 ⟨TT, x1, x2, rfl, nT, rfl, g1, g2⟩ ky kn
          dsimp only at g1 g2
          rw [ec, List.getElem?_drop] at g2
          rw [List.getElem?_map] at g1 g2
          obtain ⟨t1, q1, rfl⟩ := Option.map_eq_some_iff.mp g1
          obtain ⟨t2, q2, rfl⟩ := Option.map_eq_some_iff.mp g2
          obtain ⟨b1, z1⟩ := List.getElem?_eq_some_iff.mp q1
          obtain ⟨b2, z2⟩ := List.getElem?_eq_some_iff.mp q2
          have w1 : vs[t]? = some (vs.getD t (0, 0)) := by rw [List.getD_eq_getElem?_getD, List.getElem?_eq_getElem (by omega)]; rfl
          have w2 : vs[1 + t]? = some (vs.getD (1 + t) (0, 0)) := by rw [List.getD_eq_getElem?_getD, List.getElem?_eq_getElem (by omega)]; rfl
          have sa := (((s3.trans s4).trans s5).trans s6).trans (Same.updf (o := .tup [V.ref t1, V.ref t2]) nT)
          have s1 := SqT_up sa (pv t t1 _ q1 w1)
          have s2 := SqT_up sa (pv (1 + t) t2 _ q2 w2)
          refine ⟨TT, [_, _], rfl, .inl (.inl upd_same), rfl, _, [_], rfl, _, [], rfl, rfl, ?_⟩
          exact ⟨rfl, _, rfl, t1, _, 1, _, rfl, rfl, s1, atI_nat (j := 1) rfl, _, rfl, t2, _, 0, _, rfl, rfl, s2, atI_nat (j := 0) rfl, _, _, rfl, rfl, ky _ _ (Same.updf nT) (congrArg (fun c => some (V.bl c)) (decide_eq_decide.mpr (by omega)))⟩
        · intro H2 s2 hR
          have hB := all_bl' (K := K) hR
          refine ⟨D5, _, rfl, hB, ?_⟩
          rw [List.all_map]
          exact k _ (e4.trans (ExtN.of (s5.trans s2))) (tabs_same (s5.trans s2) T4)
end
end K17
set_option Elab.async false
set_option linter.all false
set_option maxRecDepth 100000
set_option maxHeartbeats 4000000
/-! sorted(xs), xs new lists of counts: some order of them. -/
namespace KB
open PySem PySem.Spec PyProof.Rows L2
/-- y is a list of these counts -/
def LsAt (H : Hp) (l : List Nat) (y : V) : Prop := ∃ T, y = .ref T ∧ H T = some (.lst (l.map fun x : Nat => V.int (x : Int)))
theorem LsAt.same {H H' : Hp} (k : Same H H') {t : List Nat} {y : V} : LsAt H t y → LsAt H' t y := fun ⟨T, e, h⟩ => ⟨T, e, k _ _ h⟩
def lsD (t : List Nat) : PyData := .list ((t.map fun x : Nat => (x : Int)).map PyData.int)
def encL (H : Hp) (y : V) : PyData := match y with
  | .ref T => (match H T with
    | some (.lst xs) => .list (xs.map fun v => match v with | .int i => PyData.int i | _ => .none)
    | _ => .none)
  | _ => .none
theorem encL_at {H : Hp} {t : List Nat} {y : V} (h : LsAt H t y) : encL H y = lsD t := by
  obtain ⟨T, rfl, h⟩ := h
  simp only [encL, lsD, h, List.map_map]
  rfl
def rSortL (K : PySem.W.Frag) : List V → Hp → VK → Prop := fun vs H Q => ∃ (a : Addr) (xs : List V) (ts : List (List Nat)), vs = [.ref a] ∧ SqL K H a xs ∧ Paired (LsAt H) ts xs ∧
  ∀ p ys ts', H p = none → ts'.Perm ts → Paired (LsAt H) ts' ys → Q (.ref p) (upd H p (.lst ys))
theorem cr_sortedL {X : Cx} (hu : X.A.units + 64 < cLine) : CallR X (.builtin "sorted") (rSortL X.K) := by
  intro pins s σ H vs us Q I r h
  obtain ⟨a, xs, ts, rfl, hs, py, q⟩ := h
  have get : ∀ x ∈ xs, ∃ t ∈ ts, LsAt H t x := fun x mx => by
    obtain ⟨h1, h2, h3⟩ := zip_paired py
    rw [← h3] at mx
    obtain ⟨p, hp, rfl⟩ := List.mem_map.mp mx
    refine ⟨p.1, ?_, h1 p hp⟩
    rw [← h2]
    exact List.mem_map.mpr ⟨p, hp, rfl⟩
  refine cr_sortedD hu pins s σ H _ us Q I r ⟨a, xs, encL H, rfl, hs, fun x mx => ?_, fun d hd d' hd' => ?_, .inr fun d hd => ?_, fun x mx => ?_, fun p hp => ?_⟩
  · obtain ⟨t, _, h⟩ := get x mx
    rw [encL_at h]
    obtain ⟨T, rfl, hT⟩ := h
    refine .lst (SqL.of hT) ?_
    have := dpAll_ints (K := X.K) (H := H) (t.map fun x : Nat => (x : Int))
    rw [List.map_map] at this
    exact this
  · obtain ⟨x, mx, rfl⟩ := List.mem_map.mp hd
    obtain ⟨y, my, rfl⟩ := List.mem_map.mp hd'
    obtain ⟨t, _, h⟩ := get x mx
    obtain ⟨t', _, h'⟩ := get y my
    rw [encL_at h, encL_at h']
    show PySem.W.alike (.list _) (.list _) = true
    simp only [PySem.W.alike, alikeAll_ints]
  · obtain ⟨x, mx, rfl⟩ := List.mem_map.mp hd
    obtain ⟨t, mt, h⟩ := get x mx
    rw [encL_at h]
    unfold lsD
    constructor
    · intro z
      cases z
    · intro xs z
      cases z
  · obtain ⟨t, _, h⟩ := get x mx
    rw [encL_at h]
    unfold lsD
    simp only [PyData.depth, depth_ints]
    decide
  · obtain ⟨h1, h2, h3⟩ := zip_paired py
    have ps := paired_sort (F := LsAt H) (le := PySem.W.dataLe false (encL H)) (le' := PySem.W.dataLe false lsD) (fun a x b y h1 h2 => by
      unfold PySem.W.dataLe PySem.W.sortLe
      dsimp only
      rw [encL_at h1, encL_at h2]) py
    exact q p _ _ hp (List.mergeSort_perm _ _) ps
end KB
set_option Elab.async false
set_option linter.all false
set_option maxRecDepth 100000
set_option maxHeartbeats 4000000
/-! Comprehensions whose items are drawn: each turn changes the purse. -/
namespace KB
open PySem PySem.Spec PyProof.Rows L2
theorem off_some {H : Hp} {D b : Addr} {o : HO} (h : KB.off H D b = some o) : b ≠ D ∧ H b = some o := by
  unfold KB.off at h
  split at h
  · cases h
  · exact ⟨by assumption, h⟩
theorem off_but {pu : Addr} {H H' : Hp} (k : But pu H H') : Same (KB.off H pu) (KB.off H' pu) := fun b o e => by
  obtain ⟨n, e2⟩ := off_some e
  rw [KB.off_at n]
  exact k _ _ n e2
/-- what stands but for the purse and the new list -/
def off2 (H : Hp) (D pu : Addr) : Hp := KB.off (KB.off H D) pu
theorem off2_some {H : Hp} {D pu b : Addr} {o : HO} (h : off2 H D pu b = some o) : b ≠ D ∧ b ≠ pu ∧ H b = some o := by
  obtain ⟨n, h⟩ := off_some h
  obtain ⟨n2, h⟩ := off_some h
  exact ⟨n2, n, h⟩
theorem off2_at {H : Hp} {D pu b : Addr} {o : HO} (n : b ≠ D) (n2 : b ≠ pu) (h : H b = some o) : off2 H D pu b = some o := by
  unfold off2
  rw [KB.off_at n2, KB.off_at n]
  exact h
theorem off2_but {H H' : Hp} {D pu : Addr} (k : But pu H H') : Same (off2 H D pu) (off2 H' D pu) := fun b o e => by
  obtain ⟨n, n2, e⟩ := off2_some e
  exact off2_at n n2 (k _ _ n2 e)
theorem off2_le {H : Hp} {D pu : Addr} : Same (off2 H D pu) (KB.off H pu) := fun b o e => by
  obtain ⟨n, n2, e⟩ := off2_some e
  rw [KB.off_at n2]
  exact e
theorem off2_upd {H : Hp} {D pu : Addr} {o : HO} : Same (off2 H D pu) (off2 (L2.upd H D o) D pu) := fun b o e => by
  obtain ⟨n, n2, e⟩ := off2_some e
  exact off2_at n n2 (by rw [upd_ne n]; exact e)
theorem lc_but {J : It} {n : Nat} {G : Hp → Prop} {Y : Nat → Hp → V → Hp → Prop} (w : Walk J n G Y) {g : TG} {tt : TT} {te : TE} {vs : List Nat} {σ : L2.St} {H1 : Hp} {D pu : Addr} {Qd : Hp → Prop} {N cost : Nat} (R : Nat → V → Hp → Prop)
    (hR : ∀ i y H H', Same H H' → R i y H → R i y H') (hn : n ≤ 100000) (hP : Purse H1 pu N) (hD : H1 D = none) (hG : ∀ H, But pu H1 H → G H)
    (hs : ∀ i x H H' (Qy : V → Hp → Prop) (Qn : Hp → Prop), i < n → But pu H1 H → Purse H pu (N + cost * i) → (∃ acc, H D = some (.lst acc)) → Y i H x H' → (∀ y H4, But pu H H4 → Purse H4 pu (N + cost * (i + 1)) → R i y (off2 H4 D pu) → Qy y H4) →
      g x (wipe σ vs) H' fun σ2 H2 => wipe σ2 vs = wipe σ vs ∧ tt σ2 H2 fun b H3 => if b = true then te σ2 H3 Qy else Qn H3)
    (hd : ∀ H ys, But pu H1 H → Purse H pu (N + cost * n) → H D = some (.lst ys) → Paired (fun i y => R i y (off2 H D pu)) (List.range n) ys → Qd H) :
    ∃ W : Nat → Nat → Hp → Prop, (∃ m, W 0 m (L2.upd H1 D (.lst []))) ∧ ∀ i m H, W i m H →
      (J.stop i H ∧ Qd H) ∨ (J.go i H ∧ ∃ Nx : Hp → Prop, (∀ H', Nx H' → ∃ m', m' < m ∧ W (i + 1) m' H') ∧ ∀ x H', J.yld i H x H' → g x (wipe σ vs) H' fun σ2 H2 => wipe σ2 vs = wipe σ vs ∧ tt σ2 H2 fun b H3 =>
        if b = true then te σ2 H3 fun y H4 => ∃ acc, H4 D = some (.lst acc) ∧ acc.length < sizeLine ∧ Nx (L2.upd H4 D (.lst (acc ++ [y]))) else Nx H3) := by
  have nD : D ≠ pu := fresh_ne hP hD
  refine lc_it w (fun i H => But pu H1 H ∧ Purse H pu (N + cost * i) ∧ ∃ ys, H D = some (.lst ys) ∧ ys.length = i ∧ Paired (fun i y => R i y (off2 H D pu)) (List.range i) ys)
    ⟨But.of (Same.updf hD), hP.same' (upd_ne nD.symm), [], upd_same, rfl, .nil⟩ (fun i H _ h => hG H h.1) (fun i x H H' hi hPv hy => ?_) (fun H h => ?_)
  · obtain ⟨b1, PM, ys, hD', ly, py⟩ := hPv
    refine hs i x H H' _ _ hi b1 PM ⟨ys, hD'⟩ hy (fun y H4 b4 P4 r => ?_)
    have l2 : (100000 : Nat) < sizeLine := by decide
    refine ⟨ys, b4 _ _ nD hD', by omega, fun b o nb eb => ?_, P4.same' (upd_ne nD.symm), ys ++ [y], upd_same, by rw [List.length_append, ly]; rfl, ?_⟩
    · rw [upd_ne (ne_of_none eb hD)]
      exact b4 _ _ nb (b1 _ _ nb eb)
    · rw [List.range_succ]
      exact paired_snoc (paired_mono (fun i y h => hR i y _ _ ((off2_but b4).trans off2_upd) h) py) (hR _ _ _ _ off2_upd r)
  · obtain ⟨b1, PM, ys, hD', ly, py⟩ := h
    exact hd H ys b1 PM hD' py
end KB
set_option Elab.async false
set_option linter.all false
set_option maxRecDepth 100000
set_option maxHeartbeats 4000000
/-! list(range(a, b, c)). -/
namespace KB
open PySem PySem.Spec PyProof.Rows L2
/-- the items of a range with a step -/
def rgC (i c : Int) (n : Nat) : List V := (List.range n).map fun k : Nat => V.int (i + (k : Int) * c)
def tLstRg3 (ta : TA) : TE := fun σ H Q => ta σ H fun vs H1 => ∃ (i j c : Int) (n : Nat), vs = [.int i, .int j, .int c] ∧ c ≠ 0 ∧ Builtin.divisionGoesByPylong (j - i) c = false ∧ Builtin.Range.small i j c = true ∧ Builtin.Range.rangeSize i j c = (n : Int) ∧ n ≤ 2 ^ 24 ∧ ∀ q, H1 q = none → Q (.ref q) (upd H1 q (.lst (rgC i c n)))
theorem vals_rgC {i c : Int} {n : Nat} {acc : Array Value} (h : ItemsOf (fun k v => ∃ t, v = Value.int (i + (k : Int) * c) t) acc n) : Vals (rgC i c n) acc.toList := by
  obtain ⟨h1, h2⟩ := h
  have g : ∀ (xs : List Value) (m : Nat), (∀ (j : Nat) (v : Value), xs[j]? = some v → ∃ t, v = Value.int (i + ((m + j : Nat) : Int) * c) t) → Vals ((List.range' m xs.length).map fun k : Nat => V.int (i + (k : Int) * c)) xs := fun xs => by
    induction xs with
    | nil => exact fun _ _ => .nil
    | cons v xs ih =>
      intro m h
      obtain ⟨t, e⟩ := h 0 v rfl
      refine .cons ⟨t, e⟩ (ih (m + 1) fun j v e => ?_)
      obtain ⟨t, e⟩ := h (j + 1) v e
      exact ⟨t, by rw [e, show m + (j + 1) = m + 1 + j by omega]⟩
  have := g acc.toList 0 fun j v e => by
    obtain ⟨t, e⟩ := h2 j v (by rw [← Array.getElem?_toList]; exact e)
    exact ⟨t, by rw [e, Nat.zero_add]⟩
  unfold rgC
  rw [List.range_eq_range', ← h1, ← Array.length_toList]
  exact this
section
variable {X : Cx} {a b c : Expr} {ta : TA} {p p2 pos pos2 : Pos}
theorem pe_listRg3 (hc : X.calm = true) (hg : Gl X "list") (hm : X.mg "list" = none) (hg2 : Gl X "range") (hm2 : X.mg "range" = none) (ha : PA X [a, b, c] ta)
    (hs : starEach [a, b, c] X.env = (false, eval a X.env) :: starEach [b, c] X.env := by rfl) (hpl : (backTo pos2 (starEach [b, c] X.env)).any (fun x => x.fst) = false := by rfl)
    (na : starEach [Expr.Call (.Name "range" p2) [a, b, c] [] pos2] X.env = (false, eval (Expr.Call (.Name "range" p2) [a, b, c] [] pos2) X.env) :: starEach [] X.env := by rfl) :
    PE X (.Call (.Name "list" p) [.Call (.Name "range" p2) [a, b, c] [] pos2] [] pos) (tLstRg3 ta) := by
  refine ⟨fun pins s σ H Q I h => ?_⟩
  have inner : wpAny (model X.prog X.w) X.A (eval (Expr.Call (.Name "range" p2) [a, b, c] [] pos2) X.env) (fun x s1 => ∃ (r : Addr) (i j k : Int) (n : Nat) (t u v : Tok) (H1 : Hp), x = Value.ref r ∧ IsRange s1.heap r i j k t u v ∧ L2.Inv X pins σ H1 s1 ∧ Builtin.Range.small i j k = true ∧ Builtin.Range.rangeSize i j k = (n : Int) ∧ n ≤ 2 ^ 24 ∧ ∀ q, H1 q = none → Q (.ref q) (upd H1 q (.lst (rgC i k n)))) X.xe s := by
    refine Call_ (ld_blt I hg2 hm2 boot_range (PyProof.Rows.callWith_type1 (thn (ha.run pos2 pins s σ H _ I h) fun us s1 hx => ?_) hs hpl) (by decide) (by decide)) rfl
    obtain ⟨vs, H1, I1, r1, i, j, k, n, rfl, k0, kd, ks, kn, n24, q⟩ := hx
    obtain ⟨u1, u2, u3, rfl, r2, r3, r4⟩ : ∃ u1 u2 u3, us = [u1, u2, u3] ∧ RelV (.int i) u1 ∧ RelV (.int j) u2 ∧ RelV (.int k) u3 := by
      cases r1 with
      | cons a r => cases r with
        | cons b r => cases r with
          | cons c r => cases r with
            | nil => exact ⟨_, _, _, rfl, a, b, c⟩
    obtain ⟨t, rfl⟩ := r2
    obtain ⟨u, rfl⟩ := r3
    obtain ⟨v, rfl⟩ := r4
    refine call_range_3 k0 ?_ (.inl kd)
    exact ⟨_, i, j, k, n, t, u, v, H1, rfl, IsRange.new s1.heap i j k t u v, I1.kept fun b o e => Heap.get?_push_of_some _ e, ks, kn, n24, q⟩
  refine Call_ (ld_blt I hg hm boot_list (PyProof.Rows.callWith_type1 (args_cons (thn inner fun x s1 hx => ?_) na) na rfl) (by decide) (by decide)) rfl
  obtain ⟨r, i, j, k, n, t, u, v, H1, rfl, hr, I1, ks, kn, n24, q⟩ := hx
  refine args_nil ?_
  refine call_list_range (I1.ok.hd hc) hr ks kn n24 fun h' tk acc c' hk e' hi => ?_
  refine ⟨.ref s1.heap.objs.size, upd H1 s1.heap.objs.size (.lst (rgC i k n)), I1.laid hk (Nat.le_refl _) ⟨?_, acc.toList, c', vals_rgC hi, ?_⟩, rfl, q _ (I1.hok.fresh (Nat.le_refl _))⟩
  · unfold rgC
    rw [List.length_map, List.length_range]
    exact Nat.le_trans n24 (by decide)
  · rw [Array.toArray_toList]
    exact e'
end
end KB
set_option Elab.async false
set_option linter.all false
set_option maxRecDepth 100000
set_option maxHeartbeats 8000000
/-! The law's draws: runs, lists of places. -/
namespace K17
open PySem PySem.Spec PyProof.Rows L2 KB LamX
def spShuffled (K : PySem.W.Frag) : Sp := fun vs H Q _ => ∃ (pu c : Addr) (N : Nat) (L : List V), vs = [.ref pu, .ref c] ∧ Purse H pu N ∧ N + L.length ≤ 2 ^ 38 ∧ c ≠ pu ∧ H c = some (.lst L) ∧ L.length ≤ 100000 ∧
  ∀ q L' H', But pu H H' → Purse H' pu (N + L.length) → H q = none → H' q = some (.lst L') → L'.Perm L → Q (.ref q) H'
def rSortL2 (K : PySem.W.Frag) : List V → Hp → VK → Prop := fun vs H Q => ∃ (a : Addr) (xs : List V) (ts : List (List Nat)), vs = [.ref a] ∧ SqL K H a xs ∧ Paired (LsAt H) ts xs ∧
  ∀ p ys ts', H p = none → ts'.Perm ts → Paired (LsAt H) ts' ys → ys.Perm xs → Q (.ref p) (upd H p (.lst ys))
theorem cr_sortedL2 {X : Cx} (hu : X.A.units + 64 < cLine) : CallR X (.builtin "sorted") (rSortL2 X.K) := by
  intro pins s σ H vs us Q I r h
  obtain ⟨a, xs, ts, rfl, hs, py, q⟩ := h
  have get : ∀ x ∈ xs, ∃ t ∈ ts, LsAt H t x := fun x mx => by
    obtain ⟨h1, h2, h3⟩ := zip_paired py
    rw [← h3] at mx
    obtain ⟨p, hp, rfl⟩ := List.mem_map.mp mx
    refine ⟨p.1, ?_, h1 p hp⟩
    rw [← h2]
    exact List.mem_map.mpr ⟨p, hp, rfl⟩
  refine cr_sortedD hu pins s σ H _ us Q I r ⟨a, xs, encL H, rfl, hs, fun x mx => ?_, fun d hd d' hd' => ?_, .inr fun d hd => ?_, fun x mx => ?_, fun p hp => ?_⟩
  · obtain ⟨t, _, h⟩ := get x mx
    rw [encL_at h]
    obtain ⟨T, rfl, hT⟩ := h
    refine .lst (SqL.of hT) ?_
    have := dpAll_ints (K := X.K) (H := H) (t.map fun x : Nat => (x : Int))
    rw [List.map_map] at this
    exact this
  · obtain ⟨x, mx, rfl⟩ := List.mem_map.mp hd
    obtain ⟨y, my, rfl⟩ := List.mem_map.mp hd'
    obtain ⟨t, _, h⟩ := get x mx
    obtain ⟨t', _, h'⟩ := get y my
    rw [encL_at h, encL_at h']
    show PySem.W.alike (.list _) (.list _) = true
    simp only [PySem.W.alike, alikeAll_ints]
  · obtain ⟨x, mx, rfl⟩ := List.mem_map.mp hd
    obtain ⟨t, mt, h⟩ := get x mx
    rw [encL_at h]
    unfold lsD
    constructor
    · intro z
      cases z
    · intro xs z
      cases z
  · obtain ⟨t, _, h⟩ := get x mx
    rw [encL_at h]
    unfold lsD
    simp only [PyData.depth, depth_ints]
    decide
  · obtain ⟨h1, h2, h3⟩ := zip_paired py
    have ps := paired_sort (F := LsAt H) (le := PySem.W.dataLe false (encL H)) (le' := PySem.W.dataLe false lsD) (fun a x b y h1 h2 => by
      unfold PySem.W.dataLe PySem.W.sortLe
      dsimp only
      rw [encL_at h1, encL_at h2]) py
    exact q p _ _ hp (List.mergeSort_perm _ _) ps (List.mergeSort_perm _ _)
/-- not there before -/
def NewV (H : Hp) (y : V) : Prop := ∃ T, y = .ref T ∧ H T = none
theorem paired_snd {α β : Type} {R : α → β → Prop} {B : β → Prop} : ∀ {xs : List α} {ys : List β}, Paired (fun x y => R x y ∧ B y) xs ys → Paired R xs ys ∧ ∀ y ∈ ys, B y
  | _, _, .nil => ⟨.nil, fun _ h => nomatch h⟩
  | _, _, .cons r t => by
    obtain ⟨a, b⟩ := paired_snd t
    refine ⟨.cons r.1 a, fun y h => ?_⟩
    rcases List.mem_cons.mp h with h | h
    · rw [h]
      exact r.2
    · exact b y h
/-- ascending lists of numbers below k, of at most z -/
def pls (z : Nat) : Nat → List (List Nat)
  | 0 => [[]]
  | k + 1 => pls z k ++ ((pls z k).filter fun l => decide (l.length < z)).map (· ++ [k])
theorem pls_len (z : Nat) : ∀ k, (pls z k).length ≤ 2 ^ k
  | 0 => Nat.le_refl _
  | k + 1 => by
    have ih := pls_len z k
    have h2 := List.length_filter_le (fun l : List Nat => decide (l.length < z)) (pls z k)
    show (pls z k ++ _).length ≤ _
    rw [List.length_append, List.length_map, Nat.pow_succ]
    omega
theorem asc_snoc {k : Nat} {P : List Nat} (h : PlOk k P) : PlOk (k + 1) (P ++ [k]) := by
  refine ⟨List.pairwise_append.mpr ⟨h.1, List.pairwise_singleton _ _, fun a ha b hb => ?_⟩, fun x hx => ?_⟩
  · rw [List.mem_singleton.mp hb]
    exact h.2 a ha
  · rcases List.mem_append.mp hx with m | m
    · have := h.2 x m
      omega
    · rw [List.mem_singleton.mp m]
      omega
theorem mem_pls {z : Nat} : ∀ {k : Nat} {P : List Nat}, P ∈ pls z k ↔ PlOk k P ∧ P.length ≤ z
  | 0, P => by
    show P ∈ [[]] ↔ _
    rw [List.mem_singleton]
    constructor
    · rintro rfl
      exact ⟨⟨.nil, fun x h => by cases h⟩, Nat.zero_le _⟩
    · rintro ⟨h, _⟩
      cases P with
      | nil => rfl
      | cons x r =>
        have := h.2 x List.mem_cons_self
        omega
  | k + 1, P => by
    show P ∈ pls z k ++ _ ↔ _
    rw [List.mem_append, List.mem_map]
    constructor
    · rintro (h | ⟨P', h, rfl⟩)
      · obtain ⟨a, b⟩ := mem_pls.mp h
        exact ⟨⟨a.1, fun x hx => by have := a.2 x hx; omega⟩, b⟩
      · obtain ⟨h1, h2⟩ := List.mem_filter.mp h
        obtain ⟨a, b⟩ := mem_pls.mp h1
        have := of_decide_eq_true h2
        exact ⟨asc_snoc a, by rw [List.length_append, List.length_singleton]; omega⟩
    · rintro ⟨a, b⟩
      rcases List.eq_nil_or_concat P with rfl | ⟨P', x, rfl⟩
      · exact .inl (mem_pls.mpr ⟨⟨.nil, fun x h => by cases h⟩, Nat.zero_le _⟩)
      · rw [List.concat_eq_append] at a b ⊢
        have px := List.pairwise_append.mp a.1
        have hx := a.2 x (by simp)
        have lt : ∀ y ∈ P', y < x := fun y hy => px.2.2 y hy x (by simp)
        rw [List.length_append, List.length_singleton] at b
        by_cases e : x = k
        · subst e
          exact .inr ⟨P', List.mem_filter.mpr ⟨mem_pls.mpr ⟨⟨px.1, lt⟩, by omega⟩, decide_eq_true (by omega)⟩, rfl⟩
        · refine .inl (mem_pls.mpr ⟨⟨a.1, fun y hy => ?_⟩, by rw [List.length_append, List.length_singleton]; omega⟩)
          rcases List.mem_append.mp hy with m | m
          · have := lt y m
            omega
          · rw [List.mem_singleton.mp m]
            omega
theorem pls_nd (z : Nat) : ∀ k, (pls z k).Nodup
  | 0 => by
    show [[]].Nodup
    exact List.nodup_iff_pairwise_ne.mpr (List.pairwise_singleton _ _)
  | k + 1 => by
    have ih := pls_nd z k
    refine List.nodup_append.mpr ⟨ih, ?_, ?_⟩
    · refine List.nodup_iff_pairwise_ne.mpr (List.pairwise_map.mpr ((List.nodup_iff_pairwise_ne.mp (ih.filter _)).imp fun {a b} h e => h (List.append_cancel_right e)))
    · rintro a ha b hb rfl
      obtain ⟨c, hc, rfl⟩ := List.mem_map.mp hb
      have := (mem_pls.mp ha).1.2 k (by simp)
      omega
def spPlaceL (K : PySem.W.Frag) : Sp := fun vs H Q _ => ∃ (n z : Nat), vs = [.int (n : Int), .int (z : Int)] ∧ n ≤ 11 ∧ z ≤ 10 ∧ ∀ q ys PS H', Same H H' → H q = none → H' q = some (.lst ys) → Paired (LsAt H') PS ys → (∀ y ∈ ys, NewV H y) → PS.Nodup → (∀ P, P ∈ PS ↔ PlOk n P ∧ P.length = z) → PS.length ≤ 2048 → Q (.ref q) H'
theorem lsAt_mono {H H' : Hp} (k : Same H H') {PS : List (List Nat)} {ys : List V} (p : Paired (LsAt H) PS ys) : Paired (LsAt H') PS ys := paired_mono (fun _ _ h => h.same k) p
theorem paired_app {α β : Type} {R : α → β → Prop} : ∀ {xs xs' : List α} {ys ys' : List β}, Paired R xs ys → Paired R xs' ys' → Paired R (xs ++ xs') (ys ++ ys')
  | _, _, _, _, .nil, h => h
  | _, _, _, _, .cons r t, h => .cons r (paired_app t h)
section
variable {P : Program} {w : World} {K : PySem.W.Frag} {mg : Str → Option Value} {base : Heap}
abbrev s_shuffled : Stmt := top 37
abbrev N_shuffled : List Str := ["_law_purse_here", "_law_some", "_law_found", "_law_item"]
theorem sc_shuffled : FnScope N_shuffled ["_law_purse_here", "_law_some"] (defScope s_shuffled) := ⟨rfl, rfl, rfl, by decide +kernel, rfl, by decide +kernel, by decide +kernel⟩
theorem ok_shuffled {f : Addr} {fd : FuncData} (F : FnP K "_law_shuffled" s_shuffled f fd) (Z : FreeS mg)
    {f_draw : Addr} {d_draw : FuncData} (g_draw : mg "_law_draw" = some (.ref f_draw)) (F_draw : FnP K "_law_draw" s_draw f_draw d_draw) (G_draw : FnOk P w K mg base CX0 2 f_draw d_draw ["_law_purse_here", "_law_many"] spDraw) :
    FnOk P w K mg base CX0 3 f fd ["_law_purse_here", "_law_some"] (spShuffled K) := by
  have b_draw : Binds K d_draw ["_law_purse_here", "_law_many"] [] := F_draw.bindsN fun _ _ _ _ _ _ us hl => match us, hl with | [_, _], _ => rfl
  refine F.ok sc_shuffled (fun vs H Q E h => ?_) (fun cdv A outer s H vs Q E hr h => ?_)
  · obtain ⟨pu, c, N, L, rfl, _⟩ := h
    rfl
  · obtain ⟨pu, c, N, L, rfl, hP, hN, nc, hc, l60, k⟩ := h
    have sl : (300000 : Nat) ≤ sizeLine := by decide
    have nd := sc_shuffled.nd
    refine ⟨_, PSs.nox (pss_cons (ps_set (i := 2) nd rfl (Or.inl rfl) (pe_lst (pa_nil)))
      (pss_cons (ps_for PassesOwn.never rfl (pi_list (pv 1)) (pg_name (i := 3) nd rfl (Or.inl rfl))
        (pss_one (ps_expr (pe_bm PySem.F.plainAttrs_list PySem.F.slot_list_insert PySem.F.type_list_insert mt_insert (pv 2) (pa_cons (pe_call G_draw (hr.mono (by decide)) rfl g_draw F_draw.kp b_draw .nil pass0 (pa_cons (pv 0) (pa_cons (pe_op op_add (pe_callB call_len_seq (by rfl) Z.len (by decide +kernel) (pa_cons (pv 2) (pa_nil))) (pe_int)) (pa_nil)))) (pa_cons (pv 3) (pa_nil)))))))
      (pss_one (ps_ret (pv 2))))), ?_⟩
    refine ⟨Nat.zero_le _, fun q hq => ?_⟩
    have nq : q ≠ pu := fresh_ne hP hq
    have s1 := Same.updf (o := .lst []) hq
    have P1 := hP.same s1
    refine ⟨_, rfl, c, rfl, ⟨_, SqL.of (s1 _ _ hc)⟩, ?_⟩
    refine for_it (walk_list (K := K) (a := c) (xs := L)) (fun i σ G => But pu H G ∧ (∃ M, Purse G pu M ∧ M ≤ N + i) ∧ ∃ (ys : List V) (v3 : Option V), G q = some (.lst ys) ∧ ys.Perm (L.take i) ∧ σ = [some (.ref pu), some (.ref c), some (.ref q), v3])
      ⟨But.of s1, ⟨N, P1, by omega⟩, [], _, upd_same, List.Perm.refl _, rfl⟩ (fun i σ G _ hh => SqL.of (hh.1 _ _ nc hc)) ?_ ?_
    · rintro i x σ G G' li ⟨bG, ⟨M, PM, lM⟩, ys, v3, hy, py, rfl⟩ ⟨rfl, hv⟩
      rw [List.getElem?_eq_getElem li] at hv
      obtain rfl := Option.some.inj hv
      have ly := py.length_eq
      rw [List.length_take] at ly
      have mx : mixes (((ys).length : Nat) + 1 : Int) = 1 := mixes_one (by omega) (by omega)
      refine ⟨_, rfl, .inl ⟨rfl, _, SqL.of hy⟩, _, rfl, _, rfl, q, _, rfl, .inl (SqL.of hy), _, _, rfl, rfl, pu, _, M, rfl, by omega, log_small (by omega) (by omega), PM, by rw [mx]; omega, by rw [mx]; omega, fun r G2 r0 r1 b2 P2 => ?_⟩
      rw [mx] at P2
      obtain ⟨r, rfl⟩ : ∃ z : Nat, r = (z : Int) := ⟨r.toNat, by omega⟩
      have hy2 := b2 _ _ nq hy
      refine ⟨_, rfl, q, _, _, _, rfl, rfl, hy2, by omega, by omega, by omega, ?_⟩
      refine ⟨fun c o n e => ?_, ⟨_, P2.same' (upd_ne nq.symm), by omega⟩, ys.take r ++ [L[i]] ++ ys.drop r, _, ?_, ?_, rfl⟩
      · rw [upd_ne (ne_of_none e hq)]
        exact b2 _ _ n (bG _ _ n e)
      · rw [upd_same, Int.toNat_natCast]
      · rw [List.take_succ, List.getElem?_eq_getElem li]
        refine List.Perm.trans ?_ (py.append_right [L[i]])
        rw [List.append_assoc]
        refine (List.Perm.append_left (ys.take r) List.perm_append_comm).trans ?_
        rw [← List.append_assoc, List.take_append_drop]
    · rintro σ G ⟨bG, ⟨M, PM, lM⟩, ys, v3, hy, py, rfl⟩
      rw [List.take_length] at py
      exact ⟨_, rfl, k q ys G bG (PM.mono (by omega)) hq hy py⟩
abbrev s_place_lists : Stmt := top 46
abbrev N_place_lists : List Str := ["_law_many", "_law_size", "_law_found", "_law_place", "_law_some"]
theorem sc_place_lists : FnScope N_place_lists ["_law_many", "_law_size"] (defScope s_place_lists) := ⟨rfl, rfl, rfl, by decide +kernel, rfl, by decide +kernel, by decide +kernel⟩
theorem ok_place_lists {f : Addr} {fd : FuncData} (F : FnP K "_law_place_lists" s_place_lists f fd) (Z : FreeS mg) :
    FnOk P w K mg base CX0 1 f fd ["_law_many", "_law_size"] (spPlaceL K) := by
  refine F.ok sc_place_lists (fun vs H Q E h => ?_) (fun cdv A outer s H vs Q E hr h => ?_)
  · obtain ⟨n, z, rfl, _⟩ := h
    rfl
  · obtain ⟨n, z, rfl, n11, z10, k⟩ := h
    have sl : (10000 : Nat) ≤ sizeLine := by decide
    have nd := sc_place_lists.nd
    refine ⟨_, PSs.nox (pss_cons (ps_set (i := 2) nd rfl (Or.inl rfl) (pe_lst (pa_cons (pe_lst (pa_nil)) (pa_nil))))
      (pss_cons (ps_for PassesOwn.never rfl (pi_range1 (by rfl) Z.range (pa_cons (pv 0) (pa_nil))) (pg_name (i := 3) nd rfl (Or.inr rfl))
        (pss_one (ps_set (i := 2) nd rfl (Or.inl rfl) (pe_op op_cat (pv 2) (pe_lc (own := [("_law_some", 4)]) (g := gName 4) (tt := tTest (tOp (rI0 fun i j => .bl (decide (i < j))) (tCB (rLenK K) (tCons (tVar 4) tNil)) (tVar 1))) (te := tOp rCat (tVar 4) (tLst (tCons (tVar 3) (tNil)))) (by rfl) nd (pi_list (pv 2))
          (blkOk_by (own := [("_law_some", 4)]) (N := N_place_lists) (sc := defScope s_place_lists) (by decide +kernel)) (fun _ _ _ _ _ => pg_name (i := 4) nd rfl (Or.inl rfl)) (fun _ _ _ _ _ => pts_one (pt_cmpR op_lt (pe_callB call_len_seq (by rfl) Z.len (by decide +kernel) (pa_cons (pv 4) (pa_nil))) (pv 1) (nomark _)))
          (fun _ _ _ _ _ => pe_op op_cat (pv 4) (pe_lst (pa_cons (pv 3) (pa_nil)))))))))
      (pss_one (ps_ret (pe_callB ((cr_sortedL2 hr.units)) (by rfl) Z.sorted (by decide +kernel) (pa_cons (pe_lc (own := [("_law_some", 4)]) (g := gName 4) (tt := tTest (tOp rEq (tCB (rLenK K) (tCons (tVar 4) tNil)) (tVar 1))) (te := tVar 4) (by rfl) nd (pi_list (pv 2))
          (blkOk_by (own := [("_law_some", 4)]) (N := N_place_lists) (sc := defScope s_place_lists) (by decide +kernel)) (fun _ _ _ _ _ => pg_name (i := 4) nd rfl (Or.inl rfl)) (fun _ _ _ _ _ => pts_one (pt_cmpR op_eq (pe_callB call_len_seq (by rfl) Z.len (by decide +kernel) (pa_cons (pv 4) (pa_nil))) (pv 1) (nomark _)))
          (fun _ _ _ _ _ => pv 4)) (pa_nil))))))), ?_⟩
    refine ⟨(by show 0 ≤ sizeLine; omega), fun e0 he0 => ⟨(by show 1 ≤ sizeLine; omega), fun q0 hq0 => ?_⟩⟩
    have s1 := (Same.updf (o := .lst []) he0).trans (Same.updf (o := .lst [.ref e0]) hq0)
    have tn : ((n : Int)).toNat = n := Int.toNat_natCast n
    refine ⟨_, rfl, (n : Int), rfl, by omega, by omega, ?_⟩
    rw [tn]
    refine for_range (lo := 0) (n := n) (fun i σ G => Same H G ∧ ∃ (q : Addr) (ys : List V) (v3 : Option V), G q = some (.lst ys) ∧ Paired (LsAt G) (pls z i) ys ∧ (∀ y ∈ ys, NewV H y) ∧ σ = [some (.int (n : Int)), some (.int (z : Int)), some (.ref q), v3, none])
      ⟨s1, q0, [.ref e0], none, upd_same, .cons ⟨e0, rfl, ?_⟩ .nil, (fun y h => by rw [List.mem_singleton.mp h]; exact ⟨e0, rfl, he0⟩), rfl⟩ ?_ ?_
    · rw [upd_ne (fun z => by rw [z, upd_same] at hq0; cases hq0), upd_same]
      rfl
    · rintro i σ G hi ⟨sG, q, ys, v3, hq, py, nys, rfl⟩
      have ly := paired_len py
      have lp : (pls z i).length ≤ 2048 := Nat.le_trans (pls_len z i) (Nat.pow_le_pow_right (n := 2) (by decide) (by omega : i ≤ 11))
      refine ⟨_, rfl, _, rfl, q, rfl, ⟨_, SqL.of hq⟩, fun D hD => ?_⟩
      refine lc_rel (n := ys.length) (walk_list (K := K) (a := q) (xs := ys)) (fun j => (((pls z i)[j]?).map fun l => decide (l.length < z)).getD false) (fun j y G => (∃ l, ((pls z i)[j]?).map (· ++ [i]) = some l ∧ LsAt G l y) ∧ NewV H y) (fun j y G G' s ⟨⟨l, e, h⟩, n⟩ => ⟨⟨l, e, h.same s⟩, n⟩) (by omega) hD (fun G2 s => SqL.of (s _ _ hq)) ?_ ?_
      · rintro j y G2 G3 Qy Qn hj s2 hacc ⟨rfl, hv⟩ ky_ kn
        obtain ⟨l, el, T, rfl, hT⟩ := paired_get2 py hv
        rw [el] at ky_ kn
        have hT2 := s2 _ _ hT
        refine ⟨rfl, _, rfl, T, _, rfl, .inl (SqL.of hT2), _, rfl, _, _, rfl, rfl, _, rfl, ?_⟩
        rw [List.length_map]
        by_cases c : l.length < z
        · refine itePos (decide_eq_true (by omega)) ⟨_, rfl, _, rfl, (by show 1 ≤ sizeLine; omega), fun b hb => ?_⟩
          have sb := Same.updf (o := .lst [V.int (0 + (i : Int))]) hb
          refine ⟨T, b, _, _, rfl, rfl, sb _ _ hT2, upd_same, ?_, fun p hp => ?_⟩
          · rw [List.length_map]
            show _ + 1 ≤ sizeLine
            omega
          have sp := Same.updf (o := .lst ((l.map fun x : Nat => V.int (x : Int)) ++ [V.int (0 + (i : Int))])) hp
          have s3 := sb.trans sp
          obtain ⟨acc, hacc⟩ := hacc
          have np : p ≠ D := fun z => by
            rw [z, sb _ _ hacc] at hp
            cases hp
          refine ky_ _ _ (decide_eq_true c) s3 ⟨⟨l ++ [i], rfl, p, rfl, ?_⟩, p, rfl, none_back ((sG.trans s2).trans sb) hp⟩
          rw [off_at np, upd_same, List.map_append, Int.zero_add]
          rfl
        · refine iteNeg (by rw [decide_eq_false (by omega)]; exact Bool.false_ne_true) (kn _ (decide_eq_false c) (Same.refl _))
      · intro G2 zs s2 hzs pz
        obtain ⟨pz, nzs⟩ := paired_snd pz
        have pz2 : Paired (LsAt G2) (((pls z i).filter fun l => decide (l.length < z)).map (· ++ [i])) zs := by
          have h := paired_fm pz
          rw [← ly, fm_get (· ++ [i]) (fun l : List Nat => decide (l.length < z)) (pls z i)] at h
          exact lsAt_mono (off_le G2 D) h
        have lz := paired_len pz2
        have lf : (((pls z i).filter fun l => decide (l.length < z)).map (· ++ [i])).length ≤ 2048 := by
          rw [List.length_map]
          exact Nat.le_trans (List.length_filter_le _ _) lp
        refine ⟨q, D, ys, zs, rfl, rfl, s2 _ _ hq, hzs, by omega, fun p hp => ?_⟩
        have sp := Same.updf (o := .lst (ys ++ zs)) hp
        exact ⟨(sG.trans s2).trans sp, p, _, _, upd_same, paired_app (lsAt_mono (s2.trans sp) py) (lsAt_mono sp pz2), (fun y h => (List.mem_append.mp h).elim (nys y) (nzs y)), rfl⟩
    · rintro σ G ⟨sG, q, ys, v3, hq, py, nys, rfl⟩
      have ly := paired_len py
      have lp : (pls z n).length ≤ 2048 := Nat.le_trans (pls_len z n) (Nat.pow_le_pow_right (n := 2) (by decide) (by omega : n ≤ 11))
      refine ⟨_, rfl, q, rfl, ⟨_, SqL.of hq⟩, fun D hD => ?_⟩
      refine lc_rel (n := ys.length) (walk_list (K := K) (a := q) (xs := ys)) (fun j => (((pls z n)[j]?).map fun l => decide (l.length = z)).getD false) (fun j y G => (∃ l, ((pls z n)[j]?).map id = some l ∧ LsAt G l y) ∧ NewV H y) (fun j y G G' s ⟨⟨l, e, h⟩, n⟩ => ⟨⟨l, e, h.same s⟩, n⟩) (by omega) hD (fun G2 s => SqL.of (s _ _ hq)) ?_ ?_
      · rintro j y G2 G3 Qy Qn hj s2 hacc ⟨rfl, hv⟩ ky_ kn
        obtain ⟨l, el, T, rfl, hT⟩ := paired_get2 py hv
        rw [el] at ky_ kn
        have hT2 := s2 _ _ hT
        obtain ⟨acc, hacc⟩ := hacc
        have nT : T ≠ D := fun z => by
          rw [z, hD] at hT
          cases hT
        refine ⟨rfl, _, rfl, T, _, rfl, .inl (SqL.of hT2), _, rfl, rfl, _, rfl, ?_⟩
        rw [List.length_map]
        by_cases c : l.length = z
        · refine itePos (decide_eq_true (by rw [c])) ⟨_, rfl, ky_ _ _ (decide_eq_true c) (Same.refl _) ⟨⟨l, rfl, T, rfl, ?_⟩, nys _ (List.mem_of_getElem? hv)⟩⟩
          rw [off_at nT]
          exact hT2
        · refine iteNeg (by rw [decide_eq_false (fun z => c (by have := V.int.inj z; omega))]; exact Bool.false_ne_true) (kn _ (decide_eq_false c) (Same.refl _))
      · intro G2 zs s2 hzs pz
        obtain ⟨pz, nzs⟩ := paired_snd pz
        have pz2 : Paired (LsAt G2) ((pls z n).filter fun l => decide (l.length = z)) zs := by
          have h := paired_fm pz
          rw [← ly, fm_get id (fun l : List Nat => decide (l.length = z)) (pls z n), List.map_id] at h
          exact lsAt_mono (off_le G2 D) h
        refine ⟨D, zs, _, rfl, SqL.of hzs, pz2, fun p us PS hp pm pu up => ?_⟩
        have sp := Same.updf (o := .lst us) hp
        refine k p us PS _ ((sG.trans s2).trans sp) (none_back (sG.trans s2) hp) upd_same (lsAt_mono sp pu) (fun y h => nzs y (up.mem_iff.mp h)) (pm.nodup_iff.mpr ((pls_nd z n).filter _)) (fun P => ?_) ?_
        · rw [pm.mem_iff, List.mem_filter, mem_pls]
          constructor
          · rintro ⟨⟨a, _⟩, b⟩
            exact ⟨a, of_decide_eq_true b⟩
          · rintro ⟨a, b⟩
            exact ⟨⟨a, by omega⟩, decide_eq_true b⟩
        · rw [pm.length_eq]
          exact Nat.le_trans (List.length_filter_le _ _) lp
end
end K17
set_option Elab.async false
set_option linter.all false
set_option maxRecDepth 100000
set_option maxHeartbeats 8000000
/-! The law's runs and waits. -/
namespace K17
open PySem PySem.Spec PyProof.Rows L2 KB LamX
def spEvent (K : PySem.W.Frag) : Sp := fun vs H Q _ => ∃ (pu : Addr) (c N : Nat), vs = [.ref pu, .int (c : Int)] ∧ Purse H pu N ∧ N ≤ 2 ^ 38 ∧ 1 ≤ c ∧ c ≤ 10 ∧
  ∀ t e H', But pu H H' → Purse H' pu (N + 2) → H t = none → H' t = some (.tup (Ev.v e)) → Q (.ref t) H'
def spRun (K : PySem.W.Frag) : Sp := fun vs H Q _ => ∃ (pu : Addr) (m N : Nat), vs = [.ref pu, .int (m : Int)] ∧ Purse H pu N ∧ N ≤ 2 ^ 37 ∧ 1 ≤ m ∧ m ≤ 10 ∧
  ∀ q es H', But pu H H' → Purse H' pu (N + 100) → H q = none → RunOk K (off H' pu) q es → es.length ≤ m → Q (.ref q) H'
/-- pairs in the order of the tuples -/
def sortP (ws : List (Nat × Nat)) : List (Nat × Nat) := ws.mergeSort fun u v => decide (u.1 < v.1 ∨ (u.1 = v.1 ∧ u.2 ≤ v.2))
def iv (w : Nat × Nat) : List Int := [(w.1 : Int), (w.2 : Int)]
theorem sortT_iv (ws : List (Nat × Nat)) : sortT (ws.map iv) = (sortP ws).map iv := by
  unfold sortT sortP
  rw [List.map_mergeSort (s := fun a b => PySem.W.dataLe false intsD a b)]
  intro u _ v _
  have e := congrFun (congrFun (PySem.W.dataLe_ii (fun w : Nat × Nat => (w.1 : Int)) (fun w : Nat × Nat => (w.2 : Int))) u) v
  have e2 : PySem.W.dataLe false intsD (iv u) (iv v) = PySem.W.dataLe false (fun b : Nat × Nat => .tuple [.int (b.1 : Int), .int (b.2 : Int)]) u v := rfl
  rw [e2, e, decide_eq_decide]
  omega
theorem sortP_asc {ws : List (Nat × Nat)} (nd : ws.Nodup) : (sortP ws).Pairwise lexP := by
  have h1 : (sortP ws).Pairwise fun u v => u.1 < v.1 ∨ (u.1 = v.1 ∧ u.2 ≤ v.2) := by
    have h := List.pairwise_mergeSort (le := fun u v : Nat × Nat => decide (u.1 < v.1 ∨ (u.1 = v.1 ∧ u.2 ≤ v.2))) (fun a b c h1 h2 => by
      simp only [decide_eq_true_eq] at *
      omega) (fun a b => by
      simp only [Bool.or_eq_true, decide_eq_true_eq]
      omega) ws
    exact h.imp fun h => of_decide_eq_true h
  have h2 : (sortP ws).Nodup := (List.mergeSort_perm ws _).nodup_iff.mpr nd
  refine (h1.and (List.nodup_iff_pairwise_ne.mp h2)).imp fun {u v} h => ?_
  obtain ⟨h, n⟩ := h
  rcases h with h | ⟨e, h⟩
  · exact .inl h
  · refine .inr ⟨e, ?_⟩
    rcases Nat.lt_or_ge u.2 v.2 with c | c
    · exact c
    · exact absurd (Prod.ext e (by omega)) n
theorem sortP_mem {ws : List (Nat × Nat)} {w : Nat × Nat} : w ∈ sortP ws ↔ w ∈ ws := List.mem_mergeSort
def spPairs (K : PySem.W.Frag) : Sp := fun vs H Q _ => ∃ (a : Addr) (es : List Ev), vs = [.ref a] ∧ RunOk K H a es ∧ es.length ≤ 20 ∧ ∀ q ws H', Same H H' → H q = none → WtOk K H' q es ws → Q (.ref q) H'
def spSomeW (K : PySem.W.Frag) : Sp := fun vs H Q _ => ∃ (pu a : Addr) (es : List Ev) (f N : Nat), vs = [.ref pu, .ref a, .int (f : Int)] ∧ Purse H pu N ∧ N ≤ 2 ^ 37 ∧ 1 ≤ f ∧ f ≤ 10 ∧ RunOk K H a es ∧ es.length ≤ 20 ∧
  ∀ q ws H', But pu H H' → Purse H' pu (N + 1000) → H q = none → WtOk K (off H' pu) q es ws → Q (.ref q) H'
section
variable {P : Program} {w : World} {K : PySem.W.Frag} {mg : Str → Option Value} {base : Heap}
abbrev s_event : Stmt := top 40
abbrev N_event : List Str := ["_law_purse_here", "_law_cells", "_law_way"]
theorem sc_event : FnScope N_event ["_law_purse_here", "_law_cells"] (defScope s_event) := ⟨rfl, rfl, rfl, by decide +kernel, rfl, by decide +kernel, by decide +kernel⟩
theorem ok_event {f : Addr} {fd : FuncData} (F : FnP K "_law_event" s_event f fd) (Z : FreeS mg)
    {f_draw : Addr} {d_draw : FuncData} (g_draw : mg "_law_draw" = some (.ref f_draw)) (F_draw : FnP K "_law_draw" s_draw f_draw d_draw) (G_draw : FnOk P w K mg base CX0 2 f_draw d_draw ["_law_purse_here", "_law_many"] spDraw) :
    FnOk P w K mg base CX0 3 f fd ["_law_purse_here", "_law_cells"] (spEvent K) := by
  have b_draw : Binds K d_draw ["_law_purse_here", "_law_many"] [] := F_draw.bindsN fun _ _ _ _ _ _ us hl => match us, hl with | [_, _], _ => rfl
  refine F.ok sc_event (fun vs H Q E h => ?_) (fun cdv A outer s H vs Q E hr h => ?_)
  · obtain ⟨pu, c, N, rfl, _⟩ := h
    rfl
  · obtain ⟨pu, c, N, rfl, hP, hN, c1, c10, k⟩ := h
    have sl : (10000 : Nat) ≤ sizeLine := by decide
    have m8 : mixes 8 = 1 := mixes_one (by decide) (by decide)
    have mc : mixes (c : Int) = 1 := mixes_one (by omega) (by omega)
    have nd := sc_event.nd
    refine ⟨_, PSs.nox (pss_cons (ps_set (i := 2) nd rfl (Or.inl rfl) (pe_call G_draw (hr.mono (by decide)) rfl g_draw F_draw.kp b_draw .nil pass0 (pa_cons (pv 0) (pa_cons (pe_int) (pa_nil)))))
      (pss_one (ps_ret (pe_ifExp (pt_cmpR op_lt (pv 2) (pe_int) (nomark _)) (pe_tup (pa_cons (pe_str) (pa_cons (pe_call G_draw (hr.mono (by decide)) rfl g_draw F_draw.kp b_draw .nil pass0 (pa_cons (pv 0) (pa_cons (pv 1) (pa_nil)))) (pa_nil)))) (pe_ifExp (pt_cmpR op_lt (pv 2) (pe_int) (nomark _)) (pe_tup (pa_cons (pe_str) (pa_nil))) (pe_tup (pa_cons (pe_str) (pa_nil)))))))), ?_⟩
    refine ⟨_, rfl, pu, 8, N, rfl, by decide, log_small (by decide) (by decide), hP, by rw [m8]; omega, by rw [m8]; omega, fun r G1 r0 r1 b1 P1 => ?_⟩
    rw [m8] at P1
    dsimp only [cxOf, Cx.nox]
    refine ⟨_, rfl, _, _, rfl, rfl, _, rfl, ?_⟩
    by_cases h5 : r < 5
    · refine iteP h5 ⟨_, rfl, _, rfl, pu, c, N + 1, rfl, by omega, log_small (by omega) (by omega), P1, by rw [mc]; omega, by rw [mc]; omega, fun r2 G2 r0' r1' b2 P2 => ?_⟩
      rw [mc] at P2
      obtain ⟨r2, rfl⟩ : ∃ z : Nat, r2 = (z : Int) := ⟨r2.toNat, by omega⟩
      refine ⟨(by show 2 ≤ sizeLine; omega), fun t ht => ?_⟩
      have nt := fresh_ne P2 ht
      have s := Same.updf (o := .tup [V.str "write", V.int (r2 : Int)]) ht
      exact k t (.wr r2) _ ((b1.trans b2).trans (But.of s)) (P2.same s) ((b1.trans b2).none nt ht) upd_same
    · refine iteQ h5 ⟨_, rfl, _, _, rfl, rfl, _, rfl, ?_⟩
      by_cases h7 : r < 7
      · refine iteP h7 ⟨(by show 1 ≤ sizeLine; omega), fun t ht => ?_⟩
        have nt := fresh_ne P1 ht
        have s := Same.updf (o := .tup [V.str "barrier"]) ht
        exact k t .bar _ (b1.trans (But.of s)) ((P1.same s).mono (by omega)) (b1.none nt ht) upd_same
      · refine iteQ h7 ⟨(by show 1 ≤ sizeLine; omega), fun t ht => ?_⟩
        have nt := fresh_ne P1 ht
        have s := Same.updf (o := .tup [V.str "tell"]) ht
        exact k t .tell _ (b1.trans (But.of s)) ((P1.same s).mono (by omega)) (b1.none nt ht) upd_same
abbrev s_run : Stmt := top 41
abbrev N_run : List Str := ["_law_purse_here", "_law_most", "_law_cells", "_law_turn"]
theorem sc_run : FnScope N_run ["_law_purse_here", "_law_most"] (defScope s_run) := ⟨rfl, rfl, rfl, by decide +kernel, rfl, by decide +kernel, by decide +kernel⟩
theorem ok_run {f : Addr} {fd : FuncData} (F : FnP K "_law_run" s_run f fd) (Z : FreeS mg)
    {f_draw : Addr} {d_draw : FuncData} (g_draw : mg "_law_draw" = some (.ref f_draw)) (F_draw : FnP K "_law_draw" s_draw f_draw d_draw) (G_draw : FnOk P w K mg base CX0 2 f_draw d_draw ["_law_purse_here", "_law_many"] spDraw)
    {f_event : Addr} {d_event : FuncData} (g_event : mg "_law_event" = some (.ref f_event)) (F_event : FnP K "_law_event" s_event f_event d_event) (G_event : FnOk P w K mg base CX0 3 f_event d_event ["_law_purse_here", "_law_cells"] (spEvent K)) :
    FnOk P w K mg base CX0 4 f fd ["_law_purse_here", "_law_most"] (spRun K) := by
  have b_draw : Binds K d_draw ["_law_purse_here", "_law_many"] [] := F_draw.bindsN fun _ _ _ _ _ _ us hl => match us, hl with | [_, _], _ => rfl
  have b_event : Binds K d_event ["_law_purse_here", "_law_cells"] [] := F_event.bindsN fun _ _ _ _ _ _ us hl => match us, hl with | [_, _], _ => rfl
  refine F.ok sc_run (fun vs H Q E h => ?_) (fun cdv A outer s H vs Q E hr h => ?_)
  · obtain ⟨pu, m, N, rfl, _⟩ := h
    rfl
  · obtain ⟨pu, m, N, rfl, hP, hN, m1, m10, k⟩ := h
    have sl : (10000 : Nat) ≤ sizeLine := by decide
    have m4 : mixes 4 = 1 := mixes_one (by decide) (by decide)
    have mm : mixes (m : Int) = 1 := mixes_one (by omega) (by omega)
    have nd := sc_run.nd
    refine ⟨_, PSs.nox (pss_cons (ps_set (i := 2) nd rfl (Or.inr rfl) (pe_op op_add (pe_int) (pe_call G_draw (hr.mono (by decide)) rfl g_draw F_draw.kp b_draw .nil pass0 (pa_cons (pv 0) (pa_cons (pe_int) (pa_nil))))))
      (pss_one (ps_ret (pe_lc (own := [("_law_turn", 3)]) (g := gName 3) (tt := tYes) (te := tCall (spEvent K) [] E0 (tCons (tVar 0) (tCons (tVar 2) (tNil)))) (by rfl) nd (pi_range1 (by rfl) Z.range (pa_cons (pe_op op_add (pe_int) (pe_call G_draw (hr.mono (by decide)) rfl g_draw F_draw.kp b_draw .nil pass0 (pa_cons (pv 0) (pa_cons (pv 1) (pa_nil))))) (pa_nil)))
          (blkOk_by (own := [("_law_turn", 3)]) (N := N_run) (sc := defScope s_run) (by decide +kernel)) (fun _ _ _ _ _ => pg_name (i := 3) nd rfl (Or.inl rfl)) (fun _ _ _ _ _ => pts_nil)
          (fun _ _ _ _ _ => pe_call G_event (hr.mono (by decide)) rfl g_event F_event.kp b_event .nil pass0 (pa_cons (pv 0) (pa_cons (pv 2) (pa_nil)))))))), ?_⟩
    refine ⟨_, rfl, pu, 4, N, rfl, by decide, log_small (by decide) (by decide), hP, by rw [m4]; omega, by rw [m4]; omega, fun r G1 r0 r1 b1 P1 => ?_⟩
    rw [m4] at P1
    obtain ⟨r, rfl⟩ : ∃ z : Nat, r = (z : Int) := ⟨r.toNat, by omega⟩
    refine ⟨_, _, rfl, rfl, ?_⟩
    refine ⟨_, rfl, _, rfl, pu, m, N + 1, rfl, by omega, log_small (by omega) (by omega), P1, by rw [mm]; omega, by rw [mm]; omega, fun r2 G2 q0 q1 b2 P2 => ?_⟩
    rw [mm] at P2
    obtain ⟨r2, rfl⟩ : ∃ z : Nat, r2 = (z : Int) := ⟨r2.toNat, by omega⟩
    refine ⟨_, _, rfl, rfl, ((1 + r2 : Nat) : Int), rfl, by omega, by omega, fun D hD => ?_⟩
    rw [Int.toNat_natCast]
    have b12 := b1.trans b2
    have nD := fresh_ne P2 hD
    refine lc_but (n := 1 + r2) (pu := pu) (N := N + 1 + 1) (cost := 2) (walk_range (lo := 0) (n := 1 + r2)) (fun _ y G => ∃ (t : Addr) (e : Ev), y = .ref t ∧ SqT K G t e.v) (fun _ y G G' s ⟨t, e, h1, h2⟩ => ⟨t, e, h1, SqT_up s h2⟩) (by omega) P2 hD (fun G _ => trivial) ?_ ?_
    · rintro i x Ga Gb Qy Qn hi ba Pa hacc ⟨rfl, rfl⟩ ky_
      obtain ⟨acc, hacc⟩ := hacc
      refine ⟨rfl, ?_⟩
      refine ⟨_, rfl, _, rfl, pu, 1 + r, _, rfl, Pa, by omega, by omega, by omega, fun t e Gc bc Pc nt ht => ?_⟩
      refine ky_ _ _ bc (Pc.mono (by omega)) ⟨t, e, rfl, SqT.of (off2_at (fun z => ?_) (fun z => ?_) ht)⟩
      · rw [z, hacc] at nt
        cases nt
      · obtain ⟨A0, B0, c0, i0, eP, _⟩ := Pa.at_
        rw [z, eP] at nt
        cases nt
    · intro G3 ys b3 P3 hys py
      have hpy : ∃ es : List Ev, es.length = ys.length ∧ Paired (fun (e : Ev) y => ∃ t, y = .ref t ∧ SqT K (off G3 pu) t e.v) es ys := by
        clear hys
        have : ∀ {is : List Nat} {ys : List V}, Paired (fun (_ : Nat) y => ∃ (t : Addr) (e : Ev), y = .ref t ∧ SqT K (off2 G3 D pu) t e.v) is ys → ∃ es : List Ev, es.length = ys.length ∧ Paired (fun (e : Ev) y => ∃ t, y = .ref t ∧ SqT K (off G3 pu) t e.v) es ys := fun h => by
          induction h with
          | nil => exact ⟨[], rfl, .nil⟩
          | cons r t ih =>
            obtain ⟨u, e, h1, h2⟩ := r
            obtain ⟨es, l, q⟩ := ih
            exact ⟨e :: es, congrArg (· + 1) l, .cons ⟨u, h1, SqT_up off2_le h2⟩ q⟩
        exact this py
      obtain ⟨es, les, pes⟩ := hpy
      have lys := paired_len py
      rw [List.length_range] at lys
      have hyo : off G3 pu D = some (.lst ys) := by rw [off_at nD]; exact hys
      refine k D es G3 (b12.trans b3) (P3.mono (by omega)) (b12.none nD hD) ⟨LsT.of_paired hyo pes, fun z => ?_, by omega⟩ (by omega)
      rw [z] at les
      simp at les
      omega
abbrev s_pairs_of : Stmt := top 42
abbrev N_pairs_of : List Str := ["_law_run_here", "_law_found", "_law_late", "_law_event_here", "_law_early"]
theorem sc_pairs_of : FnScope N_pairs_of ["_law_run_here"] (defScope s_pairs_of) := ⟨rfl, rfl, rfl, by decide +kernel, rfl, by decide +kernel, by decide +kernel⟩
theorem ok_pairs_of {f : Addr} {fd : FuncData} (F : FnP K "_law_pairs_of" s_pairs_of f fd) (Z : FreeS mg) :
    FnOk P w K mg base CX0 1 f fd ["_law_run_here"] (spPairs K) := by
  refine F.ok sc_pairs_of (fun vs H Q E h => ?_) (fun cdv A outer s H vs Q E hr h => ?_)
  · obtain ⟨a, es, rfl, _⟩ := h
    rfl
  · obtain ⟨a, es, rfl, hR, l20, k⟩ := h
    obtain ⟨ts, ha, lt, ht⟩ := hR.at_.got
    have sl : (10000 : Nat) ≤ sizeLine := by decide
    have nd := sc_pairs_of.nd
    refine ⟨_, PSs.nox (pss_cons (ps_set (i := 1) nd rfl (Or.inl rfl) (pe_lst (pa_nil)))
      (pss_cons (ps_for PassesOwn.never rfl (pi_enum (by rfl) Z.enumerate (pa_cons (pv 0) (pa_nil))) (pg_tup rfl (pgs_cons (pg_name (i := 2) nd rfl (Or.inl rfl)) (pgs_cons (pg_name (i := 3) nd rfl (Or.inl rfl)) (pgs_nil))))
        (pss_one (ps_for PassesOwn.never rfl (pi_range1 (by rfl) Z.range (pa_cons (pv 2) (pa_nil))) (pg_name (i := 4) nd rfl (Or.inl rfl))
        (pss_one (ps_if (PW.pt (pw_and (pt_cmpR op_eq (pe_ix ix_tup (pe_ix ix_list (pv 0) (pv 4) (fun _ _ => rfl)) (pe_int) (fun _ _ => rfl)) (pe_str) (nomark _)) (pw_and1 (PW.pt (pw_or (pt_cmpR op_eq (pe_ix ix_tup (pv 3) (pe_int) (fun _ _ => rfl)) (pe_str) (nomark _)) (pw_or1 (PW.pt (pw_and (pt_cmpR op_eq (pe_ix ix_tup (pv 3) (pe_int) (fun _ _ => rfl)) (pe_str) (nomark _)) (pw_and1 (pt_cmpR (op_neD hr.units) (pv 3) (pe_ix ix_list (pv 0) (pv 4) (fun _ _ => rfl)) (nomark _))))))))))) (pss_one (ps_expr (pe_bm PySem.F.plainAttrs_list PySem.F.slot_list_append PySem.F.type_list_append mt_append (pv 1) (pa_cons (pe_tup (pa_cons (pv 4) (pa_cons (pv 2) (pa_nil)))) (pa_nil))))) (pss_nil))))))
      (pss_one (ps_ret (pe_callB ((cr_sortedT hr.units)) (by rfl) Z.sorted (by decide +kernel) (pa_cons (pv 1) (pa_nil))))))), ?_⟩
    refine ⟨(by show 0 ≤ sizeLine; omega), fun q hq => ?_⟩
    dsimp only [cxOf, Cx.nox]
    have s1 := Same.updf (o := .lst []) hq
    have hq1 : (upd H q (.lst [])) q = some (.lst []) := upd_same
    obtain ⟨G1, eG⟩ : ∃ X, X = upd H q (.lst []) := ⟨_, rfl⟩
    rw [← eG] at s1 hq1 ⊢
    clear eG
    have ha1 := s1 _ _ ha
    have naq : a ≠ q := ne_of_none ha hq
    refine ⟨_, rfl, a, _, rfl, SqL.of ha1, ?_⟩
    have tk : ∀ {G : Hp}, But q G1 G → ∀ (j : Nat) (hj : j < es.length), ∃ t, (ts.map V.ref)[j]? = some (.ref t) ∧ SqT K G t (es[j]'hj).v := fun bG j hj => by
      obtain ⟨t, e1, e2⟩ := ht j hj
      exact ⟨t, e1, SqT_but bG (SqT_up s1 e2) ⟨_, hq1⟩⟩
    refine for_it (n := es.length) (by have := walk_enum (K := K) (a := a) (xs := ts.map V.ref); rw [List.length_map, lt] at this; exact this) (fun i σ G => But q G1 G ∧ ∃ (acc : List (Nat × Nat)) (ys : List V), G q = some (.lst ys) ∧ Paired (fun w y => IntsAt G (iv w) y) acc ys ∧ acc.Nodup ∧ (∀ w ∈ acc, WaitOk es w ∧ w.2 < i) ∧ acc.length ≤ 20 * i ∧ ∃ v2 v3 v4, σ = [some (.ref a), some (.ref q), v2, v3, v4])
      ⟨But.refl _ _, [], [], hq1, .nil, List.nodup_nil, (fun w h => nomatch h), Nat.zero_le _, none, none, none, rfl⟩ (fun i σ G _ hh => SqL.of (hh.1 _ _ naq ha1)) ?_ ?_
    · rintro i v σ G' G hi ⟨bG, acc, ys, hqG, py, nd, hok, la, v2, v3, v4, rfl⟩ ⟨T, x1, x2, rfl, nT, rfl, g1, g2⟩
      dsimp only at g1 g2
      obtain rfl := Option.some.inj g1
      obtain ⟨t, e1, _⟩ := ht i hi
      rw [e1] at g2
      obtain rfl := Option.some.inj g2
      have sT := Same.updf (o := .tup [V.int (i : Nat), V.ref t]) nT
      have bT : But q G1 (upd G' T (.tup [V.int (i : Nat), V.ref t])) := bG.trans (But.of sT)
      have pT := paired_mono (fun w y h => IntsAt.same sT h) py
      have qT := sT _ _ hqG
      have hTT : SqT K (upd G' T (.tup [V.int (i : Nat), V.ref t])) T [V.int (i : Nat), V.ref t] := SqT.of upd_same
      obtain ⟨G2, eG⟩ : ∃ X, X = upd G' T (.tup [V.int (i : Nat), V.ref t]) := ⟨_, rfl⟩
      rw [← eG] at bT pT qT hTT ⊢
      clear eG sT py hqG bG nT
      refine ⟨T, [_, _], rfl, hTT, rfl, _, [_], rfl, _, [], rfl, rfl, ?_⟩
      refine ⟨_, rfl, (i : Int), rfl, by omega, by omega, ?_⟩
      rw [Int.toNat_natCast]
      refine for_range (lo := 0) (n := i) (fun j σ G => But q G1 G ∧ ∃ (acc : List (Nat × Nat)) (ys : List V), G q = some (.lst ys) ∧ Paired (fun w y => IntsAt G (iv w) y) acc ys ∧ acc.Nodup ∧ (∀ w ∈ acc, WaitOk es w ∧ (w.2 < i ∨ w.2 = i ∧ w.1 < j)) ∧ acc.length ≤ 20 * i + j ∧ ∃ v4, σ = [some (.ref a), some (.ref q), some (.int (i : Nat)), some (.ref t), v4])
        ⟨bT, acc, ys, qT, pT, nd, fun w h => ⟨(hok w h).1, .inl (hok w h).2⟩, by omega, v4, rfl⟩ ?_ ?_
      · rintro j σ G hj ⟨bG, acc, ys, hqG, py, nd, hok, la, v4', rfl⟩
        have hj : j < i := hj
        obtain ⟨tj, f1, f2⟩ := tk bG j (by omega)
        obtain ⟨ti, h1, h2⟩ := tk bG i hi
        rw [e1] at h1
        obtain rfl := V.ref.inj (Option.some.inj h1)
        have haG := bG _ _ naq ha1
        have ly := paired_len py
        have skip : But q G1 G ∧ ∃ (acc : List (Nat × Nat)) (ys : List V), G q = some (.lst ys) ∧ Paired (fun w y => IntsAt G (iv w) y) acc ys ∧ acc.Nodup ∧ (∀ w ∈ acc, WaitOk es w ∧ (w.2 < i ∨ w.2 = i ∧ w.1 < j + 1)) ∧ acc.length ≤ 20 * i + (j + 1) ∧ ∃ v4, [some (V.ref a), some (.ref q), some (.int (i : Nat)), some (.ref t), some (.int (0 + (j : Int)))] = [some (V.ref a), some (.ref q), some (.int (i : Nat)), some (.ref t), v4] :=
          ⟨bG, acc, ys, hqG, py, nd, fun w h => ⟨(hok w h).1, (hok w h).2.imp id fun z => ⟨z.1, by omega⟩⟩, by omega, _, rfl⟩
        have grow : WaitOk es (j, i) → ∀ (T2 : Addr), G T2 = none → (upd G T2 (.tup [V.int (0 + (j : Int)), V.int (i : Nat)])) q = some (.lst ys) ∧ ys.length < sizeLine ∧ (But q G1 (upd (upd G T2 (.tup [V.int (0 + (j : Int)), V.int (i : Nat)])) q (.lst (ys ++ [.ref T2]))) ∧ ∃ (acc : List (Nat × Nat)) (ys' : List V), (upd (upd G T2 (.tup [V.int (0 + (j : Int)), V.int (i : Nat)])) q (.lst (ys ++ [.ref T2]))) q = some (.lst ys') ∧ Paired (fun w y => IntsAt (upd (upd G T2 (.tup [V.int (0 + (j : Int)), V.int (i : Nat)])) q (.lst (ys ++ [.ref T2]))) (iv w) y) acc ys' ∧ acc.Nodup ∧ (∀ w ∈ acc, WaitOk es w ∧ (w.2 < i ∨ w.2 = i ∧ w.1 < j + 1)) ∧ acc.length ≤ 20 * i + (j + 1) ∧ ∃ v4, [some (V.ref a), some (.ref q), some (.int (i : Nat)), some (.ref t), some (.int (0 + (j : Int)))] = [some (V.ref a), some (.ref q), some (.int (i : Nat)), some (.ref t), v4]) := fun ok T2 n2 => by
          have sT := Same.updf (o := .tup [V.int (0 + (j : Int)), V.int (i : Nat)]) n2
          have nq2 : T2 ≠ q := fun z => by rw [z, hqG] at n2; cases n2
          have up : ∀ {w y}, IntsAt (upd G T2 (.tup [V.int (0 + (j : Int)), V.int (i : Nat)])) (iv w) y → IntsAt (upd (upd G T2 (.tup [V.int (0 + (j : Int)), V.int (i : Nat)])) q (.lst (ys ++ [.ref T2]))) (iv w) y := fun {w y} ⟨u, eu, hu⟩ => ⟨u, eu, by
            rw [upd_ne (fun z => by rw [z, sT _ _ hqG] at hu; cases hu)]
            exact hu⟩
          refine ⟨sT _ _ hqG, by omega, (bG.trans (But.of sT)).trans But.upd', acc ++ [(j, i)], _, upd_same, paired_snoc (paired_mono (fun w y h => up (IntsAt.same sT h)) py) (up ⟨T2, rfl, ?_⟩), ?_, fun w hw => ?_, by rw [List.length_append]; show _ + 1 ≤ _; omega, _, rfl⟩
          · rw [upd_same]
            show some (HO.tup [V.int (0 + (j : Int)), V.int (i : Int)]) = some (HO.tup [V.int (j : Int), V.int (i : Int)])
            rw [Int.zero_add]
          · refine List.nodup_append.mpr ⟨nd, List.pairwise_singleton _ _, fun x hx y hy z => ?_⟩
            rw [List.mem_singleton.mp hy] at z
            have := (hok x hx).2
            rw [z] at this
            simp at this
          · rcases List.mem_append.mp hw with m | m
            · exact ⟨(hok w m).1, (hok w m).2.imp id fun z => ⟨z.1, by omega⟩⟩
            · rw [List.mem_singleton.mp m]
              exact ⟨ok, .inr ⟨rfl, by show j < j + 1; omega⟩⟩
        have aj : atI (ts.map V.ref) (0 + (j : Int)) = some (.ref tj) := by rw [Int.zero_add]; exact atI_nat f1
        cases q1 : es[j]'(by omega) with
        | bar =>
          rw [q1] at f2
          exact ⟨_, rfl, _, rfl, a, _, _, _, rfl, rfl, SqL.of haG, aj, tj, _, 0, _, rfl, rfl, f2, rfl, rfl, _, rfl, iteF skip⟩
        | tell =>
          rw [q1] at f2
          exact ⟨_, rfl, _, rfl, a, _, _, _, rfl, rfl, SqL.of haG, aj, tj, _, 0, _, rfl, rfl, f2, rfl, rfl, _, rfl, iteF skip⟩
        | wr c =>
          rw [q1] at f2
          refine ⟨_, rfl, _, rfl, a, _, _, _, rfl, rfl, SqL.of haG, aj, tj, _, 0, _, rfl, rfl, f2, rfl, rfl, _, rfl, iteT ?_⟩
          have wok : (es[i]'hi = .tell ∨ ∃ c', es[i]'hi = .wr c' ∧ c' ≠ c) → WaitOk es (j, i) := fun h => ⟨hj, hi, c, by show es[j]? = _; rw [List.getElem?_eq_getElem (by omega), q1], by
            show es[i]? = _ ∨ ∃ c', es[i]? = _ ∧ _
            rw [List.getElem?_eq_getElem hi]
            rcases h with h | ⟨c', h, n⟩
            · exact .inl (by rw [h])
            · exact .inr ⟨c', by rw [h], n⟩⟩
          cases q2 : es[i]'hi with
          | bar =>
            rw [q2] at h2
            refine ⟨_, rfl, t, _, 0, _, rfl, rfl, h2, rfl, rfl, _, rfl, iteF ?_⟩
            exact ⟨_, rfl, t, _, 0, _, rfl, rfl, h2, rfl, rfl, _, rfl, iteF (iteF skip)⟩
          | tell =>
            rw [q2] at h2
            refine ⟨_, rfl, t, _, 0, _, rfl, rfl, h2, rfl, rfl, _, rfl, iteT (iteT ?_)⟩
            refine ⟨_, rfl, Or.inl ⟨rfl, _, SqL.of hqG⟩, _, rfl, _, rfl, (by show 2 ≤ sizeLine; omega), fun T2 n2 => ?_⟩
            obtain ⟨y1, y2, y3⟩ := grow (wok (.inl q2)) T2 n2
            exact ⟨q, _, _, rfl, rfl, y1, y2, y3⟩
          | wr c' =>
            rw [q2] at h2
            refine ⟨_, rfl, t, _, 0, _, rfl, rfl, h2, rfl, rfl, _, rfl, iteF ?_⟩
            refine ⟨_, rfl, t, _, 0, _, rfl, rfl, h2, rfl, rfl, _, rfl, iteT ?_⟩
            refine ⟨_, rfl, _, rfl, _, rfl, a, _, _, _, rfl, rfl, SqL.of haG, aj, _, _, Ev.dp h2, Ev.dp f2, shaped_ev _, shaped_ev _, _, rfl, ?_⟩
            rw [eqv_ev]
            by_cases z : Ev.wr c' = Ev.wr c
            · rw [decide_eq_true z]
              exact iteF skip
            · rw [decide_eq_false z]
              refine iteT ?_
              refine ⟨_, rfl, Or.inl ⟨rfl, _, SqL.of hqG⟩, _, rfl, _, rfl, (by show 2 ≤ sizeLine; omega), fun T2 n2 => ?_⟩
              obtain ⟨y1, y2, y3⟩ := grow (wok (.inr ⟨c', q2, fun e => z (by rw [e])⟩)) T2 n2
              exact ⟨q, _, _, rfl, rfl, y1, y2, y3⟩
      · rintro σ G ⟨bG, acc, ys, hqG, py, nd, hok, la, v4', rfl⟩
        exact ⟨bG, acc, ys, hqG, py, nd, fun w h => ⟨(hok w h).1, by have := (hok w h).2; omega⟩, by omega, _, _, _, rfl⟩
    · rintro σ G ⟨bG, acc, ys, hqG, py, nd, hok, la, v2, v3, v4, rfl⟩
      refine via_nx ?_
      have pm : Paired (IntsAt G) (acc.map iv) ys := paired_mapG py
      refine ⟨_, rfl, q, ys, acc.map iv, rfl, SqL.of hqG, pm, (fun t ht => ?_), fun p zs hp pz => ?_⟩
      · obtain ⟨w, _, rfl⟩ := List.mem_map.mp ht
        exact fun z => by cases z
      · have sp := Same.updf (o := .lst zs) hp
        have sH : Same H (upd G p (.lst zs)) := fun c o e => sp _ _ (bG _ _ (ne_of_none e hq) (s1 _ _ e))
        have np : H p = none := none_back (fun c o e => bG _ _ (ne_of_none e hq) (s1 _ _ e)) hp
        rw [sortT_iv] at pz
        refine k p (sortP acc) _ sH np ⟨?_, ⟨fun w hw => (hok w (sortP_mem.mp hw)).1, sortP_asc nd⟩, ?_⟩
        · obtain ⟨ts', h1, h2, h3⟩ := (LsT.of_paired (K := K) (vv := fun t : List Int => t.map V.int) (upd_same (H := G) (a := p) (o := .lst zs)) (paired_mono (fun x y ⟨u, e, h⟩ => ⟨u, e, SqT.of (sp _ _ h)⟩) pz)).ex
          refine ⟨ts', h1, by rw [h2, List.length_map], fun i u x q1 q2 => ?_⟩
          exact h3 i u (iv x) q1 (by rw [List.getElem?_map, q2]; rfl)
        · have : (sortP acc).length = acc.length := List.length_mergeSort _
          omega
abbrev s_some_waits : Stmt := top 43
abbrev N_some_waits : List Str := ["_law_purse_here", "_law_run_here", "_law_few", "_law_wait"]
theorem sc_some_waits : FnScope N_some_waits ["_law_purse_here", "_law_run_here", "_law_few"] (defScope s_some_waits) := ⟨rfl, rfl, rfl, by decide +kernel, rfl, by decide +kernel, by decide +kernel⟩
theorem ok_some_waits {f : Addr} {fd : FuncData} (F : FnP K "_law_some_waits" s_some_waits f fd) (Z : FreeS mg)
    {f_pairs_of : Addr} {d_pairs_of : FuncData} (g_pairs_of : mg "_law_pairs_of" = some (.ref f_pairs_of)) (F_pairs_of : FnP K "_law_pairs_of" s_pairs_of f_pairs_of d_pairs_of) (G_pairs_of : FnOk P w K mg base CX0 1 f_pairs_of d_pairs_of ["_law_run_here"] (spPairs K))
    {f_draw : Addr} {d_draw : FuncData} (g_draw : mg "_law_draw" = some (.ref f_draw)) (F_draw : FnP K "_law_draw" s_draw f_draw d_draw) (G_draw : FnOk P w K mg base CX0 2 f_draw d_draw ["_law_purse_here", "_law_many"] spDraw) :
    FnOk P w K mg base CX0 3 f fd ["_law_purse_here", "_law_run_here", "_law_few"] (spSomeW K) := by
  have b_pairs_of : Binds K d_pairs_of ["_law_run_here"] [] := F_pairs_of.bindsN fun _ _ _ _ _ _ us hl => match us, hl with | [_], _ => rfl
  have b_draw : Binds K d_draw ["_law_purse_here", "_law_many"] [] := F_draw.bindsN fun _ _ _ _ _ _ us hl => match us, hl with | [_, _], _ => rfl
  refine F.ok sc_some_waits (fun vs H Q E h => ?_) (fun cdv A outer s H vs Q E hr h => ?_)
  · obtain ⟨pu, a, es, f0, N, rfl, _⟩ := h
    rfl
  · obtain ⟨pu, a, es, f0, N, rfl, hP, hN, f1, f10, hR, l20, k⟩ := h
    have sl : (10000 : Nat) ≤ sizeLine := by decide
    have mf : mixes (f0 : Int) = 1 := mixes_one (by omega) (by omega)
    have nd := sc_some_waits.nd
    refine ⟨_, PSs.nox (pss_one (ps_ret (pe_lc (own := [("_law_wait", 3)]) (g := gName 3) (tt := tTest (tOp rEq (tCall spDraw [] E0 (tCons (tVar 0) (tCons (tVar 2) (tNil)))) (tC (.int 0)))) (te := tVar 3) (by rfl) nd (pi_list (pe_call G_pairs_of (hr.mono (by decide)) rfl g_pairs_of F_pairs_of.kp b_pairs_of .nil pass0 (pa_cons (pv 1) (pa_nil))))
          (blkOk_by (own := [("_law_wait", 3)]) (N := N_some_waits) (sc := defScope s_some_waits) (by decide +kernel)) (fun _ _ _ _ _ => pg_name (i := 3) nd rfl (Or.inl rfl)) (fun _ _ _ _ _ => pts_one (pt_cmpR op_eq (pe_call G_draw (hr.mono (by decide)) rfl g_draw F_draw.kp b_draw .nil pass0 (pa_cons (pv 0) (pa_cons (pv 2) (pa_nil)))) (pe_int) (nomark _)))
          (fun _ _ _ _ _ => pv 3)))), ?_⟩
    refine ⟨_, rfl, a, es, rfl, hR, l20, fun q ws G1 s1 nq hW => ?_⟩
    obtain ⟨tw, hq, ltw, htw⟩ := id hW.at_.ex
    have P1 := hP.same s1
    refine ⟨q, rfl, ⟨_, SqL.of hq⟩, fun D hD => ?_⟩
    have nD := fresh_ne P1 hD
    have npq : q ≠ pu := fresh_ne hP nq
    have nqD : q ≠ D := fun z => by rw [z, hD] at hq; cases hq
    have sD := Same.updf (o := .lst []) hD
    obtain ⟨zw, ezw⟩ : ∃ z, z = tw.zip ws := ⟨_, rfl⟩
    have z1 : zw.map Prod.fst = tw := by rw [ezw, List.map_fst_zip (by omega)]
    have z2 : zw.map Prod.snd = ws := by rw [ezw, List.map_snd_zip (by omega)]
    have zl : zw.length = ws.length := by rw [← z2, List.length_map]
    have zm : ∀ p ∈ zw, SqT K G1 p.1 (wv p.2) := fun p hp => by
      obtain ⟨i, hi, rfl⟩ := List.getElem_of_mem hp
      refine htw i _ _ ?_ ?_
      · rw [← z1, List.getElem?_map, List.getElem?_eq_getElem hi]
        rfl
      · rw [← z2, List.getElem?_map, List.getElem?_eq_getElem hi]
        rfl
    have lw := hW.len
    refine lc_it (n := ws.length) (by have := walk_list (K := K) (a := q) (xs := tw.map V.ref); rw [List.length_map, ltw] at this; exact this) (fun i G => But pu G1 G ∧ Purse G pu (N + i) ∧ ∃ sel : List (Addr × (Nat × Nat)), sel.Sublist (zw.take i) ∧ G D = some (.lst (sel.map fun p => V.ref p.1)))
      ⟨But.of sD, P1.same sD, [], List.nil_sublist _, upd_same⟩ (fun i G _ h => SqL.of (h.1 _ _ npq hq)) ?_ ?_
    · rintro i x G G' hi ⟨bG, PG, sel, ss, hDG⟩ ⟨rfl, hv⟩
      have ei : zw[i]? = some (zw[i]'(by omega)) := List.getElem?_eq_getElem _
      rw [← z1, List.getElem?_map, List.getElem?_map, ei] at hv
      obtain rfl := Option.some.inj hv
      have tk : zw.take (i + 1) = zw.take i ++ [zw[i]'(by omega)] := by
        rw [List.take_succ, ei]
        rfl
      have ls := ss.length_le
      rw [List.length_take] at ls
      refine ⟨rfl, ?_⟩
      refine ⟨_, rfl, _, rfl, pu, f0, N + i, rfl, by omega, log_small (by omega) (by omega), PG, by rw [mf]; omega, by rw [mf]; omega, fun r G2 r0 r1 b2 P2 => ⟨rfl, _, rfl, ?_⟩⟩
      rw [mf] at P2
      have hD2 := b2 _ _ nD hDG
      have b12 := bG.trans b2
      by_cases c : r = 0
      · refine iteP (by rw [c]) ⟨_, rfl, _, hD2, by rw [List.length_map]; omega, fun b o n e => ?_, P2.same' (upd_ne nD.symm), sel ++ [zw[i]'(by omega)], ?_, ?_⟩
        · rw [upd_ne (ne_of_none e hD)]
          exact b12 _ _ n e
        · rw [tk]
          exact ss.append (List.Sublist.refl _)
        · rw [upd_same, List.map_append]
          rfl
      · refine iteQ (fun z => c (V.int.inj z)) ⟨b12, P2, sel, ?_, hD2⟩
        rw [tk]
        exact ss.trans (List.sublist_append_left _ _)
    · rintro G ⟨bG, PG, sel, ss, hDG⟩
      rw [List.take_of_length_le (by omega)] at ss
      have hDo : off G pu D = some (.lst ((sel.map Prod.fst).map V.ref)) := by
        rw [off_at nD, hDG, List.map_map]
        rfl
      have s2 : (sel.map Prod.snd).Sublist ws := by
        rw [← z2]
        exact ss.map _
      have lsel := s2.length_le
      refine k D (sel.map Prod.snd) G ((But.of s1).trans bG) (PG.mono (by omega)) (none_back s1 hD) ⟨⟨sel.map Prod.fst, hDo, by rw [List.length_map, List.length_map], fun j t x h1 h2 => ?_⟩, ⟨fun w hw => hW.ok.ok w (s2.subset hw), hW.ok.asc.sublist s2⟩, by omega⟩
      rw [List.getElem?_map] at h1 h2
      obtain ⟨p, q1, rfl⟩ := Option.map_eq_some_iff.mp h1
      obtain ⟨p', q2, rfl⟩ := Option.map_eq_some_iff.mp h2
      rw [q1] at q2
      obtain rfl := Option.some.inj q2
      have h := zm p (ss.subset (List.mem_of_getElem? q1))
      have npu : ∀ {o : HO}, G1 p.1 = some o → (∀ xs, o ≠ .lst xs) → p.1 ≠ pu := fun e n z => by
        obtain ⟨A0, B0, c0, i0, eP, _⟩ := P1.at_
        rw [z, eP] at e
        exact n _ (Option.some.inj e).symm
      rcases h with (h | ⟨o, h⟩) | h
      · have n1 := npu h (fun xs z => by cases z)
        exact .inl (.inl (by rw [off_at n1]; exact bG _ _ n1 h))
      · have n1 := npu h (fun xs z => by cases z)
        exact .inl (.inr ⟨o, by rw [off_at n1]; exact bG _ _ n1 h⟩)
      · exact .inr h
end
end K17
set_option Elab.async false
set_option linter.all false
set_option maxRecDepth 100000
set_option maxHeartbeats 8000000
/-! The law's judges: what stands between, what is enough. -/
namespace K17
open PySem PySem.Spec PyProof.Rows L2 KB LamX
theorem room65 {k : Nat} {A : Around} (r : Room k A) : A.units + 65 < cLine := by have := r.un; omega
theorem cut_two {xs : List V} {i j : Nat} (h : j ≤ xs.length) (hij : i ≤ j) : cutV xs (some (i : Int)) (some (j : Int)) = (xs.drop i).take (j - i) := by
  unfold cutV
  rw [HT.sIx_nat, HT.sIx_nat, Nat.min_eq_left h, Nat.min_eq_left (Nat.le_trans hij h)]
def btwB (es : List Ev) (w : Nat × Nat) : Bool := decide (ahead es w.1 < ahead es w.2)
theorem slice_btw {es : List Ev} {w : Nat × Nat} (ok : WaitOk es w) : (((es.drop w.1).take (w.2 - w.1)).map Ev.d).any (fun z => PyData.eqv z Ev.bar.d) = btwB es w := by
  unfold btwB
  rw [List.any_map, Bool.eq_iff_iff, decide_eq_true_eq, ahead_lt, List.any_eq_true]
  have l1 := ok.lt
  have l2 := ok.len
  constructor
  · rintro ⟨e, he, q⟩
    have q : PyData.eqv e.d Ev.bar.d = true := q
    rw [eqv_ev] at q
    have q := of_decide_eq_true q
    subst q
    obtain ⟨i, hi, e⟩ := List.getElem_of_mem he
    rw [List.length_take, List.length_drop] at hi
    rw [List.getElem_take, List.getElem_drop] at e
    exact ⟨w.1 + i, by omega, by omega, by unfold isB; rw [List.getElem?_eq_getElem (by omega), e]; rfl⟩
  · rintro ⟨i, h1, h2, h3⟩
    unfold isB at h3
    have h3 := of_decide_eq_true h3
    refine ⟨.bar, ?_, by show PyData.eqv Ev.bar.d Ev.bar.d = true; rw [eqv_ev]; rfl⟩
    refine List.mem_of_getElem? (i := i - w.1) ?_
    rw [List.getElem?_take, if_pos (by omega), List.getElem?_drop, show w.1 + (i - w.1) = i by omega]
    exact h3
def spBetween (K : PySem.W.Frag) : Sp := fun vs H Q _ => ∃ (a t : Addr) (es : List Ev) (w : Nat × Nat), vs = [.ref a, .ref t] ∧ RunOk K H a es ∧ SqT K H t (wv w) ∧ WaitOk es w ∧ ∀ H', Same H H' → Q (.bl (btwB es w)) H'
def spEnough (K : PySem.W.Frag) : Sp := fun vs H Q _ => ∃ (a b c : Addr) (es : List Ev) (ws : List (Nat × Nat)) (P : List Nat), vs = [.ref a, .ref b, .ref c] ∧ RunOk K H a es ∧ WtOk K H b es ws ∧ H c = some (.lst (numsV P)) ∧ P.length ≤ 1000 ∧ ∀ H', Same H H' → Q (.bl (enoughB es ws P)) H'
section
variable {P : Program} {w : World} {K : PySem.W.Frag} {mg : Str → Option Value} {base : Heap}
abbrev s_is_between : Stmt := top 44
abbrev N_is_between : List Str := ["_law_run_here", "_law_wait"]
theorem sc_is_between : FnScope N_is_between ["_law_run_here", "_law_wait"] (defScope s_is_between) := ⟨rfl, rfl, rfl, by decide +kernel, rfl, by decide +kernel, by decide +kernel⟩
theorem ok_is_between {f : Addr} {fd : FuncData} (F : FnP K "_law_is_between" s_is_between f fd) (Z : FreeS mg) :
    FnOk P w K mg base CX0 1 f fd ["_law_run_here", "_law_wait"] (spBetween K) := by
  refine F.ok sc_is_between (fun vs H Q E h => ?_) (fun cdv A outer s H vs Q E hr h => ?_)
  · obtain ⟨a, t, es, w, rfl, _⟩ := h
    rfl
  · obtain ⟨a, t, es, w, rfl, hR, hw, ok, k⟩ := h
    obtain ⟨ts, ha, lt, hta⟩ := id hR.at_
    have nd := sc_is_between.nd
    refine ⟨_, PSs.nox (pss_one (ps_ret (pe_cmpR (op_inD (room65 hr)) (pe_tup (pa_cons (pe_str) (pa_nil))) (pe_slice sl_list (pv 0) (po_some (pe_ix ix_tup (pv 1) (pe_int) (fun _ _ => rfl))) (po_some (pe_ix ix_tup (pv 1) (pe_int) (fun _ _ => rfl)))) (by rfl)))), ?_⟩
    have lw := ok.lt
    have ll := ok.len
    refine ⟨(by show 1 ≤ sizeLine; decide), fun T hT => ?_⟩
    have sT := Same.updf (o := .tup [V.str "barrier"]) hT
    have hw' := SqT_up sT hw
    refine ⟨_, rfl, _, rfl, t, _, 0, _, rfl, rfl, hw', atI_nat (j := 0) rfl, _, rfl, _, rfl, t, _, 1, _, rfl, rfl, hw', atI_nat (j := 1) rfl, _, rfl, a, _, rfl, SqL.of (sT _ _ ha), fun q hq => ?_⟩
    have ec := cut_two (xs := ts.map V.ref) (i := w.1) (j := w.2) (by rw [List.length_map]; omega) (by omega)
    rw [ec]
    have sq := Same.updf (o := .lst (((ts.map V.ref).drop w.1).take (w.2 - w.1))) hq
    have hS : LsT K Ev.v (upd (upd H T (.tup [V.str "barrier"])) q (.lst (((ts.map V.ref).drop w.1).take (w.2 - w.1)))) q ((es.drop w.1).take (w.2 - w.1)) := by
      refine ⟨(ts.drop w.1).take (w.2 - w.1), by rw [upd_same, ← List.map_drop, ← List.map_take], by rw [List.length_take, List.length_drop, List.length_take, List.length_drop]; omega, fun i u x e1 e2 => ?_⟩
      rw [List.getElem?_take] at e1 e2
      by_cases z : i < w.2 - w.1
      · rw [if_pos z, List.getElem?_drop] at e1 e2
        exact SqT_up (sT.trans sq) (hta _ _ _ e1 e2)
      · rw [if_neg z] at e1
        cases e1
    refine ⟨_, _, Ev.dp (e := .bar) (SqT.of (sq _ _ upd_same)), LsT.dp Ev.dp hS, shaped_ev _, shaped_run _, ?_⟩
    rw [slice_btw ok]
    exact k _ (sT.trans sq)
abbrev s_enough : Stmt := top 45
abbrev N_enough : List Str := ["_law_run_here", "_law_waits", "_law_places", "_law_early", "_law_late", "_law_place"]
theorem sc_enough : FnScope N_enough ["_law_run_here", "_law_waits", "_law_places"] (defScope s_enough) := ⟨rfl, rfl, rfl, by decide +kernel, rfl, by decide +kernel, by decide +kernel⟩
theorem ok_enough {f : Addr} {fd : FuncData} (F : FnP K "_law_enough" s_enough f fd) (Z : FreeS mg)
    {f_is_between : Addr} {d_is_between : FuncData} (g_is_between : mg "_law_is_between" = some (.ref f_is_between)) (F_is_between : FnP K "_law_is_between" s_is_between f_is_between d_is_between) (G_is_between : FnOk P w K mg base CX0 1 f_is_between d_is_between ["_law_run_here", "_law_wait"] (spBetween K)) :
    FnOk P w K mg base CX0 2 f fd ["_law_run_here", "_law_waits", "_law_places"] (spEnough K) := by
  have b_is_between : Binds K d_is_between ["_law_run_here", "_law_wait"] [] := F_is_between.bindsN fun _ _ _ _ _ _ us hl => match us, hl with | [_, _], _ => rfl
  refine F.ok sc_enough (fun vs H Q E h => ?_) (fun cdv A outer s H vs Q E hr h => ?_)
  · obtain ⟨a, b, c, es, ws, ps, rfl, _⟩ := h
    rfl
  · obtain ⟨a, b, c, es, ws, ps, rfl, hR, hW, hc, lp, k⟩ := h
    have sl : (10000 : Nat) ≤ sizeLine := by decide
    obtain ⟨tw, hb, ltw, htw⟩ := hW.at_.got
    have nd := sc_enough.nd
    refine ⟨_, PSs.nox (pss_cons (ps_for PassesOwn.never rfl (pi_list (pv 1)) (pg_tup rfl (pgs_cons (pg_name (i := 3) nd rfl (Or.inr rfl)) (pgs_cons (pg_name (i := 4) nd rfl (Or.inr rfl)) (pgs_nil))))
        (pss_one (ps_if (PW.pt (pw_and (pt_not (pt_val (pe_call G_is_between (hr.mono (by decide)) rfl g_is_between F_is_between.kp b_is_between .nil pass0 (pa_cons (pv 0) (pa_cons (pe_tup (pa_cons (pv 3) (pa_cons (pv 4) (pa_nil)))) (pa_nil)))))) (pw_and1 (pt_not (pt_val (pe_callB (cr_any rfl) (by rfl) Z.any (by decide +kernel) (pa_cons (pe_lc (own := [("_law_place", 5)]) (g := gName 5) (tt := tYes) (te := tChain (rI0 fun i j => .bl (decide (i < j))) (rI0 fun i j => .bl (decide (i < j))) (tVar 3) (tVar 5) (tOp (rI0 fun i j => .int (i + j)) (tVar 4) (tC (.int 1)))) (by rfl) nd (pi_list (pv 2))
          (blkOk_by (own := [("_law_place", 5)]) (N := N_enough) (sc := defScope s_enough) (by decide +kernel)) (fun _ _ _ _ _ => pg_name (i := 5) nd rfl (Or.inl rfl)) (fun _ _ _ _ _ => pts_nil)
          (fun _ _ _ _ _ => pe_chain op_lt op_lt (pv 3) (pv 5) (pe_op op_add (pv 4) (pe_int)))) (pa_nil)))))))) (pss_one (ps_ret (pe_bl))) (pss_nil))))
      (pss_one (ps_ret (pe_bl)))), ?_⟩
    refine ⟨_, rfl, b, rfl, ⟨_, SqL.of hb⟩, ?_⟩
    refine for_list (xs := tw.map V.ref) (fun i σ G => Same H G ∧ (∀ j, j < i → ∀ w, ws[j]? = some w → (btwB es w || ps.any fun p => stab p w) = true) ∧ ∃ v3 v4, σ = [some (.ref a), some (.ref b), some (.ref c), v3, v4, none])
      ⟨Same.refl _, fun j h => absurd h (Nat.not_lt_zero _), none, none, rfl⟩ (fun i σ G _ hh => SqL.of (hh.1 _ _ hb)) ?_ ?_
    · rintro i y σ G hy ⟨sG, hok, v3, v4, rfl⟩
      have hi : i < ws.length := by
        have := (List.getElem?_eq_some_iff.mp hy).1
        rw [List.length_map] at this
        omega
      obtain ⟨t, e1, e2⟩ := htw i hi
      rw [e1] at hy
      obtain rfl := Option.some.inj hy
      have ok := hW.ok.ok _ (List.getElem_mem hi)
      have hw := SqT_up sG e2
      obtain ⟨wi, ewi⟩ : ∃ x, x = ws[i] := ⟨_, rfl⟩
      have ewj : ws[i]? = some wi := by rw [List.getElem?_eq_getElem hi, ewi]
      rw [← ewi] at hw ok
      refine ⟨t, [_, _], rfl, hw, rfl, _, [_], rfl, _, [], rfl, rfl, ?_⟩
      refine ⟨_, rfl, _, rfl, _, rfl, (by show 2 ≤ sizeLine; omega), fun T nT => ?_⟩
      have sT := Same.updf (o := .tup [V.int (wi.1 : Int), V.int (wi.2 : Int)]) nT
      refine ⟨a, T, es, wi, rfl, hR.same (sG.trans sT), SqT.of upd_same, ok, fun G1 s1 => ⟨_, rfl, ?_⟩⟩
      have sG1 := (sG.trans sT).trans s1
      have next : (btwB es wi || ps.any fun p => stab p wi) = true → ∀ G, Same H G → Same H G ∧ (∀ j, j < i + 1 → ∀ w, ws[j]? = some w → (btwB es w || ps.any fun p => stab p w) = true) ∧ ∃ v3 v4, [some (V.ref a), some (.ref b), some (.ref c), some (.int (wi.1 : Int)), some (.int (wi.2 : Int)), none] = [some (V.ref a), some (.ref b), some (.ref c), v3, v4, none] := fun h G s => ⟨s, fun j hj w hw => by
          rcases Nat.lt_or_ge j i with q | q
          · exact hok j q w hw
          · obtain rfl : j = i := by omega
            rw [ewj] at hw
            cases hw
            exact h, _, _, rfl⟩
      cases q1 : btwB es wi with
      | true => exact iteF (iteF (next (by rw [q1]; rfl) _ sG1))
      | false =>
        refine iteT ?_
        refine ⟨_, rfl, c, rfl, ⟨_, SqL.of (sG1 _ _ hc)⟩, fun D2 hD2 => ?_⟩
        refine lc_bools (K := K) (l := ps) (fun p => stab p wi) (by omega) (sG1 _ _ hc) hD2 ?_ ?_
        · intro p Gb Qy2 Qn2 hp sb ky2
          have k2 := ky2 _ (Same.refl _)
          refine ⟨rfl, _, rfl, _, rfl, _, _, rfl, rfl, _, rfl, ?_⟩
          unfold stab at k2
          by_cases c1 : wi.1 < p
          · rw [decide_eq_true c1] at k2
            refine iteP (by omega) ⟨_, rfl, _, _, rfl, rfl, _, _, rfl, rfl, ?_⟩
            show Qy2 (.bl (decide ((p : Int) < (wi.2 : Int) + 1))) _
            rw [show decide ((p : Int) < (wi.2 : Int) + 1) = decide (p ≤ wi.2) from decide_eq_decide.mpr (by omega)]
            exact k2
          · rw [decide_eq_false c1] at k2
            exact iteQ (by omega) k2
        · intro Gb sb hB
          refine ⟨D2, _, rfl, SqL.of hB, _, rfl, ?_⟩
          rw [List.any_map]
          have ee : ps.any (id ∘ fun p => stab p wi) = ps.any fun p => stab p wi := rfl
          rw [ee]
          cases q2 : ps.any fun p => stab p wi with
          | true => exact iteF (next (by rw [q1, q2]; rfl) _ (sG1.trans sb))
          | false =>
            refine iteT ?_
            have ea : enoughB es ws ps = false := by
              rw [← Bool.not_eq_true]
              intro z
              have := List.all_eq_true.mp z wi (List.mem_of_getElem? ewj)
              have : (btwB es wi || ps.any fun p => stab p wi) = true := this
              rw [q1, q2] at this
              cases this
            rw [ea] at k
            exact k _ (sG1.trans sb)
    · rintro σ G ⟨sG, hok, v3, v4, rfl⟩
      have ea : enoughB es ws ps = true := List.all_eq_true.mpr fun w hw => by
        obtain ⟨i, hi, rfl⟩ := List.getElem_of_mem hw
        exact hok i (by rw [List.length_map, ltw]; exact hi) _ (List.getElem?_eq_getElem hi)
      rw [ea] at k
      exact k _ sG
end
end K17
set_option Elab.async false
set_option linter.all false
set_option maxRecDepth 100000
set_option maxHeartbeats 8000000
/-! The fewest barriers, by the law. -/
namespace K17
open PySem PySem.Spec PyProof.Rows L2 KB LamX
theorem rgV_nat (m : Nat) : rgV 0 (m : Int) = numsV (List.range m) := by
  unfold rgV numsV
  rw [show ((m : Int) - 0).toNat = m by omega]
  apply List.map_congr_left
  intro x _
  rw [Int.zero_add]
theorem nums_of_perm {ns : List Int} {P0 : List Nat} (h : ns.Perm (P0.map fun x : Nat => (x : Int))) : ∃ P : List Nat, ns = P.map (fun x : Nat => (x : Int)) ∧ P.Perm P0 := by
  refine ⟨ns.map Int.toNat, ?_, ?_⟩
  · rw [List.map_map]
    refine (List.map_id ns).symm.trans (List.map_congr_left fun x hx => ?_)
    obtain ⟨n, _, rfl⟩ := List.mem_map.mp (h.mem_iff.mp hx)
    rfl
  · have h2 := h.map Int.toNat
    rw [List.map_map] at h2
    have e : P0.map (Int.toNat ∘ fun x : Nat => (x : Int)) = P0 := (List.map_congr_left fun x _ => rfl).trans (List.map_id P0)
    rw [e] at h2
    exact h2
theorem cut_pre (xs : List V) (r : Nat) : cutV xs none (some (r : Int)) = xs.take r := by
  unfold cutV
  have e1 : HT.sIx xs.length 0 none = 0 := rfl
  rw [e1, List.drop_zero, Nat.sub_zero]
  have e2 : HT.sIx xs.length xs.length (some (r : Int)) = min r xs.length := by
    unfold HT.sIx
    simp
    omega
  rw [e2, ← List.take_take, List.take_length]
theorem numsV_ints (l : List Nat) : numsV l = (l.map fun x : Nat => (x : Int)).map V.int := by
  unfold numsV
  rw [List.map_map]
  rfl
theorem plok_of {n : Nat} {L : List Nat} {P0 P : List Nat} (hL : L.Perm (List.range n)) (h0 : P0.Sublist L) (hp : P.Perm P0) (hs : (P.map fun x : Nat => (x : Int)).Pairwise (· ≤ ·)) : PlOk n P := by
  have nd : P.Nodup := hp.nodup_iff.mpr (h0.nodup (hL.nodup_iff.mpr List.nodup_range))
  rw [List.pairwise_map] at hs
  refine ⟨(hs.and (List.nodup_iff_pairwise_ne.mp nd)).imp fun {a b} h => ?_, fun p hm => ?_⟩
  · obtain ⟨h1, h2⟩ := h
    omega
  · exact List.mem_range.mp (hL.mem_iff.mp (h0.subset (hp.mem_iff.mp hm)))
theorem ends_len {ws : List (Nat × Nat)} : (ends ws).length ≤ ws.length := by
  have h1 := (greedy_sub (byEnd ws) 0).length_le
  have h2 : (byEnd ws).length = ws.length := List.length_mergeSort _
  unfold ends apart
  rw [List.length_map]
  omega
theorem ends_ok {es : List Ev} {ws : List (Nat × Nat)} (h : WaitsOk es ws) : PlOk es.length (ends (brokenL es ws)) := by
  have hl : ∀ w ∈ brokenL es ws, w.1 < w.2 := fun w hw => (h.ok w (List.mem_filter.mp hw).1).lt
  refine ⟨ends_asc hl, fun p hp => ?_⟩
  obtain ⟨g, hg, rfl⟩ := List.mem_map.mp hp
  exact (h.ok g (List.mem_filter.mp (apart_mem hl hg)).1).len
theorem ends_stab {es : List Ev} {ws : List (Nat × Nat)} (h : WaitsOk es ws) : ∀ w ∈ brokenL es ws, ∃ p ∈ ends (brokenL es ws), w.1 < p ∧ p ≤ w.2 :=
  served_iff.mp (ends_serve fun w hw => (h.ok w (List.mem_filter.mp hw).1).lt)
/-- a comprehension that asks a Bool of each list of numbers -/
theorem lls_bools {K : PySem.W.Frag} {PS : List (List Nat)} {ys : List V} {a : Addr} {g : TG} {tt : TT} {te : TE} {vs : List Nat} {σ : L2.St} {H1 : Hp} {D : Addr} {Qd : Hp → Prop} (c : List Nat → Bool) (hn : PS.length ≤ 100000) (ha : H1 a = some (.lst ys)) (py : Paired (LsAt H1) PS ys) (hD : H1 D = none)
    (hs : ∀ x t H (Qy : V → Hp → Prop) (Qn : Hp → Prop), x ∈ PS → Same H1 H → H t = some (.lst (numsV x)) → (∀ H4, Same H H4 → Qy (.bl (c x)) H4) →
      g (.ref t) (wipe σ vs) H fun σ2 H2 => wipe σ2 vs = wipe σ vs ∧ tt σ2 H2 fun b H3 => if b = true then te σ2 H3 Qy else Qn H3)
    (hd : ∀ H, Same H1 H → H D = some (.lst ((PS.map c).map V.bl)) → Qd H) :
    ∃ W : Nat → Nat → Hp → Prop, (∃ m, W 0 m (upd H1 D (.lst []))) ∧ ∀ i m H, W i m H →
      ((Itl K a).stop i H ∧ Qd H) ∨ ((Itl K a).go i H ∧ ∃ Nx : Hp → Prop, (∀ H', Nx H' → ∃ m', m' < m ∧ W (i + 1) m' H') ∧ ∀ x H', (Itl K a).yld i H x H' → g x (wipe σ vs) H' fun σ2 H2 => wipe σ2 vs = wipe σ vs ∧ tt σ2 H2 fun b H3 =>
        if b = true then te σ2 H3 fun y H4 => ∃ acc, H4 D = some (.lst acc) ∧ acc.length < sizeLine ∧ Nx (upd H4 D (.lst (acc ++ [y]))) else Nx H3) := by
  have ly := paired_len py
  refine lc_sel (n := PS.length) (by have := walk_list (K := K) (a := a) (xs := ys); rw [← ly] at this; exact this) (fun j => (PS[j]?).map fun x => V.bl (c x)) hn hD (fun H2 s3 => SqL.of (s3 _ _ ha)) ?_ ?_
  · rintro j v H5 H6 Qy Qn hj s5 ⟨rfl, hy⟩ ky_ kn
    obtain ⟨x, e1, t, rfl, e2⟩ := paired_get2 py hy
    have ex : PS[j] = x := by
      rw [List.getElem?_eq_getElem hj] at e1
      exact Option.some.inj e1
    exact hs x t _ Qy Qn (List.mem_of_getElem? e1) s5 (s5 _ _ e2) fun H4 s4 => ky_ _ _ s4 (by rw [e1]; rfl)
  · intro H2 s2 hR
    refine hd H2 s2 ?_
    rw [hR, fm_all (fun x => V.bl (c x)) PS, List.map_map]
    rfl
theorem enough_served {es : List Ev} {ws : List (Nat × Nat)} (h : WaitsOk es ws) (P : List Nat) : enoughB es ws P = served (brokenL es ws) P := by
  unfold enoughB served brokenL
  rw [Bool.eq_iff_iff, List.all_eq_true, List.all_eq_true]
  constructor
  · intro g w hw
    obtain ⟨h1, h2⟩ := List.mem_filter.mp hw
    have h2 := of_decide_eq_true h2
    have g := g w h1
    rw [decide_eq_false (by omega), Bool.false_or] at g
    exact g
  · intro g w hw
    have m := ahead_mono es (Nat.le_of_lt (h.ok w hw).lt)
    by_cases c : ahead es w.1 < ahead es w.2
    · rw [decide_eq_true c]
      rfl
    · rw [decide_eq_false c, Bool.false_or]
      exact g w (List.mem_filter.mpr ⟨hw, decide_eq_true (by omega)⟩)
theorem ends_short {es : List Ev} {ws : List (Nat × Nat)} (ne : es ≠ []) (h : WaitsOk es ws) : (ends (brokenL es ws)).length < es.length := by
  have pl := ends_ok h
  have pos : ∀ p ∈ ends (brokenL es ws), 1 ≤ p ∧ p < es.length := fun p hp => ⟨by
    have hl : ∀ w ∈ brokenL es ws, w.1 < w.2 := fun w hw => (h.ok w (List.mem_filter.mp hw).1).lt
    obtain ⟨g, hg, rfl⟩ := List.mem_map.mp hp
    have := hl g (apart_mem hl hg)
    omega, pl.lt p hp⟩
  have := asc_len pl.asc pos
  have := List.length_pos_iff.mpr ne
  omega
theorem broken_lt {es : List Ev} {ws : List (Nat × Nat)} (h : WaitsOk es ws) : ∀ w ∈ brokenL es ws, w.1 < w.2 := fun w hw => (h.ok w (List.mem_filter.mp hw).1).lt
def spFewest (K : PySem.W.Frag) : Sp := fun vs H Q _ => ∃ (a b : Addr) (es : List Ev) (ws : List (Nat × Nat)), vs = [.ref a, .ref b] ∧ RunOk K H a es ∧ es.length ≤ 10 ∧ WtOk K H b es ws ∧ ∀ H', Same H H' → Q (.int ((ends (brokenL es ws)).length : Nat)) H'
section
variable {P : Program} {w : World} {K : PySem.W.Frag} {mg : Str → Option Value} {base : Heap}
abbrev s_fewest : Stmt := top 47
abbrev N_fewest : List Str := ["_law_run_here", "_law_waits", "_law_size", "_law_some"]
theorem sc_fewest : FnScope N_fewest ["_law_run_here", "_law_waits"] (defScope s_fewest) := ⟨rfl, rfl, rfl, by decide +kernel, rfl, by decide +kernel, by decide +kernel⟩
theorem ok_fewest {f : Addr} {fd : FuncData} (F : FnP K "_law_fewest" s_fewest f fd) (Z : FreeS mg)
    {f_enough : Addr} {d_enough : FuncData} (g_enough : mg "_law_enough" = some (.ref f_enough)) (F_enough : FnP K "_law_enough" s_enough f_enough d_enough) (G_enough : FnOk P w K mg base CX0 2 f_enough d_enough ["_law_run_here", "_law_waits", "_law_places"] (spEnough K))
    {f_place_lists : Addr} {d_place_lists : FuncData} (g_place_lists : mg "_law_place_lists" = some (.ref f_place_lists)) (F_place_lists : FnP K "_law_place_lists" s_place_lists f_place_lists d_place_lists) (G_place_lists : FnOk P w K mg base CX0 1 f_place_lists d_place_lists ["_law_many", "_law_size"] (spPlaceL K)) :
    FnOk P w K mg base CX0 3 f fd ["_law_run_here", "_law_waits"] (spFewest K) := by
  have b_enough : Binds K d_enough ["_law_run_here", "_law_waits", "_law_places"] [] := F_enough.bindsN fun _ _ _ _ _ _ us hl => match us, hl with | [_, _, _], _ => rfl
  have b_place_lists : Binds K d_place_lists ["_law_many", "_law_size"] [] := F_place_lists.bindsN fun _ _ _ _ _ _ us hl => match us, hl with | [_, _], _ => rfl
  refine F.ok sc_fewest (fun vs H Q E h => ?_) (fun cdv A outer s H vs Q E hr h => ?_)
  · obtain ⟨a, b, es, ws, rfl, _⟩ := h
    rfl
  · obtain ⟨a, b, es, ws, rfl, hR, l10, hW, k⟩ := h
    have sl : (10000 : Nat) ≤ sizeLine := by decide
    obtain ⟨ts, ha, lt, _⟩ := id hR.at_
    have pl := ends_ok hW.ok
    have sh := ends_short hR.ne hW.ok
    have hl := broken_lt hW.ok
    have nd := sc_fewest.nd
    refine ⟨_, PSs.nox (pss_cons (ps_for PassesOwn.never rfl (pi_range1 (by rfl) Z.range (pa_cons (pe_callB call_len_seq (by rfl) Z.len (by decide +kernel) (pa_cons (pv 0) (pa_nil))) (pa_nil))) (pg_name (i := 2) nd rfl (Or.inl rfl))
        (pss_one (ps_if (pt_val (pe_callB (cr_any rfl) (by rfl) Z.any (by decide +kernel) (pa_cons (pe_lc (own := [("_law_some", 3)]) (g := gName 3) (tt := tYes) (te := tCall (spEnough K) [] E0 (tCons (tVar 0) (tCons (tVar 1) (tCons (tVar 3) (tNil))))) (by rfl) nd (pi_list (pe_call G_place_lists (hr.mono (by decide)) rfl g_place_lists F_place_lists.kp b_place_lists .nil pass0 (pa_cons (pe_callB call_len_seq (by rfl) Z.len (by decide +kernel) (pa_cons (pv 0) (pa_nil))) (pa_cons (pv 2) (pa_nil)))))
          (blkOk_by (own := [("_law_some", 3)]) (N := N_fewest) (sc := defScope s_fewest) (by decide +kernel)) (fun _ _ _ _ _ => pg_name (i := 3) nd rfl (Or.inl rfl)) (fun _ _ _ _ _ => pts_nil)
          (fun _ _ _ _ _ => pe_call G_enough (hr.mono (by decide)) rfl g_enough F_enough.kp b_enough .nil pass0 (pa_cons (pv 0) (pa_cons (pv 1) (pa_cons (pv 3) (pa_nil)))))) (pa_nil)))) (pss_one (ps_ret (pv 2))) (pss_nil))))
      (pss_one (ps_ret (pe_callB call_len_seq (by rfl) Z.len (by decide +kernel) (pa_cons (pv 0) (pa_nil)))))), ?_⟩
    refine ⟨_, rfl, a, _, rfl, .inl (SqL.of ha), (es.length : Int), (by rw [List.length_map, lt]), by omega, by omega, ?_⟩
    rw [Int.toNat_natCast]
    refine for_range (lo := 0) (n := es.length) (fun i σ G => Same H G ∧ i ≤ (ends (brokenL es ws)).length ∧ ∃ v1, σ = [some (.ref a), some (.ref b), v1, none])
      ⟨Same.refl _, Nat.zero_le _, none, rfl⟩ ?_ ?_
    · rintro i σ G hi ⟨sG, hle, v1, rfl⟩
      have haG := sG _ _ ha
      refine ⟨_, rfl, a, _, rfl, .inl (SqL.of haG), _, rfl, es.length, i, (by rw [Int.zero_add, List.length_map, lt]; rfl), by omega, by omega, fun q ys PS G1 s1 nq hq py _ nd hm lPS => ⟨q, rfl, ⟨_, SqL.of hq⟩, fun D hD => ?_⟩⟩
      have sH := sG.trans s1
      refine lls_bools (K := K) (enoughB es ws) (by omega) hq py hD ?_ ?_
      · intro x t Ga Qy Qn hx sa ht ky_
        have lx := ((hm x).mp hx).2
        exact ⟨rfl, _, rfl, _, rfl, _, rfl, a, b, t, es, ws, x, rfl, hR.same (sH.trans sa), hW.same (sH.trans sa), ht, by omega, fun Gb sb => ky_ _ sb⟩
      · intro G2 s2 hB
        refine ⟨D, _, rfl, SqL.of hB, ?_⟩
        rw [List.any_map]
        have e : PS.any (id ∘ enoughB es ws) = decide (i = (ends (brokenL es ws)).length) := by
          rw [Bool.eq_iff_iff, List.any_eq_true, decide_eq_true_eq]
          constructor
          · rintro ⟨P', hP', hs⟩
            obtain ⟨h1, h2⟩ := (hm P').mp hP'
            have hs : enoughB es ws P' = true := hs
            rw [enough_served hW.ok] at hs
            have := (ends_least hl h1.asc hs).1
            omega
          · intro e
            exact ⟨ends (brokenL es ws), (hm _).mpr ⟨pl, e.symm⟩, by show enoughB es ws _ = true; rw [enough_served hW.ok]; exact ends_serve hl⟩
        rw [e]
        have sH2 := sH.trans s2
        refine ⟨_, rfl, ?_⟩
        by_cases c : i = (ends (brokenL es ws)).length
        · refine iteP c ⟨_, rfl, ?_⟩
          have := k _ sH2
          rw [← c] at this
          rw [Int.zero_add]
          exact this
        · exact iteQ c ⟨sH2, by omega, _, rfl⟩
    · rintro σ G ⟨sG, hle, v1, rfl⟩
      omega
end
end K17
set_option Elab.async false
set_option linter.all false
set_option maxRecDepth 100000
set_option maxHeartbeats 8000000
/-! exact of a tuple of anything against a wait. -/
namespace K17
open PySem PySem.Spec PyProof.Rows L2 KB LamX RZ
/-- two readings of one function -/
theorem fn_or {P : Program} {w : World} {K : PySem.W.Frag} {mg : Str → Option Value} {base : Heap} {CX : CXT} {k : Nat} {f : Addr} {fd : FuncData} {ps : List Str} {A B : Sp} (hA : FnOk P w K mg base CX k f fd ps A) (hB : FnOk P w K mg base CX k f fd ps B) :
    FnOk P w K mg base CX k f fd ps fun vs H Q E => A vs H Q E ∨ B vs H Q E :=
  ⟨fun vs H Q E h => h.elim (hA.len _ _ _ _) (hB.len _ _ _ _), fun A' outer s H args us vs Q E hr he hb hv h => h.elim (hA.run A' outer s H args us vs Q E hr he hb hv) (hB.run A' outer s H args us vs Q E hr he hb hv)⟩
def eqI : PyData → Int → Bool
  | .int i, j => decide (i = j)
  | _, _ => false
theorem dec_eqI (z j : Int) : decide (V.int z = V.int j) = eqI (.int z) j := by
  show _ = decide (z = j)
  by_cases h : z = j
  · rw [decide_eq_true h, decide_eq_true (congrArg V.int h)]
  · rw [decide_eq_false h, decide_eq_false fun e => h (V.int.inj e)]
def isPd : PyData → Nat × Nat → Bool
  | .tuple [d0, d1], w => eqI d0 (w.1 : Int) && eqI d1 (w.2 : Int)
  | _, _ => false
theorem eqI_iff {d : PyData} {j : Int} : eqI d j = true ↔ d = .int j := by
  cases d with
  | int i => exact ⟨fun h => by rw [of_decide_eq_true h], fun h => decide_eq_true (PyData.int.inj h)⟩
  | _ => exact ⟨fun h => (by cases h), fun h => (by cases h)⟩
theorem isPd_iff {d : PyData} {w : Nat × Nat} : isPd d w = true ↔ d = pd w := by
  constructor
  · intro h
    unfold isPd at h
    split at h
    · rw [Bool.and_eq_true, eqI_iff, eqI_iff] at h
      obtain ⟨rfl, rfl⟩ := h
      rfl
    · cases h
  · rintro rfl
    show (eqI (.int (w.1 : Int)) (w.1 : Int) && eqI (.int (w.2 : Int)) (w.2 : Int)) = true
    rw [eqI_iff.mpr rfl, eqI_iff.mpr rfl]
    rfl
theorem isPd_len {ds : List PyData} {w : Nat × Nat} (h : ds.length ≠ 2) : isPd (.tuple ds) w = false := by
  rw [← Bool.not_eq_true, isPd_iff]
  intro e
  exact h (by rw [PyData.tuple.inj e]; rfl)
theorem td_tup {K : PySem.W.Frag} {H : Hp} {x : V} {ds : List PyData} {m : Nat} (h : TD K H m x (.tuple ds)) : ∃ (a : Addr) (xs : List V) (m' : Nat), x = .ref a ∧ SqT K H a xs ∧ xs.length = ds.length ∧ ∀ (i : Nat) (u : V) (e : PyData), xs[i]? = some u → ds[i]? = some e → TD K H m' u e := by
  cases m with
  | zero => cases h
  | succ m =>
    rcases h with h | ⟨a, xs, ds', e, l, l1, ⟨t1, t2⟩ | ⟨t1, t2⟩, c⟩ | ⟨a, ps, mm, e, n1, ha, ed⟩
    · cases h
    · cases t2
    · cases t2
      exact ⟨a, xs, m, e, t1, l, c⟩
    · cases ed
def spExI (K : PySem.W.Frag) : Sp := fun vs H Q _ => ∃ (x : V) (d : PyData) (n : Nat) (j : Int), vs = [x, .int j] ∧ TD K H n x d ∧ ∀ H', Same H H' → Q (.bl (eqI d j)) H'
def spExT (K : PySem.W.Frag) : Sp := fun vs H Q _ => ∃ (x : V) (ds : List PyData) (U : Addr) (n : Nat) (w : Nat × Nat), vs = [x, .ref U] ∧ TD K H n x (.tuple ds) ∧ SqT K H U (wv w) ∧ ∀ H', Same H H' → Q (.bl (isPd (.tuple ds) w)) H'
section
variable {P : Program} {w : World} {K : PySem.W.Frag} {mg : Str → Option Value} {base : Heap} {f : Addr} {fd : FuncData}
theorem ok_exI (F : FnP K "_law_exact" s_exact f fd) (Z : FreeS mg) : FnOk P w K mg base CX0 1 f fd ["_law_mine", "_law_theirs"] (spExI K) := by
  have kitF : ∀ {t : String}, kitB t "list" = some false → kitB t "tuple" = some false → PySem.W.kitAny K (.type t) [.type "list", .type "tuple"] = some false := fun h1 h2 =>
    kitAny_cons (kit_ty h1) (fun _ => kitAny_cons (kit_ty h2) (fun _ => kitAny_nil) (fun z => nomatch z)) (fun z => nomatch z)
  have la : kitB "list" "list" = some true := by decide +kernel
  have ta : kitB "tuple" "tuple" = some true := by decide +kernel
  have tl : kitB "tuple" "list" = some false := by decide +kernel
  refine F.ok sc_exact (fun vs H Q E h => ?_) (fun cdv A outer s H vs Q E hr h => ?_)
  · obtain ⟨x, d, n, j, rfl, _⟩ := h
    rfl
  · obtain ⟨x, d, n, j, rfl, hx, k⟩ := h
    have nd := sc_exact.nd
    refine ⟨_, PSs.nox (pss_cons (ps_if (pt_val (pe_callB call_isiT (by rfl) Z.isi (by decide +kernel) (pa_cons (pv 0) (pa_cons (pe_tup (pa_cons (pe_bltn (v := .ty "list") (by rfl) Z.tlist (by decide +kernel) rfl) (pa_cons (pe_bltn (v := .ty "tuple") (by rfl) Z.ttuple (by decide +kernel) rfl) (pa_nil)))) pa_nil)))) (pss_cons (ps_set (i := 2) nd rfl (Or.inl rfl) (pe_and (pe_cmpR op_eq (pe_callB call_isi (by rfl) Z.isi (by decide +kernel) (pa_cons (pv 1) (pa_cons (pe_bltn (v := .ty "list") (by rfl) Z.tlist (by decide +kernel) rfl) pa_nil))) (pe_callB call_isi (by rfl) Z.isi (by decide +kernel) (pa_cons (pv 0) (pa_cons (pe_bltn (v := .ty "list") (by rfl) Z.tlist (by decide +kernel) rfl) pa_nil))) (nomark _)) (pe_one (pe_cmpR op_eq (pe_callB call_isi (by rfl) Z.isi (by decide +kernel) (pa_cons (pv 1) (pa_cons (pe_bltn (v := .ty "tuple") (by rfl) Z.ttuple (by decide +kernel) rfl) pa_nil))) (pe_callB call_isi (by rfl) Z.isi (by decide +kernel) (pa_cons (pv 0) (pa_cons (pe_bltn (v := .ty "tuple") (by rfl) Z.ttuple (by decide +kernel) rfl) pa_nil))) (nomark _)))))
      (pss_one (ps_ret (pe_and (pv 2) (pe_and (pe_cmpR op_eq (pe_callB call_len_seq (by rfl) Z.len (by decide +kernel) (pa_cons (pv 0) (pa_nil))) (pe_callB call_len_seq (by rfl) Z.len (by decide +kernel) (pa_cons (pv 1) (pa_nil))) (nomark _)) (pe_one (pe_dead))))))) (pss_nil))
      (pss_cons (ps_if (pt_val (pe_callB call_isi (by rfl) Z.isi (by decide +kernel) (pa_cons (pv 0) (pa_cons (pe_bltn (v := .ty "dict") (by rfl) Z.tdict (by decide +kernel) rfl) pa_nil)))) (pss_cons (ps_set (i := 2) nd rfl (Or.inl rfl) (pe_and (pe_callB call_isi (by rfl) Z.isi (by decide +kernel) (pa_cons (pv 1) (pa_cons (pe_bltn (v := .ty "dict") (by rfl) Z.tdict (by decide +kernel) rfl) pa_nil))) (pe_one (pe_dead))))
      (pss_one (ps_ret (pe_and (pv 2) (pe_one pe_dead))))) (pss_nil))
      (pss_cons (ps_set (i := 2) nd rfl (Or.inl rfl) (pe_cmpR op_eq (pe_callB call_isi (by rfl) Z.isi (by decide +kernel) (pa_cons (pv 0) (pa_cons (pe_bltn (v := .ty "int") (by rfl) Z.int (by decide +kernel) rfl) pa_nil))) (pe_callB call_isi (by rfl) Z.isi (by decide +kernel) (pa_cons (pv 1) (pa_cons (pe_bltn (v := .ty "int") (by rfl) Z.int (by decide +kernel) rfl) pa_nil))) (nomark _)))
      (pss_one (ps_ret (pe_and (pv 2) (pe_and (pe_cmpR op_eq (pe_callB call_isi (by rfl) Z.isi (by decide +kernel) (pa_cons (pv 0) (pa_cons (pe_bltn (v := .ty "bool") (by rfl) Z.tbool (by decide +kernel) rfl) pa_nil))) (pe_callB call_isi (by rfl) Z.isi (by decide +kernel) (pa_cons (pv 1) (pa_cons (pe_bltn (v := .ty "bool") (by rfl) Z.tbool (by decide +kernel) rfl) pa_nil))) (nomark _)) (pe_one (pe_cmpR op_eq (pv 0) (pv 1) (nomark _)))))))))), ?_⟩
    refine ⟨_, rfl, (by show 2 ≤ sizeLine; decide), fun T hT => ?_⟩
    have s1 : Same H (upd H T (.tup [.ty "list", .ty "tuple"])) := Same.updf hT
    have hx1 := hx.same s1
    have kk := k _ s1
    have hT1 := upd_same (H := H) (a := T) (o := .tup [.ty "list", .ty "tuple"])
    generalize upd H T (.tup [.ty "list", .ty "tuple"]) = G at *
    rcases (td_cs hx1) with ⟨rfl, rfl⟩ | ⟨b, rfl, rfl⟩ | ⟨z, rfl, rfl⟩ | ⟨z, rfl, rfl⟩ | ⟨a, xs, ds, rfl, ha, rfl, _⟩ | ⟨a, xs, ds, rfl, ha, rfl, lx, l1⟩ | ⟨a, ps, m, rfl, ha, rfl⟩
    · refine ⟨.non, T, [.ty "list", .ty "tuple"], .type "NoneType", [.type "list", .type "tuple"], false, rfl, hT1, .cons (.ty _) (.cons (.ty _) .nil), .base .non, kitF (by decide +kernel) (by decide +kernel), false, rfl, iteF ?_⟩
      refine ⟨_, rfl, .non, .ty "dict", .type "NoneType", .type "dict", false, rfl, .ty _, .base .non, kit_ty (by decide +kernel), false, rfl, iteF ?_⟩
      refine ⟨_, rfl, .non, .ty "int", .type "NoneType", .type "int", false, rfl, .ty _, .base .non, kit_ty (by decide +kernel), _, rfl, .int j, .ty "int", .type "int", .type "int", true, rfl, .ty _, .base (.int j), kit_ty (by decide +kernel), rfl, ?_⟩
      exact ⟨_, rfl, false, rfl, iteF kk⟩
    · refine ⟨.bl b, T, [.ty "list", .ty "tuple"], .type "bool", [.type "list", .type "tuple"], false, rfl, hT1, .cons (.ty _) (.cons (.ty _) .nil), .base (.bl b), kitF (by decide +kernel) (by decide +kernel), false, rfl, iteF ?_⟩
      refine ⟨_, rfl, .bl b, .ty "dict", .type "bool", .type "dict", false, rfl, .ty _, .base (.bl b), kit_ty (by decide +kernel), false, rfl, iteF ?_⟩
      refine ⟨_, rfl, .bl b, .ty "int", .type "bool", .type "int", true, rfl, .ty _, .base (.bl b), kit_ty (by decide +kernel), _, rfl, .int j, .ty "int", .type "int", .type "int", true, rfl, .ty _, .base (.int j), kit_ty (by decide +kernel), rfl, ?_⟩
      refine ⟨_, rfl, true, rfl, iteT ?_⟩
      refine ⟨_, rfl, .bl b, .ty "bool", .type "bool", .type "bool", true, rfl, .ty _, .base (.bl b), kit_ty (by decide +kernel), _, rfl, .int j, .ty "bool", .type "int", .type "bool", false, rfl, .ty _, .base (.int j), kit_ty (by decide +kernel), rfl, ?_⟩
      exact ⟨false, rfl, iteF kk⟩
    · refine ⟨.int z, T, [.ty "list", .ty "tuple"], .type "int", [.type "list", .type "tuple"], false, rfl, hT1, .cons (.ty _) (.cons (.ty _) .nil), .base (.int z), kitF (by decide +kernel) (by decide +kernel), false, rfl, iteF ?_⟩
      refine ⟨_, rfl, .int z, .ty "dict", .type "int", .type "dict", false, rfl, .ty _, .base (.int z), kit_ty (by decide +kernel), false, rfl, iteF ?_⟩
      refine ⟨_, rfl, .int z, .ty "int", .type "int", .type "int", true, rfl, .ty _, .base (.int z), kit_ty (by decide +kernel), _, rfl, .int j, .ty "int", .type "int", .type "int", true, rfl, .ty _, .base (.int j), kit_ty (by decide +kernel), rfl, ?_⟩
      refine ⟨_, rfl, true, rfl, iteT ?_⟩
      refine ⟨_, rfl, .int z, .ty "bool", .type "int", .type "bool", false, rfl, .ty _, .base (.int z), kit_ty (by decide +kernel), _, rfl, .int j, .ty "bool", .type "int", .type "bool", false, rfl, .ty _, .base (.int j), kit_ty (by decide +kernel), rfl, ?_⟩
      refine ⟨true, rfl, iteT ?_⟩
      refine ⟨_, rfl, _, rfl, rfl, ?_⟩
      rw [dec_eqI]
      exact kk
    · refine ⟨.str z, T, [.ty "list", .ty "tuple"], .type "str", [.type "list", .type "tuple"], false, rfl, hT1, .cons (.ty _) (.cons (.ty _) .nil), .base (.str z), kitF (by decide +kernel) (by decide +kernel), false, rfl, iteF ?_⟩
      refine ⟨_, rfl, .str z, .ty "dict", .type "str", .type "dict", false, rfl, .ty _, .base (.str z), kit_ty (by decide +kernel), false, rfl, iteF ?_⟩
      refine ⟨_, rfl, .str z, .ty "int", .type "str", .type "int", false, rfl, .ty _, .base (.str z), kit_ty (by decide +kernel), _, rfl, .int j, .ty "int", .type "int", .type "int", true, rfl, .ty _, .base (.int j), kit_ty (by decide +kernel), rfl, ?_⟩
      exact ⟨_, rfl, false, rfl, iteF kk⟩
    · refine ⟨.ref a, T, [.ty "list", .ty "tuple"], .type "list", [.type "list", .type "tuple"], true, rfl, hT1, .cons (.ty _) (.cons (.ty _) .nil), .base (.lst ha), kitAny_cons (kit_ty la) (fun z => nomatch z) (fun _ => rfl), true, rfl, iteT ?_⟩
      refine ⟨_, rfl, .int j, .ty "list", .type "int", .type "list", false, rfl, .ty _, .base (.int j), kit_ty (by decide +kernel), _, rfl, .ref a, .ty "list", .type "list", .type "list", true, rfl, .ty _, .base (.lst ha), kit_ty (by decide +kernel), rfl, false, rfl, iteF ?_⟩
      exact ⟨_, rfl, false, rfl, iteF kk⟩
    · refine ⟨.ref a, T, [.ty "list", .ty "tuple"], .type "tuple", [.type "list", .type "tuple"], true, rfl, hT1, .cons (.ty _) (.cons (.ty _) .nil), sqT_ty ha, kitAny_cons (kit_ty tl) (fun _ => kitAny_cons (kit_ty ta) (fun z => nomatch z) (fun _ => rfl)) (fun z => nomatch z), true, rfl, iteT ?_⟩
      refine ⟨_, rfl, .int j, .ty "list", .type "int", .type "list", false, rfl, .ty _, .base (.int j), kit_ty (by decide +kernel), _, rfl, .ref a, .ty "list", .type "tuple", .type "list", false, rfl, .ty _, sqT_ty ha, kit_ty (by decide +kernel), rfl, true, rfl, iteT ?_⟩
      refine ⟨_, rfl, .int j, .ty "tuple", .type "int", .type "tuple", false, rfl, .ty _, .base (.int j), kit_ty (by decide +kernel), _, rfl, .ref a, .ty "tuple", .type "tuple", .type "tuple", true, rfl, .ty _, sqT_ty ha, kit_ty (by decide +kernel), rfl, ?_⟩
      exact ⟨_, rfl, false, rfl, iteF kk⟩
    · have dl : kitB "dict" "list" = some false := by decide +kernel
      have dt : kitB "dict" "tuple" = some false := by decide +kernel
      refine ⟨.ref a, T, [.ty "list", .ty "tuple"], .type "dict", [.type "list", .type "tuple"], false, rfl, hT1, .cons (.ty _) (.cons (.ty _) .nil), .base (.dK ha), kitF dl dt, false, rfl, iteF ?_⟩
      refine ⟨_, rfl, .ref a, .ty "dict", .type "dict", .type "dict", true, rfl, .ty _, .base (.dK ha), kit_ty (by decide +kernel), true, rfl, iteT ?_⟩
      refine ⟨_, rfl, .int j, .ty "dict", .type "int", .type "dict", false, rfl, .ty _, .base (.int j), kit_ty (by decide +kernel), false, rfl, iteF ?_⟩
      exact ⟨_, rfl, false, rfl, iteF kk⟩
theorem ok_exT (F : FnP K "_law_exact" s_exact f fd) (Z : FreeS mg) (gE : mg "_law_exact" = some (.ref f)) (G_I : FnOk P w K mg base CX0 1 f fd ["_law_mine", "_law_theirs"] (spExI K)) : FnOk P w K mg base CX0 2 f fd ["_law_mine", "_law_theirs"] (spExT K) := by
  have bE : Binds K fd ["_law_mine", "_law_theirs"] [] := F.bindsN fun _ _ _ _ _ _ us hl => match us, hl with | [_, _], _ => rfl
  have la : kitB "list" "list" = some true := by decide +kernel
  have ta : kitB "tuple" "tuple" = some true := by decide +kernel
  have tl : kitB "tuple" "list" = some false := by decide +kernel
  refine F.ok sc_exact (fun vs H Q E h => ?_) (fun cdv A outer s H vs Q E hr h => ?_)
  · obtain ⟨x, ds, U, n, w, rfl, _⟩ := h
    rfl
  · obtain ⟨x, ds, U, n, wt, rfl, hx, hU, k⟩ := h
    have nd := sc_exact.nd
    refine ⟨_, PSs.nox (pss_cons (ps_if (pt_val (pe_callB call_isiT (by rfl) Z.isi (by decide +kernel) (pa_cons (pv 0) (pa_cons (pe_tup (pa_cons (pe_bltn (v := .ty "list") (by rfl) Z.tlist (by decide +kernel) rfl) (pa_cons (pe_bltn (v := .ty "tuple") (by rfl) Z.ttuple (by decide +kernel) rfl) (pa_nil)))) pa_nil)))) (pss_cons (ps_set (i := 2) nd rfl (Or.inl rfl) (pe_and (pe_cmpR op_eq (pe_callB call_isi (by rfl) Z.isi (by decide +kernel) (pa_cons (pv 1) (pa_cons (pe_bltn (v := .ty "list") (by rfl) Z.tlist (by decide +kernel) rfl) pa_nil))) (pe_callB call_isi (by rfl) Z.isi (by decide +kernel) (pa_cons (pv 0) (pa_cons (pe_bltn (v := .ty "list") (by rfl) Z.tlist (by decide +kernel) rfl) pa_nil))) (nomark _)) (pe_one (pe_cmpR op_eq (pe_callB call_isi (by rfl) Z.isi (by decide +kernel) (pa_cons (pv 1) (pa_cons (pe_bltn (v := .ty "tuple") (by rfl) Z.ttuple (by decide +kernel) rfl) pa_nil))) (pe_callB call_isi (by rfl) Z.isi (by decide +kernel) (pa_cons (pv 0) (pa_cons (pe_bltn (v := .ty "tuple") (by rfl) Z.ttuple (by decide +kernel) rfl) pa_nil))) (nomark _)))))
      (pss_one (ps_ret (pe_and (pv 2) (pe_and (pe_cmpR op_eq (pe_callB call_len_seq (by rfl) Z.len (by decide +kernel) (pa_cons (pv 0) (pa_nil))) (pe_callB call_len_seq (by rfl) Z.len (by decide +kernel) (pa_cons (pv 1) (pa_nil))) (nomark _)) (pe_one (pe_callB (cr_all rfl) (by rfl) Z.all (by decide +kernel) (pa_cons (pe_lc (own := [("_law_a", 3), ("_law_b", 4)]) (g := gTup K 2 (gCons (gName 3) (gCons (gName 4) (gNil)))) (tt := tYes) (te := tCall (spExI K) [] E0 (tCons (tVar 3) (tCons (tVar 4) tNil))) (by rfl) nd (pi_zipA (by rfl) Z.zip (pa_cons (pv 0) (pa_cons (pv 1) pa_nil)))
          (blkOk_by (own := [("_law_a", 3), ("_law_b", 4)]) (N := N_exact) (sc := defScope s_exact) (by decide +kernel)) (fun _ _ _ _ _ => pg_tup rfl (pgs_cons (pg_name (i := 3) nd rfl (Or.inl rfl)) (pgs_cons (pg_name (i := 4) nd rfl (Or.inl rfl)) (pgs_nil)))) (fun _ _ _ _ _ => pts_nil)
          (fun _ _ _ _ _ => pe_call G_I (hr.mono (by decide)) rfl gE F.kp bE .nil pass0 (pa_cons (pv 3) (pa_cons (pv 4) pa_nil)))) (pa_nil))))))))) (pss_nil))
      (pss_cons (ps_if (pt_val (pe_callB call_isi (by rfl) Z.isi (by decide +kernel) (pa_cons (pv 0) (pa_cons (pe_bltn (v := .ty "dict") (by rfl) Z.tdict (by decide +kernel) rfl) pa_nil)))) (pss_cons (ps_set (i := 2) nd rfl (Or.inl rfl) (pe_and (pe_callB call_isi (by rfl) Z.isi (by decide +kernel) (pa_cons (pv 1) (pa_cons (pe_bltn (v := .ty "dict") (by rfl) Z.tdict (by decide +kernel) rfl) pa_nil))) (pe_one (pe_dead))))
      (pss_one (ps_ret (pe_and (pv 2) (pe_one pe_dead))))) (pss_nil))
      (pss_cons (ps_set (i := 2) nd rfl (Or.inl rfl) (pe_cmpR op_eq (pe_callB call_isi (by rfl) Z.isi (by decide +kernel) (pa_cons (pv 0) (pa_cons (pe_bltn (v := .ty "int") (by rfl) Z.int (by decide +kernel) rfl) pa_nil))) (pe_callB call_isi (by rfl) Z.isi (by decide +kernel) (pa_cons (pv 1) (pa_cons (pe_bltn (v := .ty "int") (by rfl) Z.int (by decide +kernel) rfl) pa_nil))) (nomark _)))
      (pss_one (ps_ret (pe_and (pv 2) (pe_and (pe_cmpR op_eq (pe_callB call_isi (by rfl) Z.isi (by decide +kernel) (pa_cons (pv 0) (pa_cons (pe_bltn (v := .ty "bool") (by rfl) Z.tbool (by decide +kernel) rfl) pa_nil))) (pe_callB call_isi (by rfl) Z.isi (by decide +kernel) (pa_cons (pv 1) (pa_cons (pe_bltn (v := .ty "bool") (by rfl) Z.tbool (by decide +kernel) rfl) pa_nil))) (nomark _)) (pe_one (pe_cmpR op_eq (pv 0) (pv 1) (nomark _)))))))))), ?_⟩
    obtain ⟨a, xs, m', rfl, ha, lx, kx⟩ := td_tup hx
    refine ⟨_, rfl, (by show 2 ≤ sizeLine; decide), fun T hT => ?_⟩
    have s1 : Same H (upd H T (.tup [.ty "list", .ty "tuple"])) := Same.updf hT
    have ha := SqT_up s1 ha
    have hU := SqT_up s1 hU
    have kx := fun i u e h1 h2 => (kx i u e h1 h2).same s1
    have hT1 := upd_same (H := H) (a := T) (o := .tup [.ty "list", .ty "tuple"])
    have kk := k _ s1
    generalize upd H T (.tup [.ty "list", .ty "tuple"]) = G at *
    refine ⟨.ref a, T, [.ty "list", .ty "tuple"], .type "tuple", [.type "list", .type "tuple"], true, rfl, hT1, .cons (.ty _) (.cons (.ty _) .nil), sqT_ty ha, kitAny_cons (kit_ty tl) (fun _ => kitAny_cons (kit_ty ta) (fun z => nomatch z) (fun _ => rfl)) (fun z => nomatch z), true, rfl, iteT ?_⟩
    refine ⟨_, rfl, .ref U, .ty "list", .type "tuple", .type "list", false, rfl, .ty _, sqT_ty hU, kit_ty (by decide +kernel), _, rfl, .ref a, .ty "list", .type "tuple", .type "list", false, rfl, .ty _, sqT_ty ha, kit_ty (by decide +kernel), rfl, true, rfl, iteT ?_⟩
    refine ⟨_, rfl, .ref U, .ty "tuple", .type "tuple", .type "tuple", true, rfl, .ty _, sqT_ty hU, kit_ty (by decide +kernel), _, rfl, .ref a, .ty "tuple", .type "tuple", .type "tuple", true, rfl, .ty _, sqT_ty ha, kit_ty (by decide +kernel), rfl, ?_⟩
    refine ⟨_, rfl, true, rfl, iteT ?_⟩
    refine ⟨_, rfl, a, xs, rfl, Or.inr ha, _, rfl, U, _, rfl, Or.inr hU, rfl, ?_⟩
    by_cases l2 : ds.length = 2
    · rw [decide_eq_true (show V.int (xs.length : Int) = V.int ((wv wt).length : Int) by rw [lx, l2]; rfl)]
      obtain ⟨d0, d1, rfl⟩ : ∃ d0 d1, ds = [d0, d1] := by
        match ds, l2 with
        | [d0, d1], _ => exact ⟨d0, d1, rfl⟩
      obtain ⟨x0, x1, rfl⟩ : ∃ x0 x1, xs = [x0, x1] := by
        match xs, lx with
        | [x0, x1], _ => exact ⟨x0, x1, rfl⟩
      refine ⟨true, rfl, iteT ?_⟩
      refine ⟨_, rfl, _, rfl, a, U, _, _, rfl, Or.inr ⟨ha, hU, fun D hD => ?_⟩⟩
      have ei : ∀ i, i < 2 → ∀ x1' x2', ([x0, x1] : List V)[i]? = some x1' → (wv wt)[i]? = some x2' → ∃ e, TD K G m' x1' e ∧ x2' = .int ((([wt.1, wt.2] : List Nat).getD i 0 : Nat) : Int) ∧ e = ([d0, d1] : List PyData).getD i .none := fun i hi x1' x2' h1 h2 => by
        match i, hi, h1, h2 with
        | 0, _, h1, h2 =>
          cases h1
          cases h2
          exact ⟨d0, kx 0 _ _ rfl rfl, rfl, rfl⟩
        | 1, _, h1, h2 =>
          cases h1
          cases h2
          exact ⟨d1, kx 1 _ _ rfl rfl, rfl, rfl⟩
      refine lc_sel (n := 2) (walk_zipT (K := K) (a := a) (b := U) (xs := [x0, x1]) (ys := wv wt) rfl) (fun i => some (.bl (eqI (([d0, d1] : List PyData).getD i .none) ((([wt.1, wt.2] : List Nat).getD i 0 : Nat) : Int)))) (by decide) hD (fun H2 s2 => ⟨SqT_up s2 ha, SqT_up s2 hU⟩) ?_ ?_
      · rintro i v H2 H3 Qy Qn hi sH ⟨T2, y1, y2, rfl, nT, rfl, g1, g2⟩ ky' kn
        dsimp only at g1 g2
        obtain ⟨e, te, rfl, rfl⟩ := ei i hi y1 y2 g1 g2
        refine ⟨T2, [_, _], rfl, .inl (.inl upd_same), rfl, _, [_], rfl, _, [], rfl, rfl, ?_⟩
        have sT : Same H2 (upd H2 T2 (.tup [y1, V.int ((([wt.1, wt.2] : List Nat).getD i 0 : Nat) : Int)])) := Same.updf nT
        exact ⟨rfl, _, rfl, _, rfl, y1, _, m', _, rfl, te.same (sH.trans sT), fun H5 s5 => ky' _ _ (sT.trans s5) rfl⟩
      · intro H2 s2 hR
        have hR2 : H2 D = some (.lst ([eqI d0 (wt.1 : Int), eqI d1 (wt.2 : Int)].map V.bl)) := hR
        refine ⟨D, _, rfl, SqL.of hR2, ?_⟩
        have e : ([eqI d0 (wt.1 : Int), eqI d1 (wt.2 : Int)].all id) = isPd (.tuple [d0, d1]) wt := by
          show (eqI d0 (wt.1 : Int) && (eqI d1 (wt.2 : Int) && true)) = (eqI d0 (wt.1 : Int) && eqI d1 (wt.2 : Int))
          rw [Bool.and_true]
        rw [e]
        exact k _ (s1.trans s2)
    · rw [decide_eq_false (show ¬ V.int (xs.length : Int) = V.int ((wv wt).length : Int) from fun z => l2 (by
          have := V.int.inj z
          rw [lx] at this
          simp [wv] at this
          omega))]
      refine ⟨false, rfl, iteF ?_⟩
      rw [isPd_len l2] at kk
      exact kk
end
end K17
set_option Elab.async false
set_option linter.all false
set_option maxRecDepth 100000
set_option maxHeartbeats 8000000
/-! Any object judged by the law: waits apart. -/
namespace K17
open PySem PySem.Spec PyProof.Rows L2 KB LamX
def lstD : PyData → Bool
  | .list _ => true
  | _ => false
def tupD : PyData → Bool
  | .tuple _ => true
  | _ => false
theorem td_tyLT {K : PySem.W.Frag} {H : Hp} {n : Nat} {x : V} {d : PyData} (h : TD K H n x d) : ∃ t, TyX K H x (.type t) ∧ kitB t "list" = some (lstD d) ∧ kitB t "tuple" = some (tupD d) := by
  rcases td_cs h with ⟨rfl, rfl⟩ | ⟨b, rfl, rfl⟩ | ⟨i, rfl, rfl⟩ | ⟨z, rfl, rfl⟩ | ⟨a, xs, ds, rfl, ha, rfl, _⟩ | ⟨a, xs, ds, rfl, ha, rfl, _⟩ | ⟨a, ps, m, rfl, ha, rfl⟩
  · exact ⟨"NoneType", .base .non, by decide +kernel, by decide +kernel⟩
  · exact ⟨"bool", .base (.bl b), by show kitB _ _ = some false; decide +kernel, by show kitB _ _ = some false; decide +kernel⟩
  · exact ⟨"int", .base (.int i), by show kitB _ _ = some false; decide +kernel, by show kitB _ _ = some false; decide +kernel⟩
  · exact ⟨"str", .base (.str z), by show kitB _ _ = some false; decide +kernel, by show kitB _ _ = some false; decide +kernel⟩
  · exact ⟨"list", .base (.lst ha), by show kitB _ _ = some true; decide +kernel, by show kitB _ _ = some false; decide +kernel⟩
  · exact ⟨"tuple", sqT_ty ha, by show kitB _ _ = some false; decide +kernel, by show kitB _ _ = some true; decide +kernel⟩
  · exact ⟨"dict", .base (.dK ha), by show kitB _ _ = some false; decide +kernel, by show kitB _ _ = some false; decide +kernel⟩
theorem td_pd {K : PySem.W.Frag} {H : Hp} {x : V} {w : Nat × Nat} {m : Nat} (h : TD K H m x (pd w)) : ∃ t, x = .ref t ∧ SqT K H t (wv w) := by
  obtain ⟨t, x1, x2, d1, d2, m', rfl, hq, e3, t1, t2⟩ := td_tup2 h rfl
  have e4 := PyData.tuple.inj e3
  obtain ⟨r1, r2⟩ := List.cons.inj e4
  obtain ⟨r2, _⟩ := List.cons.inj r2
  subst r1
  subst r2
  obtain rfl := td_int t1
  obtain rfl := td_int t2
  exact ⟨t, rfl, hq⟩
def okD (es : List Ev) (ws : List (Nat × Nat)) (d : PyData) : Bool := ws.any (isPd d) && !(btwB es (toW d))
theorem okD_iff {es : List Ev} {ws : List (Nat × Nat)} (h : WaitsOk es ws) {d : PyData} : okD es ws d = true ↔ ∃ w ∈ brokenL es ws, d = pd w := by
  unfold okD
  rw [Bool.and_eq_true, List.any_eq_true, Bool.not_eq_true']
  constructor
  · rintro ⟨⟨w, hw, e⟩, n⟩
    rw [isPd_iff] at e
    subst e
    have m := ahead_mono es (Nat.le_of_lt (h.ok w hw).lt)
    have n : decide (ahead es w.1 < ahead es w.2) = false := n
    have n := of_decide_eq_false n
    exact ⟨w, List.mem_filter.mpr ⟨hw, decide_eq_true (by omega)⟩, rfl⟩
  · rintro ⟨w, hw, rfl⟩
    obtain ⟨h1, h2⟩ := List.mem_filter.mp hw
    have h2 := of_decide_eq_true h2
    refine ⟨⟨w, h1, isPd_iff.mpr rfl⟩, ?_⟩
    show decide (ahead es w.1 < ahead es w.2) = false
    exact decide_eq_false (by omega)
theorem apart_own {es : List Ev} {ws : List (Nat × Nat)} (h : WaitsOk es ws) (ds : List PyData) : apartB es ws (.list ds) = (decide (ds.length = (ends (brokenL es ws)).length) && (ds.all (okD es ws) && adjB (ds.map toW))) := by
  show (waitsB es (.list ds) && (decide (ds.length = (ends (brokenL es ws)).length) && ((ds.map toW).all (fun w => (brokenL es ws).contains w) && adjB (ds.map toW)))) = _
  rw [Bool.eq_iff_iff]
  simp only [Bool.and_eq_true]
  constructor
  · rintro ⟨h1, h2, h3, h4⟩
    refine ⟨h2, List.all_eq_true.mpr fun d hd => (okD_iff h).mpr ?_, h4⟩
    have h1 : (ds.all (waitB es) && ascB (ds.map toW)) = true := h1
    rw [Bool.and_eq_true] at h1
    obtain ⟨w, rfl, _⟩ := waitB_iff.mp (List.all_eq_true.mp h1.1 d hd)
    have := List.all_eq_true.mp h3 w (List.mem_map.mpr ⟨pd w, hd, rfl⟩)
    exact ⟨w, List.contains_iff_mem.mp this, rfl⟩
  · rintro ⟨h2, h3, h4⟩
    have hx : ∀ d ∈ ds, ∃ w ∈ brokenL es ws, d = pd w := fun d hd => (okD_iff h).mp (List.all_eq_true.mp h3 d hd)
    have hv : ∀ v ∈ ds.map toW, v ∈ brokenL es ws := fun v hv => by
      obtain ⟨d, hd, rfl⟩ := List.mem_map.mp hv
      obtain ⟨w, hw, rfl⟩ := hx d hd
      exact hw
    refine ⟨?_, h2, List.all_eq_true.mpr fun v m => List.contains_iff_mem.mpr (hv v m), h4⟩
    show (ds.all (waitB es) && ascB (ds.map toW)) = true
    rw [Bool.and_eq_true]
    refine ⟨List.all_eq_true.mpr fun d hd => ?_, List.all_eq_true.mpr fun i hi => ?_⟩
    · obtain ⟨w, hw, rfl⟩ := hx d hd
      exact waitB_pd (h.ok w (List.mem_filter.mp hw).1)
    · have hi2 := List.mem_range.mp hi
      have g := of_decide_eq_true (List.all_eq_true.mp h4 i hi)
      have e1 : (ds.map toW).getD i (0, 0) ∈ ds.map toW := by
        rw [List.getD_eq_getElem?_getD, List.getElem?_eq_getElem (by omega)]
        exact List.getElem_mem _
      have l1 := (h.ok _ (List.mem_filter.mp (hv _ e1)).1).lt
      refine decide_eq_true (.inl ?_)
      omega
def spOwnApart (K : PySem.W.Frag) : Sp := fun vs H Q _ => ∃ (a b : Addr) (x : V) (es : List Ev) (ws : List (Nat × Nat)) (d : PyData) (m : Nat), vs = [.ref a, .ref b, x, .int (((ends (brokenL es ws)).length : Nat) : Int)] ∧ RunOk K H a es ∧ WtOk K H b es ws ∧ TD K H m x d ∧ ∀ H', Same H H' → Q (.bl (apartB es ws d)) H'
section
variable {P : Program} {w : World} {K : PySem.W.Frag} {mg : Str → Option Value} {base : Heap}
abbrev s_are_own_apart : Stmt := top 48
abbrev N_are_own_apart : List Str := ["_law_run_here", "_law_waits", "_law_value", "_law_size", "_law_wait", "_law_at", "_law_late"]
theorem sc_are_own_apart : FnScope N_are_own_apart ["_law_run_here", "_law_waits", "_law_value", "_law_size"] (defScope s_are_own_apart) := ⟨rfl, rfl, rfl, by decide +kernel, rfl, by decide +kernel, by decide +kernel⟩
theorem ok_are_own_apart {f : Addr} {fd : FuncData} (F : FnP K "_law_are_own_apart" s_are_own_apart f fd) (Z : FreeS mg)
    {f_is_between : Addr} {d_is_between : FuncData} (g_is_between : mg "_law_is_between" = some (.ref f_is_between)) (F_is_between : FnP K "_law_is_between" s_is_between f_is_between d_is_between) (G_is_between : FnOk P w K mg base CX0 1 f_is_between d_is_between ["_law_run_here", "_law_wait"] (spBetween K))
    {f_exact : Addr} {d_exact : FuncData} (g_exact : mg "_law_exact" = some (.ref f_exact)) (F_exact : FnP K "_law_exact" s_exact f_exact d_exact) (G_exact : FnOk P w K mg base CX0 2 f_exact d_exact ["_law_mine", "_law_theirs"] (spExT K)) :
    FnOk P w K mg base CX0 3 f fd ["_law_run_here", "_law_waits", "_law_value", "_law_size"] (spOwnApart K) := by
  have b_is_between : Binds K d_is_between ["_law_run_here", "_law_wait"] [] := F_is_between.bindsN fun _ _ _ _ _ _ us hl => match us, hl with | [_, _], _ => rfl
  have b_exact : Binds K d_exact ["_law_mine", "_law_theirs"] [] := F_exact.bindsN fun _ _ _ _ _ _ us hl => match us, hl with | [_, _], _ => rfl
  refine F.ok sc_are_own_apart (fun vs H Q E h => ?_) (fun cdv A outer s H vs Q E hr h => ?_)
  · obtain ⟨a, b, x, es, ws, d, m, rfl, _⟩ := h
    rfl
  · obtain ⟨a, b, x, es, ws, d, m, rfl, hR, hW, hx, k⟩ := h
    have sl : (10000 : Nat) ≤ sizeLine := by decide
    have nd := sc_are_own_apart.nd
    refine ⟨_, PSs.nox (pss_cons (ps_if (PW.pt (pw_or (pt_not (pt_val (pe_callB call_isi (by rfl) Z.isi (by decide +kernel) (pa_cons (pv 2) (pa_cons (pe_bltn (v := .ty "list") (by rfl) Z.tlist (by decide +kernel) rfl) pa_nil))))) (pw_or (pt_cmpR op_ne (pe_callB call_len_seq (by rfl) Z.len (by decide +kernel) (pa_cons (pv 2) (pa_nil))) (pv 3) (nomark _)) (pw_or1 (pt_not (pt_val (pe_callB (cr_all rfl) (by rfl) Z.all (by decide +kernel) (pa_cons (pe_lc (own := [("_law_wait", 4)]) (g := gName 4) (tt := tYes) (te := tCB (rIsi K) (tCons (tVar 4) (tCons (tC (.ty "tuple")) tNil))) (by rfl) nd (pi_list (pv 2))
          (blkOk_by (own := [("_law_wait", 4)]) (N := N_are_own_apart) (sc := defScope s_are_own_apart) (by decide +kernel)) (fun _ _ _ _ _ => pg_name (i := 4) nd rfl (Or.inl rfl)) (fun _ _ _ _ _ => pts_nil)
          (fun _ _ _ _ _ => pe_callB call_isi (by rfl) Z.isi (by decide +kernel) (pa_cons (pv 4) (pa_cons (pe_bltn (v := .ty "tuple") (by rfl) Z.ttuple (by decide +kernel) rfl) pa_nil)))) (pa_nil))))))))) (pss_one (ps_ret (pe_bl))) (pss_nil))
      (pss_cons (ps_for PassesOwn.never rfl (pi_list (pv 2)) (pg_name (i := 4) nd rfl (Or.inr rfl))
        (pss_one (ps_if (PW.pt (pw_or (pt_not (pt_val (pe_callB (cr_any rfl) (by rfl) Z.any (by decide +kernel) (pa_cons (pe_lc (own := [("_law_late", 6)]) (g := gName 6) (tt := tYes) (te := tCall (spExT K) [] E0 (tCons (tVar 4) (tCons (tVar 6) (tNil)))) (by rfl) nd (pi_list (pv 1))
          (blkOk_by (own := [("_law_late", 6)]) (N := N_are_own_apart) (sc := defScope s_are_own_apart) (by decide +kernel)) (fun _ _ _ _ _ => pg_name (i := 6) nd rfl (Or.inl rfl)) (fun _ _ _ _ _ => pts_nil)
          (fun _ _ _ _ _ => pe_call G_exact (hr.mono (by decide)) rfl g_exact F_exact.kp b_exact .nil pass0 (pa_cons (pv 4) (pa_cons (pv 6) (pa_nil))))) (pa_nil))))) (pw_or1 (pt_val (pe_call G_is_between (hr.mono (by decide)) rfl g_is_between F_is_between.kp b_is_between .nil pass0 (pa_cons (pv 0) (pa_cons (pv 4) (pa_nil)))))))) (pss_one (ps_ret (pe_bl))) (pss_nil))))
      (pss_cons (ps_for PassesOwn.never rfl (pi_range2 (by rfl) Z.range (pa_cons (pe_int) (pa_cons (pe_callB call_len_seq (by rfl) Z.len (by decide +kernel) (pa_cons (pv 2) (pa_nil))) (pa_nil)))) (pg_name (i := 5) nd rfl (Or.inl rfl))
        (pss_one (ps_if (pt_cmpR op_gt (pe_ix ix_tup (pe_ix ix_list (pv 2) (pe_op op_sub (pv 5) (pe_int)) (fun _ _ => rfl)) (pe_int) (fun _ _ => rfl)) (pe_ix ix_tup (pe_ix ix_list (pv 2) (pv 5) (fun _ _ => rfl)) (pe_int) (fun _ _ => rfl)) (nomark _)) (pss_one (ps_ret (pe_bl))) (pss_nil))))
      (pss_one (ps_ret (pe_bl)))))), ?_⟩
    obtain ⟨t0, ty0, k1, _⟩ := td_tyLT hx
    refine ⟨_, rfl, x, .ty "list", .type t0, .type "list", lstD d, rfl, .ty _, ty0, kit_ty k1, lstD d, rfl, ?_⟩
    cases qd : lstD d with
    | false =>
      refine iteT (iteT ?_)
      have ea : apartB es ws d = false := by
        cases d with
        | list ds => cases qd
        | _ => rfl
      rw [ea] at k
      exact k _ (Same.refl _)
    | true =>
    obtain ⟨ds, rfl⟩ : ∃ ds, d = .list ds := by
      cases d with
      | list ds => exact ⟨ds, rfl⟩
      | _ => cases qd
    clear k1 ty0 qd
    rcases td_cs hx with ⟨rfl, q⟩ | ⟨b, rfl, q⟩ | ⟨i, rfl, q⟩ | ⟨z, rfl, q⟩ | ⟨v, xs, ds', rfl, hv, q, lx, l1, kx⟩ | ⟨v, xs, ds', rfl, ha, q, _⟩ | ⟨v, ps, mm, rfl, ha, q⟩
    · cases q
    · cases q
    · cases q
    · cases q
    rotate_left
    · cases q
    · cases q
    obtain rfl := PyData.list.inj q
    rw [apart_own hW.ok] at k
    refine iteF ?_
    refine ⟨_, rfl, v, _, rfl, .inl (SqL.of hv), _, rfl, rfl, _, rfl, ?_⟩
    rw [lx]
    by_cases cl : ds.length = (ends (brokenL es ws)).length
    case neg =>
      refine itePos (c := !decide (V.int (ds.length : Int) = V.int ((ends (brokenL es ws)).length : Int))) (by rw [decide_eq_false fun z => cl (by have := V.int.inj z; omega)]; rfl) (iteT ?_)
      rw [decide_eq_false cl] at k
      exact k _ (Same.refl _)
    refine iteNeg (c := !decide (V.int (ds.length : Int) = V.int ((ends (brokenL es ws)).length : Int))) (by rw [decide_eq_true (by rw [cl])]; exact Bool.false_ne_true) ?_
    rw [decide_eq_true cl, Bool.true_and] at k
    have at_ : ∀ (i : Nat) (hi : i < ds.length), ∃ u, xs[i]? = some u ∧ TD K H (m - 1) u (ds[i]'hi) := fun i hi => by
      have hx' : i < xs.length := by omega
      exact ⟨xs[i], List.getElem?_eq_getElem hx', kx i _ _ (List.getElem?_eq_getElem hx') (List.getElem?_eq_getElem hi)⟩
    refine ⟨_, rfl, v, rfl, ⟨_, SqL.of hv⟩, fun D hD => ?_⟩
    refine lc_sel (n := ds.length) (by have := walk_list (K := K) (a := v) (xs := xs); rw [lx] at this; exact this) (fun j => (ds[j]?).map fun d => V.bl (tupD d)) (by omega) hD (fun H2 s3 => SqL.of (s3 _ _ hv)) ?_ ?_
    · rintro j y H5 H6 Qy Qn hj s5 ⟨rfl, hy⟩ ky_ kn
      obtain ⟨u, e1, tu⟩ := at_ j hj
      rw [e1] at hy
      obtain rfl := Option.some.inj hy
      obtain ⟨t1, ty1, _, k2⟩ := td_tyLT (tu.same s5)
      exact ⟨rfl, _, rfl, _, .ty "tuple", .type t1, .type "tuple", _, rfl, .ty _, ty1, kit_ty k2, ky_ _ _ (Same.refl _) (by rw [List.getElem?_eq_getElem hj]; rfl)⟩
    · intro H2 s2 hR2
      have hB : H2 D = some (.lst ((ds.map tupD).map V.bl)) := by
        rw [hR2, fm_all (fun d => V.bl (tupD d)) ds, List.map_map]
        rfl
      refine ⟨D, _, rfl, SqL.of hB, _, rfl, ?_⟩
      rw [List.all_map]
      have e0 : ds.all (id ∘ tupD) = ds.all tupD := rfl
      rw [e0]
      cases qt : ds.all tupD with
      | false =>
        refine iteT ?_
        have ea : ds.all (okD es ws) = false := by
          rw [← Bool.not_eq_true] at qt ⊢
          refine fun z => qt (List.all_eq_true.mpr fun d hd => ?_)
          obtain ⟨w, _, rfl⟩ := (okD_iff hW.ok).mp (List.all_eq_true.mp z d hd)
          rfl
        rw [ea] at k
        exact k _ s2
      | true =>
      refine iteF ?_
      refine via_nx ?_
      refine norm (σ' := [some (.ref a), some (.ref b), some (.ref v), some (.int ((ends (brokenL es ws)).length : Int)), none, none, none]) rfl ?_
      refine ⟨_, rfl, v, rfl, ⟨_, SqL.of (s2 _ _ hv)⟩, ?_⟩
      refine for_list (xs := xs) (fun i σ G => Same H G ∧ (∀ j, j < i → ∀ e, ds[j]? = some e → okD es ws e = true) ∧ ∃ v4 v5, σ = [some (.ref a), some (.ref b), some (.ref v), some (.int ((ends (brokenL es ws)).length : Int)), v4, v5, none])
        ⟨s2, fun j h => absurd h (Nat.not_lt_zero _), none, none, rfl⟩ (fun i σ G _ hh => SqL.of (hh.1 _ _ hv)) ?_ ?_
      · rintro i y σ G hy ⟨sG, hok, v4, v5, rfl⟩
        have hi : i < ds.length := by
          have := (List.getElem?_eq_some_iff.mp hy).1
          omega
        obtain ⟨u, e1, tu⟩ := at_ i hi
        rw [e1] at hy
        obtain rfl := Option.some.inj hy
        have tp : tupD ds[i] = true := List.all_eq_true.mp qt _ (List.getElem_mem hi)
        obtain ⟨di, edi⟩ : ∃ x, x = ds[i] := ⟨_, rfl⟩
        have edj : ds[i]? = some di := by rw [List.getElem?_eq_getElem hi, edi]
        rw [← edi] at tu tp
        obtain ⟨ys, rfl⟩ : ∃ ys, di = .tuple ys := by
          cases di with
          | tuple ys => exact ⟨ys, rfl⟩
          | _ => cases tp
        have bad : okD es ws (.tuple ys) = false → ∀ G, Same H G → Q (.bl false) G := fun z G s => by
          have ea : ds.all (okD es ws) = false := by
            rw [← Bool.not_eq_true]
            intro q
            rw [List.all_eq_true.mp q _ (List.mem_of_getElem? edj)] at z
            cases z
          rw [ea] at k
          exact k _ s
        refine ⟨_, rfl, b, rfl, (by obtain ⟨tw, e, _⟩ := (hW.same sG).at_; exact ⟨_, SqL.of e⟩), fun D2 hD2 => ?_⟩
        refine ls_bools (xs := ws) (vv := wv) (isPd (.tuple ys)) (by have := hW.len; omega) (hW.same sG).at_ hD2 ?_ ?_
        · rintro w t Ga Qy Qn hm sa hw ky_
          exact ⟨rfl, _, rfl, _, rfl, u, ys, t, _, w, rfl, tu.same (sG.trans sa), hw, fun Gb sb => ky_ _ sb⟩
        · intro Gb sb hB
          refine ⟨D2, _, rfl, SqL.of hB, _, rfl, ?_⟩
          rw [List.any_map]
          have e0 : ws.any (id ∘ isPd (.tuple ys)) = ws.any (isPd (.tuple ys)) := rfl
          rw [e0]
          have sGb := sG.trans sb
          cases qa : ws.any (isPd (.tuple ys)) with
          | false => exact iteT (iteT (bad (by unfold okD; rw [qa]; rfl) _ sGb))
          | true =>
            refine iteF ?_
            obtain ⟨w, hw, ew⟩ := List.any_eq_true.mp qa
            have ew := isPd_iff.mp ew
            rw [ew] at tu
            obtain ⟨t, rfl, ht⟩ := td_pd tu
            refine ⟨_, rfl, _, rfl, a, t, es, w, rfl, hR.same sGb, SqT_up sGb ht, hW.ok.ok w hw, fun Gc sc => ⟨_, rfl, ?_⟩⟩
            have ok : okD es ws (.tuple ys) = !(btwB es w) := by
              unfold okD
              rw [qa, ew]
              rfl
            cases qb : btwB es w with
            | true => exact iteT (bad (by rw [ok, qb]; rfl) _ (sGb.trans sc))
            | false =>
              refine iteF ⟨sGb.trans sc, fun j hj e he => ?_, _, _, rfl⟩
              rcases Nat.lt_or_ge j i with q | q
              · exact hok j q e he
              · obtain rfl : j = i := by omega
                rw [edj] at he
                cases he
                rw [ok, qb]
                rfl
      · rintro σ G ⟨sG, hok, v4, v5, rfl⟩
        have aok : ds.all (okD es ws) = true := List.all_eq_true.mpr fun d hd => by
          obtain ⟨i, hi, rfl⟩ := List.getElem_of_mem hd
          exact hok i (by omega) _ (List.getElem?_eq_getElem hi)
        rw [aok, Bool.true_and] at k
        have atw : ∀ (i : Nat) (hi : i < ds.length), ∃ t, xs[i]? = some (.ref t) ∧ SqT K H t (wv ((ds.map toW).getD i (0, 0))) := fun i hi => by
          obtain ⟨u, e1, tu⟩ := at_ i hi
          obtain ⟨w, _, e⟩ := (okD_iff hW.ok).mp (List.all_eq_true.mp aok _ (List.getElem_mem hi))
          rw [e] at tu
          obtain ⟨t, rfl, ht⟩ := td_pd tu
          refine ⟨t, e1, ?_⟩
          rw [List.getD_eq_getElem?_getD, List.getElem?_map, List.getElem?_eq_getElem hi, e]
          exact ht
        have lm : (ds.map toW).length = ds.length := List.length_map _
        refine via_nx ?_
        refine ⟨_, rfl, v, _, rfl, .inl (SqL.of (sG _ _ hv)), 1, (xs.length : Int), rfl, ⟨by omega, by omega, by omega, by omega⟩, ?_⟩
        rw [show ((xs.length : Int) - 1).toNat = ds.length - 1 by omega]
        refine for_range (lo := 1) (n := ds.length - 1) (fun i σ G => Same H G ∧ (∀ j, j < i → ((ds.map toW).getD j (0, 0)).2 ≤ ((ds.map toW).getD (1 + j) (0, 0)).1) ∧ ∃ v4 v5, σ = [some (.ref a), some (.ref b), some (.ref v), some (.int ((ends (brokenL es ws)).length : Int)), v4, v5, none])
          ⟨sG, fun j h => absurd h (Nat.not_lt_zero _), v4, v5, rfl⟩ ?_ ?_
        · rintro i σ G hi ⟨sG, hok2, v4, v5, rfl⟩
          obtain ⟨t1, f1, g1⟩ := atw i (by omega)
          obtain ⟨t2, f2, g2⟩ := atw (1 + i) (by omega)
          have hvG := sG _ _ hv
          refine ⟨_, rfl, _, rfl, _, _, rfl, rfl, v, _, _, _, rfl, rfl, SqL.of hvG, (by rw [show ((1 : Int) + ((i : Nat) : Int)) - 1 = ((i : Nat) : Int) by omega]; exact atI_nat f1), t1, _, 1, _, rfl, rfl, SqT_up sG g1, atI_nat (j := 1) rfl, _, rfl, _, rfl, v, _, _, _, rfl, rfl, SqL.of hvG, (by have := atI_nat f2; rw [Int.natCast_add] at this; exact this), t2, _, 0, _, rfl, rfl, SqT_up sG g2, atI_nat (j := 0) rfl, _, _, rfl, rfl, _, rfl, ?_⟩
          by_cases c : ((ds.map toW).getD i (0, 0)).2 ≤ ((ds.map toW).getD (1 + i) (0, 0)).1
          · refine iteQ (by omega) ⟨sG, fun j hj => ?_, _, _, rfl⟩
            rcases Nat.lt_or_ge j i with q | q
            · exact hok2 j q
            · obtain rfl : j = i := by omega
              exact c
          · refine iteP (by omega) ?_
            have ea : adjB (ds.map toW) = false := by
              rw [← Bool.not_eq_true]
              intro z
              exact c (of_decide_eq_true (List.all_eq_true.mp z i (List.mem_range.mpr (by omega))))
            rw [ea] at k
            exact k _ sG
        · rintro σ G ⟨sG, hok2, v4, v5, rfl⟩
          have ea : adjB (ds.map toW) = true := List.all_eq_true.mpr fun i hi => decide_eq_true (hok2 i (by have := List.mem_range.mp hi; omega))
          rw [ea] at k
          exact k _ sG
end
end K17
set_option Elab.async false
set_option linter.all false
set_option maxRecDepth 100000
set_option maxHeartbeats 8000000
/-! What serves the law's own judge: pairs sorted, odd values, waits apart. -/
namespace K17
open PySem PySem.Spec PyProof.Rows L2 KB LamX
open Classical in
noncomputable def encW (K : PySem.W.Frag) (H : Hp) (y : V) : Nat × Nat := if h : ∃ (w : Nat × Nat) (t : Addr), y = .ref t ∧ SqT K H t (wv w) then Classical.choose h else (0, 0)
theorem encW_at {K : PySem.W.Frag} {H : Hp} {y : V} (h : ∃ (w : Nat × Nat) (t : Addr), y = .ref t ∧ SqT K H t (wv w)) : ∃ t, y = .ref t ∧ SqT K H t (wv (encW K H y)) := by
  unfold encW
  rw [dif_pos h]
  exact Classical.choose_spec h
def PrAt (K : PySem.W.Frag) (H : Hp) (y : V) : Prop := ∃ (w : Nat × Nat) (t : Addr), y = .ref t ∧ SqT K H t (wv w)
theorem PrAt.same {K : PySem.W.Frag} {H H' : Hp} {y : V} (k : Same H H') : PrAt K H y → PrAt K H' y := fun ⟨w, t, e, h⟩ => ⟨w, t, e, SqT_up k h⟩
def rSortW (K : PySem.W.Frag) : List V → Hp → VK → Prop := fun vs H Q => ∃ (a : Addr) (xs : List V), vs = [.ref a] ∧ SqL K H a xs ∧ (∀ x ∈ xs, PrAt K H x) ∧
  ∀ p ys, H p = none → ys.Perm xs → Q (.ref p) (upd H p (.lst ys))
theorem cr_sortedW {X : Cx} (hu : X.A.units + 64 < cLine) : CallR X (.builtin "sorted") (rSortW X.K) := by
  intro pins s σ H vs us Q I r h
  obtain ⟨a, xs, rfl, hs, hx, q⟩ := h
  refine cr_sortedD hu pins s σ H _ us Q I r ⟨a, xs, fun y => pd (encW X.K H y), rfl, hs, fun x mx => ?_, fun d hd d' hd' => ?_, .inl fun d hd => ?_, fun x mx => ?_, fun p hp => ?_⟩
  · obtain ⟨t, rfl, h⟩ := encW_at (hx x mx)
    exact pd_dp h
  · obtain ⟨x, mx, rfl⟩ := List.mem_map.mp hd
    obtain ⟨y, my, rfl⟩ := List.mem_map.mp hd'
    show PySem.W.alike (.tuple _) (.tuple _) = true
    simp [PySem.W.alike, PySem.W.alikeAll]
  · obtain ⟨x, mx, rfl⟩ := List.mem_map.mp hd
    exact ⟨_, _, rfl⟩
  · simp [pd, PyData.depth, PyData.depthAll]
  · exact q p _ hp (List.mergeSort_perm _ _)
/-- a value of the law -/
def ValV (K : PySem.W.Frag) (H : Hp) (y : V) : Prop := ∃ d, TD K H 5 y d
theorem ValV.same {K : PySem.W.Frag} {H H' : Hp} {y : V} (k : Same H H') : ValV K H y → ValV K H' y := fun ⟨d, h⟩ => ⟨d, h.same k⟩
theorem ValV.ext {K : PySem.W.Frag} {H H' : Hp} {y : V} (k : ExtN H H') : ValV K H y → ValV K H' y := fun ⟨d, h⟩ => ⟨d, TD.ext k h⟩
theorem td_up {K : PySem.W.Frag} {H : Hp} {n m : Nat} {x : V} {d : PyData} (h : TD K H n x d) (l : n ≤ m) : TD K H m x d := by
  obtain ⟨k, rfl⟩ : ∃ k, m = n + k := ⟨m - n, by omega⟩
  induction k with
  | zero => exact h
  | succ k ih => exact (ih (by omega)).up
/-- a list of things with data -/
theorem ValV.lst {K : PySem.W.Frag} {H : Hp} {a : Addr} {xs : List V} (n : Nat) (hn : n < 5) (h : H a = some (.lst xs)) (l : xs.length ≤ 1000) (k : ∀ x ∈ xs, ∃ d, TD K H n x d) : ValV K H (.ref a) := by
  have : ∃ ds : List PyData, xs.length = ds.length ∧ ∀ (i : Nat) (u : V) (e : PyData), xs[i]? = some u → ds[i]? = some e → TD K H n u e := by
    clear h l
    induction xs with
    | nil => exact ⟨[], rfl, td_nil⟩
    | cons x r ih =>
      obtain ⟨ds, l, c⟩ := ih fun y m => k y (List.mem_cons_of_mem _ m)
      obtain ⟨d, hd⟩ := k x List.mem_cons_self
      exact ⟨d :: ds, by rw [List.length_cons, List.length_cons, l], td_cons hd c⟩
  obtain ⟨ds, e, c⟩ := this
  exact ⟨_, td_up (TD.lst h e (by omega) c) (by omega)⟩
theorem ValV.tup {K : PySem.W.Frag} {H : Hp} {a : Addr} {xs : List V} (n : Nat) (hn : n < 5) (h : SqT K H a xs) (l : xs.length ≤ 1000) (k : ∀ x ∈ xs, ∃ d, TD K H n x d) : ValV K H (.ref a) := by
  have : ∃ ds : List PyData, xs.length = ds.length ∧ ∀ (i : Nat) (u : V) (e : PyData), xs[i]? = some u → ds[i]? = some e → TD K H n u e := by
    clear h l
    induction xs with
    | nil => exact ⟨[], rfl, td_nil⟩
    | cons x r ih =>
      obtain ⟨ds, l, c⟩ := ih fun y m => k y (List.mem_cons_of_mem _ m)
      obtain ⟨d, hd⟩ := k x List.mem_cons_self
      exact ⟨d :: ds, by rw [List.length_cons, List.length_cons, l], td_cons hd c⟩
  obtain ⟨ds, e, c⟩ := this
  exact ⟨_, td_up (TD.tup h e (by omega) c) (by omega)⟩
theorem PrAt.td {K : PySem.W.Frag} {H : Hp} {y : V} (h : PrAt K H y) (n : Nat) : ∃ d, TD K H (n + 1) y d := by
  obtain ⟨w, t, rfl, h⟩ := h
  exact ⟨_, pd_td n h⟩
/-- a list of pairs, in any order -/
theorem ValV.prs {K : PySem.W.Frag} {H : Hp} {a : Addr} {xs : List V} (h : H a = some (.lst xs)) (l : xs.length ≤ 1000) (k : ∀ x ∈ xs, PrAt K H x) : ValV K H (.ref a) := ValV.lst 1 (by decide) h l fun x m => (k x m).td 0
theorem WtAt.prs {K : PySem.W.Frag} {H : Hp} {a : Addr} {ws : List (Nat × Nat)} (h : WtAt K H a ws) : ∃ xs, H a = some (.lst xs) ∧ xs.length = ws.length ∧ ∀ x ∈ xs, PrAt K H x := by
  obtain ⟨ts, e, l, c⟩ := h
  refine ⟨_, e, by rw [List.length_map, l], fun x m => ?_⟩
  obtain ⟨t, mt, rfl⟩ := List.mem_map.mp m
  obtain ⟨i, hi, rfl⟩ := List.getElem_of_mem mt
  exact ⟨ws[i]'(by omega), _, rfl, c i _ _ (List.getElem?_eq_getElem hi) (List.getElem?_eq_getElem (by omega))⟩
/-- a list of values -/
def ValsAt (K : PySem.W.Frag) (pu : Addr) (H : Hp) (q : Addr) (n : Nat) : Prop := q ≠ pu ∧ ∃ xs, H q = some (.lst xs) ∧ xs.length ≤ n ∧ ∀ x ∈ xs, ValV K (off H pu) x
theorem ValsAt.but {K : PySem.W.Frag} {pu : Addr} {H H' : Hp} {q : Addr} {n : Nat} (b : But pu H H') : ValsAt K pu H q n → ValsAt K pu H' q n := fun ⟨n0, xs, e, l, k⟩ => ⟨n0, xs, b _ _ n0 e, l, fun x m => (k x m).same (but_off b)⟩
theorem ValsAt.cat {K : PySem.W.Frag} {pu : Addr} {H : Hp} {q p : Addr} {n : Nat} {xs ys : List V} (hp : p ≠ pu) (e : H q = some (.lst xs)) (l : xs.length + ys.length ≤ n) (k : ∀ x ∈ xs, ValV K (off H pu) x) (k2 : ∀ y ∈ ys, ValV K (off H pu) y) (hn : H p = none) : ValsAt K pu (upd H p (.lst (xs ++ ys))) p n := by
  have s := Same.updf (o := .lst (xs ++ ys)) hn
  refine ⟨hp, _, upd_same, by rw [List.length_append]; exact l, fun x m => ?_⟩
  rcases List.mem_append.mp m with m | m
  · exact (k x m).same (off_same pu s)
  · exact (k2 x m).same (off_same pu s)
theorem apart_good {es : List Ev} {ws : List (Nat × Nat)} (h : WaitsOk es ws) : apartB es ws (.list ((apart (brokenL es ws)).map pd)) = true := by
  have hl := broken_lt h
  have mv : ((apart (brokenL es ws)).map pd).map toW = apart (brokenL es ws) := by
    rw [List.map_map]
    exact (List.map_congr_left fun _ _ => rfl).trans (List.map_id _)
  rw [apart_own h, mv, Bool.and_eq_true, Bool.and_eq_true]
  refine ⟨decide_eq_true (by unfold ends; rw [List.length_map, List.length_map]), List.all_eq_true.mpr fun d hd => ?_, ?_⟩
  · obtain ⟨w, hw, rfl⟩ := List.mem_map.mp hd
    exact (okD_iff h).mpr ⟨w, apart_mem hl hw, rfl⟩
  · have ch := apart_chain hl
    have key : ∀ (G : List (Nat × Nat)) (z : Nat), Chain z G → adjB G = true := fun G => by
      induction G with
      | nil => exact fun z _ => rfl
      | cons g r ih =>
        intro z c
        obtain ⟨c1, c2, c3⟩ : z ≤ g.1 ∧ g.1 < g.2 ∧ Chain g.2 r := c
        refine List.all_eq_true.mpr fun i hi => decide_eq_true ?_
        have hi := List.mem_range.mp hi
        rw [List.length_cons] at hi
        match i with
        | 0 =>
          cases r with
          | nil => simp at hi
          | cons g2 r2 =>
            obtain ⟨d1, _⟩ : g.2 ≤ g2.1 ∧ _ := c3
            exact d1
        | i + 1 =>
          have := List.all_eq_true.mp (ih g.2 c3) i (List.mem_range.mpr (by omega))
          have := of_decide_eq_true this
          rw [show 1 + (i + 1) = (1 + i) + 1 by omega]
          exact this
    exact key _ 0 ch
/-- those lists that the test takes, themselves -/
theorem lls_sel {K : PySem.W.Frag} {PS : List (List Nat)} {ys : List V} {a : Addr} {g : TG} {tt : TT} {te : TE} {vs : List Nat} {σ : L2.St} {H1 : Hp} {D : Addr} {Qd : Hp → Prop} (c : List Nat → Bool) (hn : PS.length ≤ 100000) (ha : H1 a = some (.lst ys)) (py : Paired (LsAt H1) PS ys) (hD : H1 D = none)
    (hs : ∀ x t H (Qy : V → Hp → Prop) (Qn : Hp → Prop), x ∈ PS → Same H1 H → H t = some (.lst (numsV x)) → (∀ H4, Same H H4 → c x = true → Qy (.ref t) H4) → (∀ H4, Same H H4 → c x = false → Qn H4) →
      g (.ref t) (wipe σ vs) H fun σ2 H2 => wipe σ2 vs = wipe σ vs ∧ tt σ2 H2 fun b H3 => if b = true then te σ2 H3 Qy else Qn H3)
    (hd : ∀ H zs, Same H1 H → H D = some (.lst zs) → Paired (LsAt H) (PS.filter c) zs → (∀ z ∈ zs, z ∈ ys) → Qd H) :
    ∃ W : Nat → Nat → Hp → Prop, (∃ m, W 0 m (upd H1 D (.lst []))) ∧ ∀ i m H, W i m H →
      ((Itl K a).stop i H ∧ Qd H) ∨ ((Itl K a).go i H ∧ ∃ Nx : Hp → Prop, (∀ H', Nx H' → ∃ m', m' < m ∧ W (i + 1) m' H') ∧ ∀ x H', (Itl K a).yld i H x H' → g x (wipe σ vs) H' fun σ2 H2 => wipe σ2 vs = wipe σ vs ∧ tt σ2 H2 fun b H3 =>
        if b = true then te σ2 H3 fun y H4 => ∃ acc, H4 D = some (.lst acc) ∧ acc.length < sizeLine ∧ Nx (upd H4 D (.lst (acc ++ [y]))) else Nx H3) := by
  have ly := paired_len py
  refine lc_rel (n := PS.length) (by have := walk_list (K := K) (a := a) (xs := ys); rw [← ly] at this; exact this) (fun i => ((PS[i]?).map c).getD false) (fun i y G => (∃ x, ((PS[i]?).map id) = some x ∧ LsAt G x y) ∧ y ∈ ys) (fun i y G G' s ⟨⟨x, e, h⟩, n⟩ => ⟨⟨x, e, h.same s⟩, n⟩) hn hD (fun H2 s3 => SqL.of (s3 _ _ ha)) ?_ ?_
  · rintro j v H5 H6 Qy Qn hj s5 hacc ⟨rfl, hy⟩ ky_ kn
    obtain ⟨x, e1, t, rfl, e2⟩ := paired_get2 py hy
    rw [e1] at ky_ kn
    refine hs x t _ Qy Qn (List.mem_of_getElem? e1) s5 (s5 _ _ e2) (fun H4 s4 cx => ky_ _ H4 cx s4 ⟨⟨x, rfl, t, rfl, ?_⟩, List.mem_of_getElem? hy⟩) fun H4 s4 cx => kn H4 cx s4
    rw [off_at (ne_of_none e2 hD)]
    exact s4 _ _ (s5 _ _ e2)
  · intro H2 zs s2 hzs pz
    obtain ⟨pz, mz⟩ := paired_snd pz
    refine hd H2 zs s2 hzs ?_ mz
    have h := paired_fm pz
    rw [fm_get id c PS, List.map_id] at h
    exact paired_mono (fun x y h => h.same (off_le _ _)) h
/-- a number of each list -/
theorem lls_ints {K : PySem.W.Frag} {PS : List (List Nat)} {ys : List V} {a : Addr} {g : TG} {tt : TT} {te : TE} {vs : List Nat} {σ : L2.St} {H1 : Hp} {D : Addr} {Qd : Hp → Prop} (f : List Nat → Int) (hn : PS.length ≤ 100000) (ha : H1 a = some (.lst ys)) (py : Paired (LsAt H1) PS ys) (hD : H1 D = none)
    (hs : ∀ x t H (Qy : V → Hp → Prop) (Qn : Hp → Prop), x ∈ PS → Same H1 H → H t = some (.lst (numsV x)) → (∀ H4, Same H H4 → Qy (.int (f x)) H4) →
      g (.ref t) (wipe σ vs) H fun σ2 H2 => wipe σ2 vs = wipe σ vs ∧ tt σ2 H2 fun b H3 => if b = true then te σ2 H3 Qy else Qn H3)
    (hd : ∀ H, Same H1 H → H D = some (.lst ((PS.map f).map V.int)) → Qd H) :
    ∃ W : Nat → Nat → Hp → Prop, (∃ m, W 0 m (upd H1 D (.lst []))) ∧ ∀ i m H, W i m H →
      ((Itl K a).stop i H ∧ Qd H) ∨ ((Itl K a).go i H ∧ ∃ Nx : Hp → Prop, (∀ H', Nx H' → ∃ m', m' < m ∧ W (i + 1) m' H') ∧ ∀ x H', (Itl K a).yld i H x H' → g x (wipe σ vs) H' fun σ2 H2 => wipe σ2 vs = wipe σ vs ∧ tt σ2 H2 fun b H3 =>
        if b = true then te σ2 H3 fun y H4 => ∃ acc, H4 D = some (.lst acc) ∧ acc.length < sizeLine ∧ Nx (upd H4 D (.lst (acc ++ [y]))) else Nx H3) := by
  have ly := paired_len py
  refine lc_sel (n := PS.length) (by have := walk_list (K := K) (a := a) (xs := ys); rw [← ly] at this; exact this) (fun j => (PS[j]?).map fun x => V.int (f x)) hn hD (fun H2 s3 => SqL.of (s3 _ _ ha)) ?_ ?_
  · rintro j v H5 H6 Qy Qn hj s5 ⟨rfl, hy⟩ ky_ kn
    obtain ⟨x, e1, t, rfl, e2⟩ := paired_get2 py hy
    exact hs x t _ Qy Qn (List.mem_of_getElem? e1) s5 (s5 _ _ e2) fun H4 s4 => ky_ _ _ s4 (by rw [e1]; rfl)
  · intro H2 s2 hR
    refine hd H2 s2 ?_
    rw [hR, fm_all (fun x => V.int (f x)) PS, List.map_map]
    rfl
theorem offT {K : PySem.W.Frag} {H : Hp} {pu t : Addr} {xs : List V} (p : ∃ ys, H pu = some (.lst ys)) (h : SqT K H t xs) : SqT K (off H pu) t xs := by
  rcases h with (h | ⟨o, h⟩) | h
  · exact .inl (.inl (by rw [off_at (fun z => by obtain ⟨ys, e⟩ := p; rw [z, e] at h; cases h)]; exact h))
  · exact .inl (.inr ⟨o, by rw [off_at (fun z => by obtain ⟨ys, e⟩ := p; rw [z, e] at h; cases h)]; exact h⟩)
  · exact .inr h
theorem cutV_mem {xs : List V} {lo hi : Option Int} {x : V} (h : x ∈ cutV xs lo hi) : x ∈ xs := by
  unfold cutV at h
  exact List.mem_of_mem_drop (List.mem_of_mem_take h)
theorem nums2_td {K : PySem.W.Frag} {H : Hp} {c : Addr} {w : Nat × Nat} (h : H c = some (.lst (wv w))) (n : Nat) : ∃ d, TD K H (n + 1) (.ref c) d := ⟨.list [.int (w.1 : Int), .int (w.2 : Int)], TD.lst h rfl (Nat.le_of_ble_eq_true rfl) (td_cons (TD.flat (.int _)) (td_cons (TD.flat (.int _)) td_nil))⟩
theorem flat_td {K : PySem.W.Frag} {H : Hp} {x : V} {e : PyData} (h : FlatD x e) (n : Nat) : ∃ d, TD K H n x d := ⟨e, TD.flat h⟩
theorem rep_mem {k : Nat} {x y : V} (h : y ∈ (List.replicate k [x]).flatten) : y = x := by
  obtain ⟨l, h1, h2⟩ := List.mem_flatten.mp h
  rw [List.eq_of_mem_replicate h1] at h2
  exact List.mem_singleton.mp h2
theorem rep_len {k : Nat} {x : V} : (List.replicate k [x]).flatten.length = k := by
  rw [rep_flat, List.length_map, List.length_range]
theorem off_off2 {pu D : Addr} {H H' : Hp} (b : But pu H H') (n : H D = none) : Same (off H pu) (off2 H' D pu) := fun c o e => by
  obtain ⟨c1, c2⟩ := off_some e
  exact off2_at (ne_of_none c2 n) c1 (b _ _ c1 c2)
def PlV (pu : Addr) (n : Nat) (H : Hp) (y : V) : Prop := ∃ T P, y = .ref T ∧ T ≠ pu ∧ H T = some (.lst (numsV P)) ∧ PlOk n P
theorem PlV.same {pu : Addr} {n : Nat} {H H' : Hp} {y : V} (k : Same H H') : PlV pu n H y → PlV pu n H' y := fun ⟨T, P, e, n, h, o⟩ => ⟨T, P, e, n, k _ _ h, o⟩
theorem PlV.but {pu : Addr} {n : Nat} {H H' : Hp} {y : V} (k : But pu H H') : PlV pu n H y → PlV pu n H' y := fun ⟨T, P, e, n, h, o⟩ => ⟨T, P, e, n, k _ _ n h, o⟩
theorem PlV.ext {pu : Addr} {n : Nat} {H H' : Hp} {y : V} (k : ExtN H H') : PlV pu n H y → PlV pu n H' y := fun ⟨T, P, e, n, h, o⟩ => ⟨T, P, e, n, k _ _ h (fun ps z => by cases z), o⟩
theorem numsV_perm {L' : List V} {P0 : List Nat} (h : L'.Perm (numsV P0)) : ∃ l : List Nat, L' = numsV l ∧ l.Perm P0 := by
  have g : ∀ l : List Nat, (numsV l).map (fun v => match v with | .int i => i.toNat | _ => 0) = l := fun l => by
    unfold numsV
    rw [List.map_map]
    exact (List.map_congr_left fun x _ => by show ((x : Int)).toNat = x; rw [Int.toNat_natCast]).trans (List.map_id l)
  refine ⟨L'.map (fun v => match v with | .int i => i.toNat | _ => 0), ?_, ?_⟩
  · unfold numsV
    rw [List.map_map]
    refine (List.map_id L').symm.trans (List.map_congr_left fun x hx => ?_)
    have := h.mem_iff.mp hx
    unfold numsV at this
    obtain ⟨n, _, rfl⟩ := List.mem_map.mp this
    rfl
  · have := h.map (fun v => match v with | .int i => i.toNat | _ => 0)
    rw [g] at this
    exact this
theorem range_plok {n i : Nat} (h : i ≤ n) : PlOk n (List.range i) := ⟨List.pairwise_lt_range, fun p hp => by have := List.mem_range.mp hp; omega⟩
theorem purse_ext {H H' : Hp} {pu : Addr} {N : Nat} (e : ExtN H H') (h : Purse H pu N) : Purse H' pu N := by
  obtain ⟨A0, B0, c0, i0, eP, rr⟩ := h.at_
  exact ⟨A0, B0, c0, i0, e _ _ eP (fun ps z => by cases z), rr⟩
end K17
set_option Elab.async false
set_option linter.all false
set_option maxRecDepth 100000
set_option maxHeartbeats 8000000
/-! What the law asks of a run and its waits. -/
namespace K17
open PySem PySem.Spec PyProof.Rows L2 KB LamX
def spListsR (K : PySem.W.Frag) : Sp := fun vs H Q _ => ∃ (pu a b : Addr) (es : List Ev) (ws : List (Nat × Nat)) (N : Nat), vs = [.ref pu, .ref a, .ref b] ∧ Purse H pu N ∧ N ≤ 2 ^ 37 ∧ a ≠ pu ∧ b ≠ pu ∧ RunOk K (off H pu) a es ∧ es.length ≤ 9 ∧ WtOk K (off H pu) b es ws ∧ Tabs (TbK K) H ∧ ∀ H', ButN pu H H' → Purse H' pu (N + 20000) → Tabs (TbK K) H' → Q (.bl true) H'
section
variable {P : Program} {w : World} {K : PySem.W.Frag} {mg : Str → Option Value} {base : Heap}
abbrev s_lists_right : Stmt := top 49
abbrev N_lists_right : List Str := ["_law_purse_here", "_law_run_here", "_law_waits", "_law_size", "_law_some", "_law_every", "_law_greatest", "_law_handed", "_law_told", "_law_values", "_law_late", "_law_pairs", "_law_value", "_law_kept", "_law_line", "_law_place", "_law_places", "_law_at", "_law_wait", "_law_turn", "_law_early", "_law_pair"]
theorem sc_lists_right : FnScope N_lists_right ["_law_purse_here", "_law_run_here", "_law_waits"] (defScope s_lists_right) := ⟨rfl, rfl, rfl, by decide +kernel, rfl, by decide +kernel, by decide +kernel⟩
theorem ok_lists_right {f : Addr} {fd : FuncData} (F : FnP K "_law_lists_right" s_lists_right f fd) (Z : FreeS mg)
    {f_fewest : Addr} {d_fewest : FuncData} (g_fewest : mg "_law_fewest" = some (.ref f_fewest)) (F_fewest : FnP K "_law_fewest" s_fewest f_fewest d_fewest) (G_fewest : FnOk P w K mg base CX0 3 f_fewest d_fewest ["_law_run_here", "_law_waits"] (spFewest K))
    {f_pairs_of : Addr} {d_pairs_of : FuncData} (g_pairs_of : mg "_law_pairs_of" = some (.ref f_pairs_of)) (F_pairs_of : FnP K "_law_pairs_of" s_pairs_of f_pairs_of d_pairs_of) (G_pairs_of : FnOk P w K mg base CX0 1 f_pairs_of d_pairs_of ["_law_run_here"] (spPairs K))
    {f_barriers_for : Addr} {d_barriers_for : FuncData} (g_barriers_for : mg "barriers_for" = some (.ref f_barriers_for)) (F_barriers_for : FnP K "barriers_for" s_barriers_for f_barriers_for d_barriers_for) (G_barriers_for : FnOk P w K mg base CX0 7 f_barriers_for d_barriers_for ["run", "waits"] (spFor K))
    {f_many_least : Addr} {d_many_least : FuncData} (g_many_least : mg "many_least" = some (.ref f_many_least)) (F_many_least : FnP K "many_least" s_many_least f_many_least d_many_least) (G_many_least : FnOk P w K mg base CX0 7 f_many_least d_many_least ["run", "waits"] (spManyL K))
    {f_apart_waits : Addr} {d_apart_waits : FuncData} (g_apart_waits : mg "apart_waits" = some (.ref f_apart_waits)) (F_apart_waits : FnP K "apart_waits" s_apart_waits f_apart_waits d_apart_waits) (G_apart_waits : FnOk P w K mg base CX0 7 f_apart_waits d_apart_waits ["run", "waits"] (spApartW K))
    {f_shuffled : Addr} {d_shuffled : FuncData} (g_shuffled : mg "_law_shuffled" = some (.ref f_shuffled)) (F_shuffled : FnP K "_law_shuffled" s_shuffled f_shuffled d_shuffled) (G_shuffled : FnOk P w K mg base CX0 3 f_shuffled d_shuffled ["_law_purse_here", "_law_some"] (spShuffled K))
    {f_same : Addr} {d_same : FuncData} (g_same : mg "_law_same" = some (.ref f_same)) (F_same : FnP K "_law_same" s_same f_same d_same) (GA_same : ∀ n : Nat, FnOk P w K mg base CX0 (n + 1) f_same d_same ["_law_thing"] (spSame K n))
    {f_exact : Addr} {d_exact : FuncData} (g_exact : mg "_law_exact" = some (.ref f_exact)) (F_exact : FnP K "_law_exact" s_exact f_exact d_exact) (GA_exact : ∀ n : Nat, FnOk P w K mg base CX0 (n + 1) f_exact d_exact ["_law_mine", "_law_theirs"] (spExactD K n))
    {f_are_own_apart : Addr} {d_are_own_apart : FuncData} (g_are_own_apart : mg "_law_are_own_apart" = some (.ref f_are_own_apart)) (F_are_own_apart : FnP K "_law_are_own_apart" s_are_own_apart f_are_own_apart d_are_own_apart) (G_are_own_apart : FnOk P w K mg base CX0 3 f_are_own_apart d_are_own_apart ["_law_run_here", "_law_waits", "_law_value", "_law_size"] (spOwnApart K))
    {f_place_lists : Addr} {d_place_lists : FuncData} (g_place_lists : mg "_law_place_lists" = some (.ref f_place_lists)) (F_place_lists : FnP K "_law_place_lists" s_place_lists f_place_lists d_place_lists) (G_place_lists : FnOk P w K mg base CX0 1 f_place_lists d_place_lists ["_law_many", "_law_size"] (spPlaceL K))
    {f_enough : Addr} {d_enough : FuncData} (g_enough : mg "_law_enough" = some (.ref f_enough)) (F_enough : FnP K "_law_enough" s_enough f_enough d_enough) (G_enough : FnOk P w K mg base CX0 2 f_enough d_enough ["_law_run_here", "_law_waits", "_law_places"] (spEnough K))
    {f_is_enough : Addr} {d_is_enough : FuncData} (g_is_enough : mg "is_enough" = some (.ref f_is_enough)) (F_is_enough : FnP K "is_enough" s_is_enough f_is_enough d_is_enough) (G_is_enough : FnOk P w K mg base CX0 7 f_is_enough d_is_enough ["run", "waits", "places"] (spIsEnough K))
    {f_are_apart : Addr} {d_are_apart : FuncData} (g_are_apart : mg "are_apart" = some (.ref f_are_apart)) (F_are_apart : FnP K "are_apart" s_are_apart f_are_apart d_are_apart) (G_are_apart : FnOk P w K mg base CX0 8 f_are_apart d_are_apart ["run", "waits", "value"] (spAreApart K))
    {f_draw : Addr} {d_draw : FuncData} (g_draw : mg "_law_draw" = some (.ref f_draw)) (F_draw : FnP K "_law_draw" s_draw f_draw d_draw) (G_draw : FnOk P w K mg base CX0 2 f_draw d_draw ["_law_purse_here", "_law_many"] spDraw) :
    FnOk P w K mg base CX0 11 f fd ["_law_purse_here", "_law_run_here", "_law_waits"] (spListsR K) := by
  have b_fewest : Binds K d_fewest ["_law_run_here", "_law_waits"] [] := F_fewest.bindsN fun _ _ _ _ _ _ us hl => match us, hl with | [_, _], _ => rfl
  have b_pairs_of : Binds K d_pairs_of ["_law_run_here"] [] := F_pairs_of.bindsN fun _ _ _ _ _ _ us hl => match us, hl with | [_], _ => rfl
  have b_barriers_for : Binds K d_barriers_for ["run", "waits"] [] := F_barriers_for.bindsN fun _ _ _ _ _ _ us hl => match us, hl with | [_, _], _ => rfl
  have b_many_least : Binds K d_many_least ["run", "waits"] [] := F_many_least.bindsN fun _ _ _ _ _ _ us hl => match us, hl with | [_, _], _ => rfl
  have b_apart_waits : Binds K d_apart_waits ["run", "waits"] [] := F_apart_waits.bindsN fun _ _ _ _ _ _ us hl => match us, hl with | [_, _], _ => rfl
  have b_shuffled : Binds K d_shuffled ["_law_purse_here", "_law_some"] [] := F_shuffled.bindsN fun _ _ _ _ _ _ us hl => match us, hl with | [_, _], _ => rfl
  have b_same : Binds K d_same ["_law_thing"] [] := F_same.bindsN fun _ _ _ _ _ _ us hl => match us, hl with | [_], _ => rfl
  have b_exact : Binds K d_exact ["_law_mine", "_law_theirs"] [] := F_exact.bindsN fun _ _ _ _ _ _ us hl => match us, hl with | [_, _], _ => rfl
  have b_are_own_apart : Binds K d_are_own_apart ["_law_run_here", "_law_waits", "_law_value", "_law_size"] [] := F_are_own_apart.bindsN fun _ _ _ _ _ _ us hl => match us, hl with | [_, _, _, _], _ => rfl
  have b_place_lists : Binds K d_place_lists ["_law_many", "_law_size"] [] := F_place_lists.bindsN fun _ _ _ _ _ _ us hl => match us, hl with | [_, _], _ => rfl
  have b_enough : Binds K d_enough ["_law_run_here", "_law_waits", "_law_places"] [] := F_enough.bindsN fun _ _ _ _ _ _ us hl => match us, hl with | [_, _, _], _ => rfl
  have b_is_enough : Binds K d_is_enough ["run", "waits", "places"] [] := F_is_enough.bindsN fun _ _ _ _ _ _ us hl => match us, hl with | [_, _, _], _ => rfl
  have b_are_apart : Binds K d_are_apart ["run", "waits", "value"] [] := F_are_apart.bindsN fun _ _ _ _ _ _ us hl => match us, hl with | [_, _, _], _ => rfl
  have b_draw : Binds K d_draw ["_law_purse_here", "_law_many"] [] := F_draw.bindsN fun _ _ _ _ _ _ us hl => match us, hl with | [_, _], _ => rfl
  refine F.ok sc_lists_right (fun vs H Q E h => ?_) (fun cdv A outer s H vs Q E hr h => ?_)
  · obtain ⟨pu, a, b, es, ws, N, rfl, _⟩ := h
    rfl
  · obtain ⟨pu, a, b, es, ws, N, rfl, hP, hN, na, nb, hRo, l9, hWo, hT, k⟩ := h
    have sl : (10000 : Nat) ≤ sizeLine := by decide
    have nd := sc_lists_right.nd
    refine ⟨_, PSs.nox (pss_cons (ps_set (i := 3) nd rfl (Or.inr rfl) (pe_call G_fewest (hr.mono (by decide)) rfl g_fewest F_fewest.kp b_fewest .nil pass0 (pa_cons (pv 1) (pa_cons (pv 2) (pa_nil)))))
      (pss_cons (ps_set (i := 5) nd rfl (Or.inr rfl) (pe_lc (own := [("_law_some", 4)]) (g := gName 4) (tt := tB (tCall (spEnough K) [] E0 (tCons (tVar 1) (tCons (tVar 2) (tCons (tVar 4) (tNil)))))) (te := tVar 4) (by rfl) nd (pi_list (pe_call G_place_lists (hr.mono (by decide)) rfl g_place_lists F_place_lists.kp b_place_lists .nil pass0 (pa_cons (pe_callB call_len_seq (by rfl) Z.len (by decide +kernel) (pa_cons (pv 1) (pa_nil))) (pa_cons (pv 3) (pa_nil)))))
          (blkOk_by (own := [("_law_some", 4)]) (N := N_lists_right) (sc := defScope s_lists_right) (by decide +kernel)) (fun _ _ _ _ _ => pg_name (i := 4) nd rfl (Or.inl rfl)) (fun _ _ _ _ _ => pts_one (pt_val (pe_call G_enough (hr.mono (by decide)) rfl g_enough F_enough.kp b_enough .nil pass0 (pa_cons (pv 1) (pa_cons (pv 2) (pa_cons (pv 4) (pa_nil)))))))
          (fun _ _ _ _ _ => pv 4)))
      (pss_cons (ps_setLc (i := 6) (own := [("_law_at", 17)]) (g := gName 17) (tt := tYes) (te := tCB (rMax K) (tCons (tLc (iList K (tVar 5)) (gName 4) (tYes) (tOp (rIxL K) (tVar 4) (tVar 17)) [4]) (tNil))) (by rfl) nd rfl rfl rfl (pi_range1 (by rfl) Z.range (pa_cons (pv 3) (pa_nil)))
          (blkOk_by (own := [("_law_at", 17)]) (N := N_lists_right) (sc := defScope s_lists_right) (by decide +kernel)) (fun _ _ _ _ _ => pg_name (i := 17) nd rfl (Or.inr rfl)) (fun _ _ _ _ _ => pts_nil)
          (fun _ _ _ _ _ => pe_callB (cr_max rfl) (by rfl) Z.max (by decide +kernel) (pa_cons (pe_lc (own := [("_law_some", 4)]) (g := gName 4) (tt := tYes) (te := tOp (rIxL K) (tVar 4) (tVar 17)) (by rfl) nd (pi_list (pv 5))
          (blkOk_by (own := [("_law_some", 4)]) (N := N_lists_right) (sc := ({ kind := .function, names := [(".0", .local), ("_law_at", .cell), ("max", .globalImplicit), ("_law_every", .cell)], isGenerator := false, isCoroutine := false } : Scope)) (by decide +kernel)) (fun _ _ _ _ _ => pg_name (i := 4) nd rfl (Or.inl rfl)) (fun _ _ _ _ _ => pts_nil)
          (fun _ _ _ _ _ => pe_ix ix_list (pv 4) (pv 17) (fun _ _ => rfl))) (pa_nil))))
      (pss_cons (ps_set (i := 7) nd rfl (Or.inl rfl) (pe_lst (pa_cons (pe_callTy call_list_ofR (by rfl) Z.tlist (by decide +kernel) (pa_cons (pv 1) (pa_nil))) (pa_cons (pe_callTy call_list_ofR (by rfl) Z.tlist (by decide +kernel) (pa_cons (pv 2) (pa_nil))) (pa_nil)))))
      (pss_cons (ps_set (i := 8) nd rfl (Or.inr rfl) (pe_lst (pa_cons (pe_call G_barriers_for (hr.mono (by decide)) rfl g_barriers_for F_barriers_for.kp b_barriers_for .nil pass0 (pa_cons (pe_ix ix_list (pv 7) (pe_int) (fun _ _ => rfl)) (pa_cons (pe_ix ix_list (pv 7) (pe_int) (fun _ _ => rfl)) (pa_nil)))) (pa_cons (pe_call G_many_least (hr.mono (by decide)) rfl g_many_least F_many_least.kp b_many_least .nil pass0 (pa_cons (pe_ix ix_list (pv 7) (pe_int) (fun _ _ => rfl)) (pa_cons (pe_ix ix_list (pv 7) (pe_int) (fun _ _ => rfl)) (pa_nil)))) (pa_cons (pe_call G_apart_waits (hr.mono (by decide)) rfl g_apart_waits F_apart_waits.kp b_apart_waits .nil pass0 (pa_cons (pe_ix ix_list (pv 7) (pe_int) (fun _ _ => rfl)) (pa_cons (pe_ix ix_list (pv 7) (pe_int) (fun _ _ => rfl)) (pa_nil)))) (pa_nil))))))
      (pss_cons (ps_if (PW.pt (pw_or (pt_not (pt_val (pe_call (GA_exact 9) (hr.mono (by decide)) rfl g_exact F_exact.kp b_exact .nil pass0 (pa_cons (pe_lst (pa_cons (pe_slice sl_list (pv 8) (po_none) (po_some (pe_int))) (pa_cons (pv 7) (pa_nil)))) (pa_cons (pe_lst (pa_cons (pe_lst (pa_cons (pv 6) (pa_cons (pe_callB call_len_seq (by rfl) Z.len (by decide +kernel) (pa_cons (pv 5) (pa_nil))) (pa_nil)))) (pa_cons (pe_lst (pa_cons (pv 1) (pa_cons (pv 2) (pa_nil)))) (pa_nil)))) (pa_nil)))))) (pw_or1 (pt_not (pt_val (pe_call G_are_own_apart (hr.mono (by decide)) rfl g_are_own_apart F_are_own_apart.kp b_are_own_apart .nil pass0 (pa_cons (pv 1) (pa_cons (pv 2) (pa_cons (pe_ix ix_list (pv 8) (pe_int) (fun _ _ => rfl)) (pa_cons (pv 3) (pa_nil))))))))))) (pss_one (ps_ret (pe_bl))) (pss_nil))
      (pss_cons (ps_set (i := 9) nd rfl (Or.inl rfl) (pe_lst (pa_cons (pe_non) (pa_cons (pe_int) (pa_cons (pe_str) (pa_cons (pe_dnewK) (pa_cons (pe_tup (pa_nil)) (pa_cons (pe_callTy call_tuple_of (by rfl) Z.ttuple (by decide +kernel) (pa_cons (pe_ix ix_list (pv 8) (pe_int) (fun _ _ => rfl)) (pa_nil))) (pa_cons (pe_op op_cat (pe_ix ix_list (pv 8) (pe_int) (fun _ _ => rfl)) (pe_slice sl_list (pe_ix ix_list (pv 8) (pe_int) (fun _ _ => rfl)) (po_some (pe_un un_neg (pe_int))) (po_none))) (pa_cons (pe_slice sl_list (pe_ix ix_list (pv 8) (pe_int) (fun _ _ => rfl)) (po_some (pe_int)) (po_none)) (pa_cons (pe_revL (pe_ix ix_list (pv 8) (pe_int) (fun _ _ => rfl))) (pa_cons (pe_lst (pa_cons (pe_non) (pa_nil))) (pa_cons (pv 2) (pa_cons (pe_lc (own := [("_law_wait", 18)]) (g := gName 18) (tt := tYes) (te := tCB (rListOf K) (tCons (tVar 18) (tNil))) (by rfl) nd (pi_list (pe_ix ix_list (pv 8) (pe_int) (fun _ _ => rfl)))
          (blkOk_by (own := [("_law_wait", 18)]) (N := N_lists_right) (sc := defScope s_lists_right) (by decide +kernel)) (fun _ _ _ _ _ => pg_name (i := 18) nd rfl (Or.inl rfl)) (fun _ _ _ _ _ => pts_nil)
          (fun _ _ _ _ _ => pe_callTy call_list_ofR (by rfl) Z.tlist (by decide +kernel) (pa_cons (pv 18) (pa_nil)))) (pa_cons (pe_lst (pa_cons (pe_tup (pa_nil)) (pa_nil))) (pa_cons (pe_op op_cat (pe_ix ix_list (pv 8) (pe_int) (fun _ _ => rfl)) (pe_lst (pa_cons (pe_non) (pa_nil)))) (pa_nil)))))))))))))))))
      (pss_cons (ps_set (i := 9) nd rfl (Or.inl rfl) (pe_op op_cat (pv 9) (pe_lst (pa_cons (pe_lc (own := [("_law_early", 20), ("_law_late", 10)]) (g := gTup K 2 (gCons (gName 20) (gCons (gName 10) (gNil)))) (tt := tYes) (te := tTup (tCons (tIf (tTest (tOp (rI0 fun i j => .bl (decide (i < j))) (tVar 20) (tC (.int 2)))) (tOp rEq (tVar 20) (tC (.int 1))) (tVar 20)) (tCons (tIf (tTest (tOp (rI0 fun i j => .bl (decide (i < j))) (tVar 10) (tC (.int 2)))) (tOp rEq (tVar 10) (tC (.int 1))) (tVar 10)) (tNil)))) (by rfl) nd (pi_list (pe_ix ix_list (pv 8) (pe_int) (fun _ _ => rfl)))
          (blkOk_by (own := [("_law_early", 20), ("_law_late", 10)]) (N := N_lists_right) (sc := defScope s_lists_right) (by decide +kernel)) (fun _ _ _ _ _ => pg_tup rfl (pgs_cons (pg_name (i := 20) nd rfl (Or.inl rfl)) (pgs_cons (pg_name (i := 10) nd rfl (Or.inl rfl)) (pgs_nil)))) (fun _ _ _ _ _ => pts_nil)
          (fun _ _ _ _ _ => pe_tup (pa_cons (pe_ifExp (pt_cmpR op_lt (pv 20) (pe_int) (nomark _)) (pe_cmpR op_eq (pv 20) (pe_int) (nomark _)) (pv 20)) (pa_cons (pe_ifExp (pt_cmpR op_lt (pv 10) (pe_int) (nomark _)) (pe_cmpR op_eq (pv 10) (pe_int) (nomark _)) (pv 10)) (pa_nil))))) (pa_cons (pe_op op_rep (pe_lst (pa_cons (pe_lst (pa_nil)) (pa_nil))) (pv 3)) (pa_cons (pe_op op_rep (pe_lst (pa_cons (pe_dnewK) (pa_nil))) (pv 3)) (pa_nil)))))))
      (pss_cons (ps_set (i := 11) nd rfl (Or.inr rfl) (pe_call G_pairs_of (hr.mono (by decide)) rfl g_pairs_of F_pairs_of.kp b_pairs_of .nil pass0 (pa_cons (pv 1) (pa_nil))))
      (pss_cons (ps_set (i := 9) nd rfl (Or.inl rfl) (pe_op op_cat (pv 9) (pe_lc (own := [("_law_turn", 19)]) (g := gName 19) (tt := tYes) (te := tCB (rSortW K) (tCons (tSl (rSlL K) (tCall (spShuffled K) [] E0 (tCons (tVar 0) (tCons (tVar 11) tNil))) tNoPart (tPart (tVar 3))) tNil)) (by rfl) nd (pi_range1 (by rfl) Z.range (pa_cons (pe_int) (pa_nil)))
          (blkOk_by (own := [("_law_turn", 19)]) (N := N_lists_right) (sc := defScope s_lists_right) (by decide +kernel)) (fun _ _ _ _ _ => pg_name (i := 19) nd rfl (Or.inl rfl)) (fun _ _ _ _ _ => pts_nil)
          (fun _ _ _ _ _ => pe_callB ((cr_sortedW hr.units)) (by rfl) Z.sorted (by decide +kernel) (pa_cons (pe_slice sl_list (pe_call G_shuffled (hr.mono (by decide)) rfl g_shuffled F_shuffled.kp b_shuffled .nil pass0 (pa_cons (pv 0) (pa_cons (pv 11) (pa_nil)))) (po_none) (po_some (pv 3))) (pa_nil))))))
      (pss_cons (ps_for PassesOwn.never rfl (pi_list (pe_slice sl_list (pe_call G_shuffled (hr.mono (by decide)) rfl g_shuffled F_shuffled.kp b_shuffled .nil pass0 (pa_cons (pv 0) (pa_cons (pe_lc (own := [("_law_pair", 21)]) (g := gName 21) (tt := tTest (tOp (rNotInD K) (tVar 21) (tVar 2))) (te := tVar 21) (by rfl) nd (pi_list (pv 11))
          (blkOk_by (own := [("_law_pair", 21)]) (N := N_lists_right) (sc := defScope s_lists_right) (by decide +kernel)) (fun _ _ _ _ _ => pg_name (i := 21) nd rfl (Or.inl rfl)) (fun _ _ _ _ _ => pts_one (pt_cmpR (op_notInD (room65 hr)) (pv 21) (pv 2) (by rfl)))
          (fun _ _ _ _ _ => pv 21)) (pa_nil)))) (po_none) (po_some (pe_int)))) (pg_name (i := 10) nd rfl (Or.inr rfl))
        (pss_one (ps_set (i := 9) nd rfl (Or.inl rfl) (pe_op op_cat (pv 9) (pe_lc (own := [("_law_at", 17)]) (g := gName 17) (tt := tYes) (te := tOp rCat (tOp rCat (tSl (rSlL K) (tOp (rIxL K) (tVar 8) (tC (.int 2))) tNoPart (tPart (tVar 17))) (tLst (tCons (tVar 10) tNil))) (tSl (rSlL K) (tOp (rIxL K) (tVar 8) (tC (.int 2))) (tPart (tOp (rI0 fun i j => .int (i + j)) (tVar 17) (tC (.int 1)))) tNoPart)) (by rfl) nd (pi_range1 (by rfl) Z.range (pa_cons (pv 3) (pa_nil)))
          (blkOk_by (own := [("_law_at", 17)]) (N := N_lists_right) (sc := defScope s_lists_right) (by decide +kernel)) (fun _ _ _ _ _ => pg_name (i := 17) nd rfl (Or.inl rfl)) (fun _ _ _ _ _ => pts_nil)
          (fun _ _ _ _ _ => pe_op op_cat (pe_op op_cat (pe_slice sl_list (pe_ix ix_list (pv 8) (pe_int) (fun _ _ => rfl)) (po_none) (po_some (pv 17))) (pe_lst (pa_cons (pv 10) (pa_nil)))) (pe_slice sl_list (pe_ix ix_list (pv 8) (pe_int) (fun _ _ => rfl)) (po_some (pe_op op_add (pv 17) (pe_int))) (po_none))))))))
      (pss_cons (ps_set (i := 9) nd rfl (Or.inl rfl) (pe_op op_cat (pe_op op_cat (pv 9) (pe_lc (own := [("_law_turn", 19)]) (g := gName 19) (tt := tYes) (te := tCB (rSortW K) (tCons (tSl (rSlL K) (tCall (spShuffled K) [] E0 (tCons (tVar 0) (tCons (tVar 2) tNil))) tNoPart (tPart (tVar 3))) tNil)) (by rfl) nd (pi_range1 (by rfl) Z.range (pa_cons (pe_int) (pa_nil)))
          (blkOk_by (own := [("_law_turn", 19)]) (N := N_lists_right) (sc := defScope s_lists_right) (by decide +kernel)) (fun _ _ _ _ _ => pg_name (i := 19) nd rfl (Or.inl rfl)) (fun _ _ _ _ _ => pts_nil)
          (fun _ _ _ _ _ => pe_callB ((cr_sortedW hr.units)) (by rfl) Z.sorted (by decide +kernel) (pa_cons (pe_slice sl_list (pe_call G_shuffled (hr.mono (by decide)) rfl g_shuffled F_shuffled.kp b_shuffled .nil pass0 (pa_cons (pv 0) (pa_cons (pv 2) (pa_nil)))) (po_none) (po_some (pv 3))) (pa_nil))))) (pe_lst (pa_cons (pe_ix ix_list (pv 8) (pe_int) (fun _ _ => rfl)) (pa_nil)))))
      (pss_cons (ps_for PassesOwn.never rfl (pi_list (pv 9)) (pg_name (i := 12) nd rfl (Or.inl rfl))
        (pss_cons (ps_set (i := 13) nd rfl (Or.inl rfl) (pe_call (GA_same 8) (hr.mono (by decide)) rfl g_same F_same.kp b_same .nil pass0 (pa_cons (pv 12) (pa_nil))))
      (pss_one (ps_if (pt_not (pt_val (pe_call (GA_exact 9) (hr.mono (by decide)) rfl g_exact F_exact.kp b_exact .nil pass0 (pa_cons (pe_lst (pa_cons (pe_call G_are_apart (hr.mono (by decide)) rfl g_are_apart F_are_apart.kp b_are_apart .nil pass0 (pa_cons (pv 1) (pa_cons (pv 2) (pa_cons (pv 12) (pa_nil))))) (pa_cons (pv 12) (pa_nil)))) (pa_cons (pe_lst (pa_cons (pe_call G_are_own_apart (hr.mono (by decide)) rfl g_are_own_apart F_are_own_apart.kp b_are_own_apart .nil pass0 (pa_cons (pv 1) (pa_cons (pv 2) (pa_cons (pv 12) (pa_cons (pv 3) (pa_nil)))))) (pa_cons (pv 13) (pa_nil)))) (pa_nil)))))) (pss_one (ps_ret (pe_bl))) (pss_nil)))))
      (pss_cons (ps_set (i := 4) nd rfl (Or.inl rfl) (pe_op op_cat (pe_op op_cat (pe_lst (pa_cons (pe_lst (pa_nil)) (pa_cons (pv 6) (pa_cons (pe_listRg rfl (by rfl) Z.tlist (prg_1 (by rfl) Z.range (pe_callB call_len_seq (by rfl) Z.len (by decide +kernel) (pa_cons (pv 1) (pa_nil))))) (pa_nil))))) (pe_lc (own := [("_law_turn", 19)]) (g := gName 19) (tt := tYes) (te := tCB (rSorted K) (tCons (tSl (rSlL K) (tCall (spShuffled K) [] E0 (tCons (tVar 0) (tCons (tLstRg (tRg1 (tCB (rLenK K) (tCons (tVar 1) tNil)))) tNil))) tNoPart (tPart (tCall spDraw [] E0 (tCons (tVar 0) (tCons (tC (.int 4)) tNil))))) tNil)) (by rfl) nd (pi_range1 (by rfl) Z.range (pa_cons (pe_int) (pa_nil)))
          (blkOk_by (own := [("_law_turn", 19)]) (N := N_lists_right) (sc := defScope s_lists_right) (by decide +kernel)) (fun _ _ _ _ _ => pg_name (i := 19) nd rfl (Or.inl rfl)) (fun _ _ _ _ _ => pts_nil)
          (fun _ _ _ _ _ => pe_callB (cr_sorted) (by rfl) Z.sorted (by decide +kernel) (pa_cons (pe_slice sl_list (pe_call G_shuffled (hr.mono (by decide)) rfl g_shuffled F_shuffled.kp b_shuffled .nil pass0 (pa_cons (pv 0) (pa_cons (pe_listRg rfl (by rfl) Z.tlist (prg_1 (by rfl) Z.range (pe_callB call_len_seq (by rfl) Z.len (by decide +kernel) (pa_cons (pv 1) (pa_nil))))) (pa_nil)))) (po_none) (po_some (pe_call G_draw (hr.mono (by decide)) rfl g_draw F_draw.kp b_draw .nil pass0 (pa_cons (pv 0) (pa_cons (pe_int) (pa_nil)))))) (pa_nil))))) (pe_slice sl_list (pv 5) (po_none) (po_some (pe_int)))))
      (pss_cons (ps_set (i := 14) nd rfl (Or.inl rfl) (pe_lst (pa_nil)))
      (pss_cons (ps_for PassesOwn.never rfl (pi_range1 (by rfl) Z.range (pa_cons (pe_callB call_len_seq (by rfl) Z.len (by decide +kernel) (pa_cons (pv 1) (pa_nil))) (pa_nil))) (pg_name (i := 15) nd rfl (Or.inl rfl))
        (pss_cons (ps_if (pt_not (pt_val (pe_call (GA_exact 9) (hr.mono (by decide)) rfl g_exact F_exact.kp b_exact .nil pass0 (pa_cons (pe_call G_is_enough (hr.mono (by decide)) rfl g_is_enough F_is_enough.kp b_is_enough .nil pass0 (pa_cons (pv 1) (pa_cons (pv 2) (pa_cons (pv 14) (pa_nil))))) (pa_cons (pe_call G_enough (hr.mono (by decide)) rfl g_enough F_enough.kp b_enough .nil pass0 (pa_cons (pv 1) (pa_cons (pv 2) (pa_cons (pv 14) (pa_nil))))) (pa_nil)))))) (pss_one (ps_ret (pe_bl))) (pss_nil))
      (pss_one (ps_expr (pe_bm PySem.F.plainAttrs_list PySem.F.slot_list_append PySem.F.type_list_append mt_append (pv 14) (pa_cons (pv 15) (pa_nil)))))))
      (pss_cons (ps_for PassesOwn.never rfl (pi_list (pv 4)) (pg_name (i := 16) nd rfl (Or.inl rfl))
        (pss_one (ps_if (pt_not (pt_val (pe_call (GA_exact 9) (hr.mono (by decide)) rfl g_exact F_exact.kp b_exact .nil pass0 (pa_cons (pe_call G_is_enough (hr.mono (by decide)) rfl g_is_enough F_is_enough.kp b_is_enough .nil pass0 (pa_cons (pv 1) (pa_cons (pv 2) (pa_cons (pv 16) (pa_nil))))) (pa_cons (pe_call G_enough (hr.mono (by decide)) rfl g_enough F_enough.kp b_enough .nil pass0 (pa_cons (pv 1) (pa_cons (pv 2) (pa_cons (pv 16) (pa_nil))))) (pa_nil)))))) (pss_one (ps_ret (pe_bl))) (pss_nil))))
      (pss_cons (ps_expr (pe_bm PySem.F.plainAttrs_list PySem.F.slot_list_append PySem.F.type_list_append mt_append (pe_ix ix_list (pv 8) (pe_int) (fun _ _ => rfl)) (pa_cons (pe_non) (pa_nil))))
      (pss_cons (ps_expr (pe_bm PySem.F.plainAttrs_list PySem.F.slot_list_append PySem.F.type_list_append mt_append (pe_ix ix_list (pv 8) (pe_int) (fun _ _ => rfl)) (pa_cons (pe_non) (pa_nil))))
      (pss_one (ps_ret (pe_and (pe_call (GA_exact 9) (hr.mono (by decide)) rfl g_exact F_exact.kp b_exact .nil pass0 (pa_cons (pe_call G_barriers_for (hr.mono (by decide)) rfl g_barriers_for F_barriers_for.kp b_barriers_for .nil pass0 (pa_cons (pv 1) (pa_cons (pv 2) (pa_nil)))) (pa_cons (pv 6) (pa_nil)))) (pe_one (pe_call G_are_own_apart (hr.mono (by decide)) rfl g_are_own_apart F_are_own_apart.kp b_are_own_apart .nil pass0 (pa_cons (pv 1) (pa_cons (pv 2) (pa_cons (pe_call G_apart_waits (hr.mono (by decide)) rfl g_apart_waits F_apart_waits.kp b_apart_waits .nil pass0 (pa_cons (pv 1) (pa_cons (pv 2) (pa_nil)))) (pa_cons (pv 3) (pa_nil))))))))))))))))))))))))))))), ?_⟩
    have pul : ∀ {G : Hp} {M : Nat}, Purse G pu M → ∃ xs, G pu = some (.lst xs) := fun h => by
      obtain ⟨A0, B0, c0, i0, eP, _⟩ := h
      exact ⟨_, eP⟩
    have hR := hRo.same (off_le H pu)
    have hW := hWo.same (off_le H pu)
    obtain ⟨ta, ha, lta, hta⟩ := id hR.at_
    obtain ⟨tb, hb, ltb, _⟩ := id hW.at_
    obtain ⟨m, em⟩ : ∃ m, m = (ends (brokenL es ws)).length := ⟨_, rfl⟩
    have hl := broken_lt hW.ok
    have pl := ends_ok hW.ok
    have lap : (apart (brokenL es ws)).length ≤ 9 := by
      have := ends_ok hW.ok
      have := this.len
      unfold ends at this
      rw [List.length_map] at this
      omega
    have msh := ends_short hR.ne hW.ok
    have hlw : ∀ w ∈ brokenL es ws, w.1 < w.2 ∧ w.2 < es.length := fun w h => ⟨hl w h, (hW.ok.ok w (List.mem_filter.mp h).1).len⟩
    refine ⟨_, rfl, _, rfl, a, b, es, ws, rfl, hR, by omega, hW, fun G1 s1 => ?_⟩
    rw [← em]
    refine via_nx ?_
    refine norm (σ' := [some (.ref pu), some (.ref a), some (.ref b), some (.int (m : Nat)), none, none, none, none, none, none, none, none, none, none, none, none, none, none, none, none, none, none]) rfl ?_
    refine ⟨_, rfl, a, _, rfl, .inl (SqL.of (s1 _ _ ha)), _, rfl, es.length, m, (by rw [List.length_map, lta]; rfl), by omega, by omega, fun qp ys PS G2 s2 nqp hqp py nyP ndP hm lPS => ⟨qp, rfl, ⟨_, SqL.of hqp⟩, fun D6 hD6 => ?_⟩⟩
    have s12 := s1.trans s2
    refine lls_sel (K := K) (enoughB es ws) (by omega) hqp py hD6 ?_ ?_
    · intro x t Ga Qy Qn hx sa ht ky_ kn
      have lx := ((hm x).mp hx).2
      refine ⟨rfl, _, rfl, _, rfl, _, rfl, a, b, t, es, ws, x, rfl, hR.same (s12.trans sa), hW.same (s12.trans sa), ht, by omega, fun Gb sb => ⟨_, rfl, ?_⟩⟩
      cases qs : enoughB es ws x with
      | true => exact iteT ⟨_, rfl, ky_ _ sb qs⟩
      | false => exact iteF (kn _ sb qs)
    · intro G3 zs s3 hzs pz myz
      have nzP : ∀ y ∈ zs, ∃ T, y = .ref T ∧ T ≠ pu := fun y h => by
        obtain ⟨T, e, n⟩ := nyP y (myz y h)
        exact ⟨T, e, fresh_ne (hP.same s1) n⟩
      have s13 := s12.trans s3
      have memP : ∀ x, x ∈ PS.filter (enoughB es ws) ↔ (PlOk es.length x ∧ x.length = m) ∧ enoughB es ws x = true := fun x => by rw [List.mem_filter, hm]
      have lF := List.length_filter_le (enoughB es ws) PS
      have ndF := ndP.filter (enoughB es ws)
      obtain ⟨EV, eEV⟩ : ∃ EV, EV = PS.filter (enoughB es ws) := ⟨_, rfl⟩
      rw [← eEV] at pz memP lF ndF
      have nEV : EV.length = cnt (brokenL es ws) es.length m 0 := by
        rw [em]
        exact all_fewest hlw ndF fun x => by
          rw [memP, enough_served hW.ok, em, and_assoc]
          exact and_congr ⟨fun h => ⟨h.asc, h.lt⟩, fun h => ⟨h.1, h.2⟩⟩ Iff.rfl
      clear hqp py hm hD6 eEV ndF ndP
      refine via_nx ?_
      refine norm (σ' := [some (.ref pu), some (.ref a), some (.ref b), some (.int (m : Nat)), none, some (.ref D6), none, none, none, none, none, none, none, none, none, none, none, none, none, none, none, none]) rfl ?_
      refine ⟨_, rfl, (m : Int), rfl, by omega, by omega, fun D7 hD7 => ?_⟩
      rw [Int.toNat_natCast]
      refine lc_sel (walk_range (lo := 0) (n := m)) (fun i => some (.int (((ends (brokenL es ws)).getD i 0 : Nat) : Int))) (by omega) hD7 (fun _ _ => trivial) ?_ ?_
      · rintro i x Gz Ga Qy Qn hi sx ⟨rfl, rfl⟩ ky_ kn
        dsimp only
        rw [Int.zero_add]
        refine ⟨rfl, _, rfl, D6, rfl, ⟨_, SqL.of (sx _ _ hzs)⟩, fun D8 hD8 => ?_⟩
        refine lls_ints (K := K) (fun P => ((P.getD i 0 : Nat) : Int)) (by omega) (sx _ _ hzs) (lsAt_mono sx pz) hD8 ?_ ?_
        · intro x t Gb Qy2 Qn2 hx sb ht ky2
          have lx := ((memP x).mp hx).1.2
          have ex : (numsV x)[i]? = some (.int ((x.getD i 0 : Nat) : Int)) := by
            unfold numsV
            rw [List.getElem?_map, List.getD_eq_getElem?_getD, List.getElem?_eq_getElem (by omega)]
            rfl
          exact ⟨rfl, _, rfl, _, rfl, t, _, _, _, rfl, rfl, SqL.of ht, atI_nat ex, ky2 _ (Same.refl _)⟩
        · intro Gb sb hB
          have mE : ends (brokenL es ws) ∈ EV := (memP _).mpr ⟨⟨pl, em.symm⟩, by rw [enough_served hW.ok]; exact ends_serve hl⟩
          refine ⟨D8, _, rfl, SqL.of hB, (by rw [List.length_map]; exact List.length_pos_of_mem mE), fun mx hmx hmax => ?_⟩
          obtain ⟨x, hx, rfl⟩ := List.mem_map.mp hmx
          have g1 := hmax _ (List.mem_map.mpr ⟨ends (brokenL es ws), mE, rfl⟩)
          obtain ⟨⟨x1, x2⟩, x3⟩ := (memP x).mp hx
          rw [enough_served hW.ok] at x3
          have g2 := (ends_least hl x1.asc x3).2 (by omega) i (x.getD i 0) ((ends (brokenL es ws)).getD i 0) (by rw [List.getD_eq_getElem?_getD, List.getElem?_eq_getElem (by omega)]; rfl) (by rw [List.getD_eq_getElem?_getD, List.getElem?_eq_getElem (by omega)]; rfl)
          have ee : ((x.getD i 0 : Nat) : Int) = (((ends (brokenL es ws)).getD i 0 : Nat) : Int) := by omega
          rw [ee]
          exact ky_ _ _ sb rfl
      · intro G7 s7 hR7
        have hE : G7 D7 = some (.lst (numsV (ends (brokenL es ws)))) := by
          rw [hR7, List.filterMap_eq_map', em]
          refine congrArg (fun l => some (HO.lst l)) ?_
          unfold numsV
          refine List.ext_getElem? fun i => ?_
          rw [List.getElem?_map, List.getElem?_map]
          by_cases c : i < (ends (brokenL es ws)).length
          · rw [List.getElem?_range c, List.getElem?_eq_getElem c]
            show some (V.int (((ends (brokenL es ws)).getD i 0 : Nat) : Int)) = _
            rw [List.getD_eq_getElem?_getD, List.getElem?_eq_getElem c]
            rfl
          · rw [List.getElem?_eq_none (by rw [List.length_range]; omega), List.getElem?_eq_none (by omega)]
            rfl
        have s17 := s13.trans s7
        have hzs7 := s7 _ _ hzs
        have pz7 := lsAt_mono s7 pz
        have hDn : H D7 = none := none_back s13 hD7
        clear hR7 hD7 s13 s12 hzs pz s3 s2 s1
        refine via_nx ?_
        refine norm (σ' := [some (.ref pu), some (.ref a), some (.ref b), some (.int (m : Nat)), none, some (.ref D6), some (.ref D7), none, none, none, none, none, none, none, none, none, none, none, none, none, none, none]) rfl ?_
        have haG := s17 _ _ ha
        have hbG := s17 _ _ hb
        refine ⟨_, rfl, a, _, rfl, .inl (SqL.of haG), fun l1 hl1 => ?_⟩
        have x1 := Same.updf (o := .lst (ta.map V.ref)) hl1
        refine ⟨_, rfl, b, _, rfl, .inl (SqL.of (x1 _ _ hbG)), fun l2 hl2 => ?_⟩
        have x2 := Same.updf (o := .lst (tb.map V.ref)) hl2
        refine ⟨(by show 2 ≤ sizeLine; omega), fun lh hlh => ?_⟩
        have x3 := Same.updf (o := .lst [V.ref l1, V.ref l2]) hlh
        have f1 := (x2.trans x3) _ _ (upd_same (a := l1) (o := .lst (ta.map V.ref)))
        have f2 := x3 _ _ (upd_same (a := l2) (o := .lst (tb.map V.ref)))
        have f3 := upd_same (H := upd (upd G7 l1 (.lst (ta.map V.ref))) l2 (.lst (tb.map V.ref))) (a := lh) (o := .lst [V.ref l1, V.ref l2])
        have x13 := (x1.trans x2).trans x3
        have s18 := s17.trans x13
        have hE := x13 _ _ hE
        have hzs := x13 _ _ hzs7
        have pz := lsAt_mono x13 pz7
        obtain ⟨G8, eG⟩ : ∃ X, X = upd (upd (upd G7 l1 (.lst (ta.map V.ref))) l2 (.lst (tb.map V.ref))) lh (.lst [V.ref l1, V.ref l2]) := ⟨_, rfl⟩
        rw [← eG] at f1 f2 f3 s18 hE hzs pz ⊢
        clear eG x1 x2 x3 x13 hl1 hl2 hlh haG hbG hzs7 pz7 s7
        have R8 := hR.same s18
        have W8 := hW.same s18
        have R81 : RunOk K G8 l1 es := ⟨hR.at_.copy ha s18 f1, hR.ne, hR.len⟩
        have W81 : WtOk K G8 l2 es ws := ⟨hW.at_.copy hb s18 f2, hW.ok, hW.len⟩
        have T8 := tabs_same s18 hT
        refine via_nx ?_
        refine norm (σ' := [some (.ref pu), some (.ref a), some (.ref b), some (.int (m : Nat)), none, some (.ref D6), some (.ref D7), some (.ref lh), none, none, none, none, none, none, none, none, none, none, none, none, none, none]) rfl ?_
        have nt : ∀ {xs : List V} (ps), HO.lst xs ≠ .tbl ps := fun ps z => by cases z
        refine ⟨_, rfl, lh, _, 0, .ref l1, rfl, rfl, SqL.of f3, atI_nat (j := 0) rfl, _, rfl, lh, _, 1, .ref l2, rfl, rfl, SqL.of f3, atI_nat (j := 1) rfl, l1, l2, es, ws, rfl, R81, W81, T8, fun q1 G9 e9 T9 n9 h9 => ?_⟩
        have f3' := e9 _ _ f3 nt
        refine ⟨_, rfl, lh, _, 0, .ref l1, rfl, rfl, SqL.of f3', atI_nat (j := 0) rfl, _, rfl, lh, _, 1, .ref l2, rfl, rfl, SqL.of f3', atI_nat (j := 1) rfl, l1, l2, es, ws, rfl, R81.ext e9, W81.ext e9, fun Ga sa => ?_⟩
        rw [← em]
        have e9a := e9.trans (ExtN.of sa)
        have f3a := sa _ _ f3'
        refine ⟨_, rfl, lh, _, 0, .ref l1, rfl, rfl, SqL.of f3a, atI_nat (j := 0) rfl, _, rfl, lh, _, 1, .ref l2, rfl, rfl, SqL.of f3a, atI_nat (j := 1) rfl, l1, l2, es, ws, rfl, R81.ext e9a, W81.ext e9a, tabs_same sa T9, fun q3 Gb eb Tb nb3 h3 => ?_⟩
        refine ⟨(by show 3 ≤ sizeLine; omega), fun tl htl => ?_⟩
        have y1 := Same.updf (o := .lst [V.ref q1, V.int ((cnt (brokenL es ws) es.length m 0 : Nat) : Int), V.ref q3]) htl
        have eab := (e9a.trans eb).trans (ExtN.of y1)
        have eb1 := eb.trans (ExtN.of y1)
        have h9 := eb1 _ _ (sa _ _ h9) nt
        have h3 := h3.same y1
        have htl := upd_same (H := Gb) (a := tl) (o := .lst [V.ref q1, V.int ((cnt (brokenL es ws) es.length m 0 : Nat) : Int), V.ref q3])
        have Tc := tabs_same y1 Tb
        have hE := eab _ _ hE nt
        have hzs := eab _ _ hzs nt
        have pzc : ∀ l y, LsAt G8 l y → LsAt (upd Gb tl (.lst [V.ref q1, V.int ((cnt (brokenL es ws) es.length m 0 : Nat) : Int), V.ref q3])) l y := fun l y ⟨T, e, h⟩ => ⟨T, e, eab _ _ h nt⟩
        have pz := paired_mono pzc pz
        have f3 := eab _ _ f3 nt
        have R1 := R81.ext eab
        have W2 := W81.ext eab
        have eH := (ExtN.of s18).trans eab
        have nq1 : NewN H q1 := NewN.back (ExtN.of s18) n9
        have nq3 : NewN H q3 := NewN.back ((ExtN.of s18).trans e9a) nb3
        have d17 : D7 ≠ q1 := n9.ne (by assumption)
        have d37 : D7 ≠ q3 := nb3.ne (e9a _ _ (by assumption) nt)
        have dq13 : q1 ≠ q3 := nb3.ne (sa _ _ (by assumption))
        have htlc := htl
        obtain ⟨Gc, eG⟩ : ∃ X, X = upd Gb tl (.lst [V.ref q1, V.int ((cnt (brokenL es ws) es.length m 0 : Nat) : Int), V.ref q3]) := ⟨_, rfl⟩
        rw [← eG] at eab eb1 h9 h3 htl Tc hE hzs pz f3 R1 W2 eH ⊢
        clear eG pzc htlc y1
        have h9q := h9
        have RG := hR.ext eH
        have WG := hW.ext eH
        have RoG := hRo.ext (butN_off (ButN.ofN eH))
        have WoG := hWo.ext (butN_off (ButN.ofN eH))
        have PG := purse_ext eH hP
        have nn1 : ∀ {q : Addr} {xs : List V}, NewN H q → H pu = some (.lst xs) → q ≠ pu := fun h e => (h.ne e).symm
        have n1p : q1 ≠ pu := by
          obtain ⟨xs, e⟩ := pul hP
          exact nn1 nq1 e
        have n3p : q3 ≠ pu := by
          obtain ⟨xs, e⟩ := pul hP
          exact nn1 nq3 e
        have n6p : D6 ≠ pu := fun z => by
          obtain ⟨A0, B0, c0, i0, eP, _⟩ := PG.at_
          rw [← z, hzs] at eP
          have eP := HO.lst.inj (Option.some.inj eP)
          rw [eP] at pz
          have lq := paired_len pz
          match EV, pz with
          | x :: _, .cons h _ => obtain ⟨T, e, _⟩ := h; cases e
        have n7p : D7 ≠ pu := fun z => by
          obtain ⟨A0, B0, c0, i0, eP, _⟩ := hP.at_
          rw [← z, hDn] at eP
          cases eP
        have kz : ∀ y ∈ zs, PlV pu es.length Gc y := fun y h => by
          obtain ⟨i, hi, rfl⟩ := List.getElem_of_mem h
          obtain ⟨P0, g1, T, e, hT⟩ := paired_get2 pz (List.getElem?_eq_getElem hi)
          obtain ⟨T2, e2, n2⟩ := nzP _ (List.getElem_mem hi)
          rw [e] at e2
          obtain rfl := V.ref.inj e2
          exact ⟨T, P0, e, n2, hT, ((memP P0).mp (List.mem_of_getElem? g1)).1.1⟩
        have ntp : tl ≠ pu := fun z => by
          obtain ⟨A0, B0, c0, i0, eP, _⟩ := PG.at_
          rw [← z, htl] at eP
          have eP := HO.lst.inj (Option.some.inj eP)
          have := (List.cons.inj eP).1
          cases this
        clear hR hW R81 W81 T8 T9 Tb e9 e9a n9 nb3 f3' f3a eb eab eb1 sa hRo hWo hT s18 R8 W8 f1 f2 hDn
        refine via_nx ?_
        refine norm (σ' := [some (.ref pu), some (.ref a), some (.ref b), some (.int (m : Nat)), none, some (.ref D6), some (.ref D7), some (.ref lh), some (.ref tl), none, none, none, none, none, none, none, none, none, none, none, none, none]) rfl ?_
        refine ⟨_, rfl, _, rfl, tl, _, rfl, SqL.of htl, fun c1 hc1 => ?_⟩
        have ec : cutV [V.ref q1, V.int ((cnt (brokenL es ws) es.length m 0 : Nat) : Int), V.ref q3] none (some 2) = [V.ref q1, V.int ((cnt (brokenL es ws) es.length m 0 : Nat) : Int)] := cut_pre _ 2
        rw [ec]
        have x1 := Same.updf (o := .lst [V.ref q1, V.int ((cnt (brokenL es ws) es.length m 0 : Nat) : Int)]) hc1
        refine ⟨_, rfl, (by show 2 ≤ sizeLine; omega), fun a1 ha1 => ?_⟩
        have x2 := Same.updf (o := .lst [V.ref c1, V.ref lh]) ha1
        have x12 := x1.trans x2
        refine ⟨_, rfl, _, rfl, D6, zs, rfl, .inl (SqL.of (x12 _ _ hzs)), (by show 2 ≤ sizeLine; omega), fun a2 ha2 => ?_⟩
        rw [show ((zs.length : Nat) : Int) = ((cnt (brokenL es ws) es.length m 0 : Nat) : Int) by rw [← nEV, paired_len pz]] at *
        have x3 := Same.updf (o := .lst [V.ref D7, V.int ((cnt (brokenL es ws) es.length m 0 : Nat) : Int)]) ha2
        refine ⟨_, rfl, _, rfl, (by show 2 ≤ sizeLine; omega), fun a3 ha3 => ?_⟩
        have x4 := Same.updf (o := .lst [V.ref a, V.ref b]) ha3
        refine ⟨(by show 2 ≤ sizeLine; omega), fun a4 ha4 => ?_⟩
        have x5 := Same.updf (o := .lst [V.ref a2, V.ref a3]) ha4
        have x45 := x4.trans x5
        have x35 := x3.trans x45
        have x25 := x2.trans x35
        have x15 := x1.trans x25
        have tdx : ∀ (G : Hp) (z y1 y2 u1 u2 u3 : Addr), G u1 = some (.lst (numsV (ends (brokenL es ws)))) → RunAt K G u2 es → WtAt K G u3 ws → G y1 = some (.lst [.ref u1, .int ((cnt (brokenL es ws) es.length m 0 : Nat) : Int)]) → G y2 = some (.lst [.ref u2, .ref u3]) → G z = some (.lst [.ref y1, .ref y2]) →
            TD K G 9 (.ref z) (.list [.list [.list ((ends (brokenL es ws)).map fun x : Nat => PyData.int (x : Int)), .int ((cnt (brokenL es ws) es.length m 0 : Nat) : Int)], .list [.list (es.map Ev.d), .list (ws.map pd)]]) := fun G z y1 y2 u1 u2 u3 e1 e2 e3 e4 e5 e6 =>
          TD.lst e6 rfl (Nat.le_of_ble_eq_true rfl) (td_cons (TD.lst e4 rfl (Nat.le_of_ble_eq_true rfl) (td_cons (nums_td 6 e1 (by omega)) (td_cons (TD.flat (.int _)) td_nil))) (td_cons (TD.lst e5 rfl (Nat.le_of_ble_eq_true rfl) (td_cons (run_td 5 e2 (by omega)) (td_cons (wts_td 5 e3 WG.len) td_nil))) td_nil))
        refine ⟨.ref a1, .ref a4, _, rfl, tdx _ a1 c1 lh q1 l1 l2 (x15 _ _ h9) (R1.at_.same x15) (W2.at_.same x15) (x25 _ _ upd_same) (x15 _ _ f3) (x35 _ _ upd_same),
          tdx _ a4 a2 a3 D7 a b (x15 _ _ hE) (RG.at_.same x15) (WG.at_.same x15) (x45 _ _ upd_same) (x5 _ _ upd_same) upd_same, fun Gd sd => ⟨_, rfl, iteF ?_⟩⟩
        have x1e := x15.trans sd
        have h3 := h3.same x1e
        have htl := x1e _ _ htl
        refine ⟨_, rfl, _, rfl, _, rfl, tl, _, 2, .ref q3, rfl, rfl, SqL.of htl, atI_nat (j := 2) rfl, _, rfl, a, b, .ref q3, es, ws, .list ((apart (brokenL es ws)).map pd), 3, (by rw [em]; rfl), RG.same x1e, WG.same x1e, wts_td 1 h3 (by omega), fun Ge se => ?_⟩
        rw [apart_good WG.ok]
        refine ⟨_, rfl, iteF ?_⟩
        refine via_nx ?_
        have x1e := x1e.trans se
        have hA := h3.same se
        have htl := se _ _ htl
        obtain ⟨xs3, e3, l3, p3⟩ := WtAt.prs (hA.offp n3p (PG.same x1e))
        have e3 := off_le _ _ _ _ e3
        have Pl := PG.same x1e
        obtain ⟨L0, eL⟩ : ∃ X, X = Ge := ⟨_, rfl⟩
        rw [← eL] at Pl p3 e3 htl hA x1e ⊢
        clear eL sd se x1 x2 x12 x3 x4 x5 x45 x35 x25 x15 hc1 ha1 ha2 ha3 ha4
        have u0 : Same L0 L0 := Same.refl _
        refine fun d4 h4 => ?_
        have n_d4 : d4 ≠ pu := fresh_ne (Pl.same u0) h4
        have s101 := Same.updf (o := .dK []) h4
        have r_d4 := upd_same (H := L0) (a := d4) (o := .dK [])
        obtain ⟨L1, eG⟩ : ∃ X, X = upd L0 d4 (.dK []) := ⟨_, rfl⟩
        rw [← eG] at s101 r_d4 ⊢
        clear eG
        have u1 := u0.trans s101
        have f_d4 := (off_at n_d4).trans r_d4
        refine ⟨(by show 0 ≤ sizeLine; omega), fun d5 h5 => ?_⟩
        have n_d5 : d5 ≠ pu := fresh_ne (Pl.same u1) h5
        have s102 := Same.updf (o := .tup []) h5
        have r_d5 := upd_same (H := L1) (a := d5) (o := .tup [])
        obtain ⟨L2, eG⟩ : ∃ X, X = upd L1 d5 (.tup []) := ⟨_, rfl⟩
        rw [← eG] at s102 r_d5 ⊢
        clear eG
        have u2 := u1.trans s102
        have f_d5 := (off_at n_d5).trans r_d5
        refine ⟨_, rfl, tl, _, 2, .ref q3, rfl, rfl, SqL.of (u2 _ _ htl), atI_nat (j := 2) rfl, q3, _, rfl, .inl ⟨SqL.of (u2 _ _ e3), fun d6 h6 => ?_⟩⟩
        have n_d6 : d6 ≠ pu := fresh_ne (Pl.same u2) h6
        have s103 := Same.updf (o := .tup xs3) h6
        have r_d6 := upd_same (H := L2) (a := d6) (o := .tup xs3)
        obtain ⟨L3, eG⟩ : ∃ X, X = upd L2 d6 (.tup xs3) := ⟨_, rfl⟩
        rw [← eG] at s103 r_d6 ⊢
        clear eG
        have u3 := u2.trans s103
        have f_d6 := (off_at n_d6).trans r_d6
        refine ⟨_, rfl, tl, _, 2, .ref q3, rfl, rfl, SqL.of (u3 _ _ htl), atI_nat (j := 2) rfl, _, rfl, tl, _, 2, .ref q3, rfl, rfl, SqL.of (u3 _ _ htl), atI_nat (j := 2) rfl, _, rfl, _, rfl, q3, _, rfl, SqL.of (u3 _ _ e3), fun c7 h7 => ?_⟩
        have n_c7 : c7 ≠ pu := fresh_ne (Pl.same u3) h7
        have s104 := Same.updf (o := .lst (cutV xs3 (some (-1)) none)) h7
        have r_c7 := upd_same (H := L3) (a := c7) (o := .lst (cutV xs3 (some (-1)) none))
        obtain ⟨L4, eG⟩ : ∃ X, X = upd L3 c7 (.lst (cutV xs3 (some (-1)) none)) := ⟨_, rfl⟩
        rw [← eG] at s104 r_c7 ⊢
        clear eG
        have u4 := u3.trans s104
        have f_c7 := (off_at n_c7).trans r_c7
        have lc7 := cutV_length xs3 (some (-1)) none
        refine ⟨q3, c7, _, _, rfl, rfl, u4 _ _ e3, r_c7, by omega, fun d7 h7 => ?_⟩
        have n_d7 : d7 ≠ pu := fresh_ne (Pl.same u4) h7
        have s105 := Same.updf (o := .lst (xs3 ++ cutV xs3 (some (-1)) none)) h7
        have r_d7 := upd_same (H := L4) (a := d7) (o := .lst (xs3 ++ cutV xs3 (some (-1)) none))
        obtain ⟨L5, eG⟩ : ∃ X, X = upd L4 d7 (.lst (xs3 ++ cutV xs3 (some (-1)) none)) := ⟨_, rfl⟩
        rw [← eG] at s105 r_d7 ⊢
        clear eG
        have u5 := u4.trans s105
        have f_d7 := (off_at n_d7).trans r_d7
        refine ⟨_, rfl, tl, _, 2, .ref q3, rfl, rfl, SqL.of (u5 _ _ htl), atI_nat (j := 2) rfl, _, rfl, q3, _, rfl, SqL.of (u5 _ _ e3), fun d8 h8 => ?_⟩
        have lc8 := cutV_length xs3 (some 1) none
        have n_d8 : d8 ≠ pu := fresh_ne (Pl.same u5) h8
        have s106 := Same.updf (o := .lst (cutV xs3 (some 1) none)) h8
        have r_d8 := upd_same (H := L5) (a := d8) (o := .lst (cutV xs3 (some 1) none))
        obtain ⟨L6, eG⟩ : ∃ X, X = upd L5 d8 (.lst (cutV xs3 (some 1) none)) := ⟨_, rfl⟩
        rw [← eG] at s106 r_d8 ⊢
        clear eG
        have u6 := u5.trans s106
        have f_d8 := (off_at n_d8).trans r_d8
        refine ⟨_, rfl, tl, _, 2, .ref q3, rfl, rfl, SqL.of (u6 _ _ htl), atI_nat (j := 2) rfl, q3, _, rfl, SqL.of (u6 _ _ e3), fun d9 h9 => ?_⟩
        have n_d9 : d9 ≠ pu := fresh_ne (Pl.same u6) h9
        have s107 := Same.updf (o := .lst xs3.reverse) h9
        have r_d9 := upd_same (H := L6) (a := d9) (o := .lst xs3.reverse)
        obtain ⟨L7, eG⟩ : ∃ X, X = upd L6 d9 (.lst xs3.reverse) := ⟨_, rfl⟩
        rw [← eG] at s107 r_d9 ⊢
        clear eG
        have u7 := u6.trans s107
        have f_d9 := (off_at n_d9).trans r_d9
        refine ⟨(by show 1 ≤ sizeLine; omega), fun d10 h10 => ?_⟩
        have n_d10 : d10 ≠ pu := fresh_ne (Pl.same u7) h10
        have s108 := Same.updf (o := .lst [V.non]) h10
        have r_d10 := upd_same (H := L7) (a := d10) (o := .lst [V.non])
        obtain ⟨L8, eG⟩ : ∃ X, X = upd L7 d10 (.lst [V.non]) := ⟨_, rfl⟩
        rw [← eG] at s108 r_d10 ⊢
        clear eG
        have u8 := u7.trans s108
        have f_d10 := (off_at n_d10).trans r_d10
        refine ⟨_, rfl, _, rfl, tl, _, 2, .ref q3, rfl, rfl, SqL.of (u8 _ _ htl), atI_nat (j := 2) rfl, q3, rfl, ⟨_, SqL.of (u8 _ _ e3)⟩, fun d12 h12 => ?_⟩
        have n_d12 : d12 ≠ pu := fresh_ne (Pl.same u8) h12
        refine ls_rel (xs := apart (brokenL es ws)) (vv := wv) (fun _ => true) (fun w y H => ∃ c, y = .ref c ∧ c ≠ pu ∧ H c = some (.lst (wv w))) (fun w y H H' s ⟨c, e, n, h⟩ => ⟨c, e, n, s _ _ h⟩) (by omega) (hA.same u8) h12 ?_ ?_
        · rintro x t Ga Qy Qn hm sa hacc hx hxo ky_ kn
          refine ⟨rfl, _, rfl, t, _, rfl, .inr hx, fun l hl => ?_⟩
          obtain ⟨acc, hacc⟩ := hacc
          have nlD : l ≠ d12 := fun z => by rw [z, hacc] at hl; cases hl
          exact ky_ _ _ rfl (Same.updf hl) ⟨l, rfl, fresh_ne ((Pl.same u8).same sa) hl, by rw [off_at nlD, upd_same]⟩
        · intro L9 ys12 s109 r_d12 py12
          rw [List.filter_eq_self.mpr (fun _ _ => rfl)] at py12
          have u9 := u8.trans s109
          have f_d12 := (off_at n_d12).trans r_d12
          have l12 := paired_len py12
          refine ⟨(by show 0 ≤ sizeLine; omega), fun e13 h13 => ?_⟩
          have n_e13 : e13 ≠ pu := fresh_ne (Pl.same u9) h13
          have s110 := Same.updf (o := .tup []) h13
          have r_e13 := upd_same (H := L9) (a := e13) (o := .tup [])
          obtain ⟨L10, eG⟩ : ∃ X, X = upd L9 e13 (.tup []) := ⟨_, rfl⟩
          rw [← eG] at s110 r_e13 ⊢
          clear eG
          have u10 := u9.trans s110
          have f_e13 := (off_at n_e13).trans r_e13
          refine ⟨(by show 1 ≤ sizeLine; omega), fun d13 h13 => ?_⟩
          have n_d13 : d13 ≠ pu := fresh_ne (Pl.same u10) h13
          have s111 := Same.updf (o := .lst [V.ref e13]) h13
          have r_d13 := upd_same (H := L10) (a := d13) (o := .lst [V.ref e13])
          obtain ⟨L11, eG⟩ : ∃ X, X = upd L10 d13 (.lst [V.ref e13]) := ⟨_, rfl⟩
          rw [← eG] at s111 r_d13 ⊢
          clear eG
          have u11 := u10.trans s111
          have f_d13 := (off_at n_d13).trans r_d13
          refine ⟨_, rfl, tl, _, 2, .ref q3, rfl, rfl, SqL.of (u11 _ _ htl), atI_nat (j := 2) rfl, (by show 1 ≤ sizeLine; omega), fun c14 h14 => ?_⟩
          have n_c14 : c14 ≠ pu := fresh_ne (Pl.same u11) h14
          have s112 := Same.updf (o := .lst [V.non]) h14
          have r_c14 := upd_same (H := L11) (a := c14) (o := .lst [V.non])
          obtain ⟨L12, eG⟩ : ∃ X, X = upd L11 c14 (.lst [V.non]) := ⟨_, rfl⟩
          rw [← eG] at s112 r_c14 ⊢
          clear eG
          have u12 := u11.trans s112
          have f_c14 := (off_at n_c14).trans r_c14
          refine ⟨q3, c14, _, _, rfl, rfl, u12 _ _ e3, r_c14, by show _ + 1 ≤ _; omega, fun d14 h14 => ?_⟩
          have n_d14 : d14 ≠ pu := fresh_ne (Pl.same u12) h14
          have s113 := Same.updf (o := .lst (xs3 ++ [V.non])) h14
          have r_d14 := upd_same (H := L12) (a := d14) (o := .lst (xs3 ++ [V.non]))
          obtain ⟨L13, eG⟩ : ∃ X, X = upd L12 d14 (.lst (xs3 ++ [V.non])) := ⟨_, rfl⟩
          rw [← eG] at s113 r_d14 ⊢
          clear eG
          have u13 := u12.trans s113
          have f_d14 := (off_at n_d14).trans r_d14
          refine ⟨(by show 14 ≤ sizeLine; omega), fun v1 hv1 => ?_⟩
          have n_v1 : v1 ≠ pu := fresh_ne (Pl.same u13) hv1
          have s114 := Same.updf (o := .lst [V.non, V.int 5, V.str "", V.ref d4, V.ref d5, V.ref d6, V.ref d7, V.ref d8, V.ref d9, V.ref d10, V.ref b, V.ref d12, V.ref d13, V.ref d14]) hv1
          have r_v1 := upd_same (H := L13) (a := v1) (o := .lst [V.non, V.int 5, V.str "", V.ref d4, V.ref d5, V.ref d6, V.ref d7, V.ref d8, V.ref d9, V.ref d10, V.ref b, V.ref d12, V.ref d13, V.ref d14])
          obtain ⟨L14, eG⟩ : ∃ X, X = upd L13 v1 (.lst [V.non, V.int 5, V.str "", V.ref d4, V.ref d5, V.ref d6, V.ref d7, V.ref d8, V.ref d9, V.ref d10, V.ref b, V.ref d12, V.ref d13, V.ref d14]) := ⟨_, rfl⟩
          rw [← eG] at s114 r_v1 ⊢
          clear eG
          have u14 := u13.trans s114
          have f_v1 := (off_at n_v1).trans r_v1
          have t14 : Same L14 L14 := Same.refl _
          have t13 : Same L13 L14 := s114.trans t14
          have t12 : Same L12 L14 := s113.trans t13
          have t11 : Same L11 L14 := s112.trans t12
          have t10 : Same L10 L14 := s111.trans t11
          have t9 : Same L9 L14 := s110.trans t10
          have t8 : Same L8 L14 := s109.trans t9
          have t7 : Same L7 L14 := s108.trans t8
          have t6 : Same L6 L14 := s107.trans t7
          have t5 : Same L5 L14 := s106.trans t6
          have t4 : Same L4 L14 := s105.trans t5
          have t3 : Same L3 L14 := s104.trans t4
          have t2 : Same L2 L14 := s103.trans t3
          have t1 : Same L1 L14 := s102.trans t2
          have t0 : Same L0 L14 := s101.trans t1
          have p3 : ∀ x ∈ xs3, PrAt K (off L14 pu) x := fun x m => (p3 x m).same (off_same pu u14)
          have q3p : ∀ {xs : List V}, (∀ x ∈ xs, x ∈ xs3) → ∀ x ∈ xs, PrAt K (off L14 pu) x := fun h x m => p3 x (h x m)
          have w0 : ValV K (off L14 pu) (V.non) := flat_td (.non) 5
          have w1 : ValV K (off L14 pu) (V.int 5) := flat_td (.int 5) 5
          have w2 : ValV K (off L14 pu) (V.str "") := flat_td (.str _) 5
          have w3 : ValV K (off L14 pu) (V.ref d4) := ⟨_, TD.dct (n := 3) (ps := []) (m := fun _ => 0) ((off_same pu t1) _ _ f_d4) (by decide) List.nodup_nil⟩
          have w4 : ValV K (off L14 pu) (V.ref d5) := ValV.tup 0 (by decide) (SqT.of ((off_same pu t2) _ _ f_d5)) (by decide) (fun x h => nomatch h)
          have w5 : ValV K (off L14 pu) (V.ref d6) := ValV.tup 1 (by decide) (SqT.of ((off_same pu t3) _ _ f_d6)) (by omega) (fun x h => (p3 x h).td 0)
          have w6 : ValV K (off L14 pu) (V.ref d7) := ValV.prs ((off_same pu t5) _ _ f_d7) (by rw [List.length_append]; omega) (q3p fun x h => (List.mem_append.mp h).elim id cutV_mem)
          have w7 : ValV K (off L14 pu) (V.ref d8) := ValV.prs ((off_same pu t6) _ _ f_d8) (by omega) (q3p fun x h => cutV_mem h)
          have w8 : ValV K (off L14 pu) (V.ref d9) := ValV.prs ((off_same pu t7) _ _ f_d9) (by rw [List.length_reverse]; omega) (q3p fun x h => List.mem_reverse.mp h)
          have w9 : ValV K (off L14 pu) (V.ref d10) := ValV.lst 0 (by decide) ((off_same pu t8) _ _ f_d10) (by decide) (fun x h => by rw [List.mem_singleton.mp h]; exact flat_td .non 0)
          have w10 : ValV K (off L14 pu) (V.ref b) := (by obtain ⟨xs, e, l, c⟩ := WtAt.prs (WoG.same (off_same pu x1e)).at_; exact ValV.prs ((off_same pu t0) _ _ e) (by have := WG.len; omega) (fun x m => (c x m).same (off_same pu t0)))
          have w11 : ValV K (off L14 pu) (V.ref d12) := ValV.lst 1 (by decide) ((off_same pu t9) _ _ f_d12) (by omega) (fun y hy => by obtain ⟨i, hi, rfl⟩ := List.getElem_of_mem hy; obtain ⟨w, _, c, e, nc, hc⟩ := paired_get2 py12 (List.getElem?_eq_getElem hi); rw [e]; exact nums2_td ((off_same pu t9) _ _ ((off_at nc).trans (off_le _ _ _ _ hc))) 0)
          have w12 : ValV K (off L14 pu) (V.ref d13) := ValV.lst 1 (by decide) ((off_same pu t11) _ _ f_d13) (Nat.le_of_ble_eq_true rfl) (fun x h => by rw [List.mem_singleton.mp h]; exact ⟨_, TD.tup (n := 0) (SqT.of ((off_same pu t10) _ _ f_e13)) (ds := []) rfl (by decide) td_nil⟩)
          have w13 : ValV K (off L14 pu) (V.ref d14) := ValV.lst 1 (by decide) ((off_same pu t13) _ _ f_d14) (by rw [List.length_append]; show _ + 1 ≤ _; omega) (fun x h => (List.mem_append.mp h).elim (fun m => (p3 x m).td 0) (fun m => by rw [List.mem_singleton.mp m]; exact flat_td .non 1))
          have hV1 : ∀ x ∈ ([V.non, V.int 5, V.str "", V.ref d4, V.ref d5, V.ref d6, V.ref d7, V.ref d8, V.ref d9, V.ref d10, V.ref b, V.ref d12, V.ref d13, V.ref d14] : List V), ValV K (off L14 pu) x := fun x h => by
            simp only [List.mem_cons, List.not_mem_nil, or_false] at h
            rcases h with rfl | rfl | rfl | rfl | rfl | rfl | rfl | rfl | rfl | rfl | rfl | rfl | rfl | rfl
            · exact w0
            · exact w1
            · exact w2
            · exact w3
            · exact w4
            · exact w5
            · exact w6
            · exact w7
            · exact w8
            · exact w9
            · exact w10
            · exact w11
            · exact w12
            · exact w13
          clear w0 w1 w2 w3 w4 w5 w6 w7 w8 w9 w10 w11 w12 w13
          have x1L := x1e.trans u14
          have htl := u14 _ _ htl
          have hA := hA.same u14
          have e3 := u14 _ _ e3
          have Pl := Pl.same u14
          obtain ⟨L, eL⟩ : ∃ X, X = L14 := ⟨_, rfl⟩
          rw [← eL] at x1L htl hA e3 Pl hV1 r_v1 ⊢
          clear eL x1e t0 t1 t2 t3 t4 t5 t6 t7 t8 t9 t10 t11 t12 t13 t14 p3 q3p f_v1 f_d14 f_c14 f_d13 f_e13 f_d12 f_d10 f_d9 f_d8 f_d7 f_c7 f_d6 f_d5 f_d4 l12 py12 r_d12 r_d14 r_c14 r_d13 r_e13 r_d10 r_d9 r_d8 r_d7 r_c7 r_d6 r_d5 r_d4 u0 u1 u2 u3 u4 u5 u6 u7 u8 u9 u10 u11 u12 u13 u14
          obtain ⟨V1, eV1⟩ : ∃ X : List V, X = [V.non, V.int 5, V.str "", V.ref d4, V.ref d5, V.ref d6, V.ref d7, V.ref d8, V.ref d9, V.ref d10, V.ref b, V.ref d12, V.ref d13, V.ref d14] := ⟨_, rfl⟩
          have lV1 : V1.length = 14 := by rw [eV1]; rfl
          rw [← eV1] at hV1 r_v1
          clear eV1
          refine via_nx ?_
          refine norm (σ' := [some (.ref pu), some (.ref a), some (.ref b), some (.int (m : Nat)), none, some (.ref D6), some (.ref D7), some (.ref lh), some (.ref tl), some (.ref v1), none, none, none, none, none, none, none, none, none, none, none, none]) rfl ?_
          refine ⟨_, rfl, _, rfl, tl, _, 2, .ref q3, rfl, rfl, SqL.of htl, atI_nat (j := 2) rfl, q3, rfl, ⟨_, SqL.of e3⟩, fun D hD => ?_⟩
          have nD : D ≠ pu := fresh_ne Pl hD
          refine ls_rel (xs := apart (brokenL es ws)) (vv := wv) (fun _ => true) (fun w y H => ∃ T u v e f, y = .ref T ∧ T ≠ pu ∧ H T = some (.tup [u, v]) ∧ FlatD u e ∧ FlatD v f) (fun w y H H' s ⟨T, u, v, e, f, g1, g2, g3, g4⟩ => ⟨T, u, v, e, f, g1, g2, s _ _ g3, g4⟩) (by omega) hA hD ?_ ?_
          · rintro x t Ga Qy Qn hm sa hacc hx hxo ky_ kn
            obtain ⟨acc, hacc⟩ := hacc
            have fin : ∀ (u v : V) (e f : PyData) (T : Addr), FlatD u e → FlatD v f → Ga T = none → Qy (.ref T) (upd Ga T (.tup [u, v])) := fun u v e f T h1 h2 hT =>
              ky_ _ _ rfl (Same.updf hT) ⟨T, u, v, e, f, rfl, fresh_ne (Pl.same sa) hT, by rw [off_at (fun z => by rw [z, hacc] at hT; cases hT), upd_same], h1, h2⟩
            refine ⟨t, [_, _], rfl, hx, rfl, _, [_], rfl, _, [], rfl, rfl, rfl, ?_⟩
            refine ⟨_, rfl, _, _, rfl, rfl, _, rfl, ?_⟩
            by_cases c1 : x.1 < 2
            · refine iteP (by omega) ⟨_, rfl, rfl, ?_⟩
              refine ⟨_, rfl, _, _, rfl, rfl, _, rfl, ?_⟩
              by_cases c2 : x.2 < 2
              · refine iteP (by omega) ⟨_, rfl, rfl, ?_⟩
                exact ⟨(by show 2 ≤ sizeLine; omega), fun T hT => fin _ _ _ _ T (.bl _) (.bl _) hT⟩
              · refine iteQ (by omega) ⟨_, rfl, ?_⟩
                exact ⟨(by show 2 ≤ sizeLine; omega), fun T hT => fin _ _ _ _ T (.bl _) (.int _) hT⟩
            · refine iteQ (by omega) ⟨_, rfl, ?_⟩
              refine ⟨_, rfl, _, _, rfl, rfl, _, rfl, ?_⟩
              by_cases c2 : x.2 < 2
              · refine iteP (by omega) ⟨_, rfl, rfl, ?_⟩
                exact ⟨(by show 2 ≤ sizeLine; omega), fun T hT => fin _ _ _ _ T (.int _) (.bl _) hT⟩
              · refine iteQ (by omega) ⟨_, rfl, ?_⟩
                exact ⟨(by show 2 ≤ sizeLine; omega), fun T hT => fin _ _ _ _ T (.int _) (.int _) hT⟩
          · intro La ya sL ra pa
            rw [List.filter_eq_self.mpr (fun _ _ => rfl)] at pa
            have lpa := paired_len pa
            have Pa := Pl.same sL
            refine ⟨(by show 0 ≤ sizeLine; omega), fun e1 he1 => ?_⟩
            have n_e1 := fresh_ne Pa he1
            have x1 := Same.updf (o := .lst []) he1
            refine ⟨(by show 1 ≤ sizeLine; omega), fun g1 hg1 => ?_⟩
            have n_g1 := fresh_ne (Pa.same x1) hg1
            have x2 := Same.updf (o := .lst [V.ref e1]) hg1
            refine ⟨_, rfl, g1, _, [V.ref e1], rfl, rfl, upd_same, by omega, by omega, by rw [List.length_singleton]; omega, fun g2 hg2 => ?_⟩
            rw [Int.toNat_natCast]
            have n_g2 := fresh_ne ((Pa.same x1).same x2) hg2
            have x3 := Same.updf (o := .lst (List.replicate m [V.ref e1]).flatten) hg2
            have r_g2 := upd_same (H := upd (upd La e1 (.lst [])) g1 (.lst [V.ref e1])) (a := g2) (o := .lst (List.replicate m [V.ref e1]).flatten)
            have r_e1 := (x2.trans x3) _ _ (upd_same (H := La) (a := e1) (o := .lst []))
            have x13 := (x1.trans x2).trans x3
            obtain ⟨Lb, eG⟩ : ∃ X, X = upd (upd (upd La e1 (.lst [])) g1 (.lst [V.ref e1])) g2 (.lst (List.replicate m [V.ref e1]).flatten) := ⟨_, rfl⟩
            rw [← eG] at r_g2 r_e1 x13 ⊢
            clear eG x1 x2 x3 hg1 hg2 he1
            have Pb := Pa.same x13
            refine fun e2 he2 => ?_
            have n_e2 := fresh_ne Pb he2
            have x1 := Same.updf (o := .dK []) he2
            refine ⟨(by show 1 ≤ sizeLine; omega), fun g3 hg3 => ?_⟩
            have n_g3 := fresh_ne (Pb.same x1) hg3
            have x2 := Same.updf (o := .lst [V.ref e2]) hg3
            refine ⟨_, rfl, g3, _, [V.ref e2], rfl, rfl, upd_same, by omega, by omega, by rw [List.length_singleton]; omega, fun g4 hg4 => ?_⟩
            rw [Int.toNat_natCast]
            have n_g4 := fresh_ne ((Pb.same x1).same x2) hg4
            have x3 := Same.updf (o := .lst (List.replicate m [V.ref e2]).flatten) hg4
            have r_g4 := upd_same (H := upd (upd Lb e2 (.dK [])) g3 (.lst [V.ref e2])) (a := g4) (o := .lst (List.replicate m [V.ref e2]).flatten)
            have r_e2 := (x2.trans x3) _ _ (upd_same (H := Lb) (a := e2) (o := .dK []))
            have y13 := (x1.trans x2).trans x3
            obtain ⟨Lc, eG⟩ : ∃ X, X = upd (upd (upd Lb e2 (.dK [])) g3 (.lst [V.ref e2])) g4 (.lst (List.replicate m [V.ref e2]).flatten) := ⟨_, rfl⟩
            rw [← eG] at r_g4 r_e2 y13 ⊢
            clear eG x1 x2 x3 hg3 hg4 he2
            have Pc := Pb.same y13
            refine ⟨(by show 3 ≤ sizeLine; omega), fun c2 hc2 => ?_⟩
            have x4 := Same.updf (o := .lst [V.ref D, V.ref g2, V.ref g4]) hc2
            have r_c2 := upd_same (H := Lc) (a := c2) (o := .lst [V.ref D, V.ref g2, V.ref g4])
            have sLc := (sL.trans x13).trans (y13.trans x4)
            have hV2 : ∀ x ∈ ([V.ref D, V.ref g2, V.ref g4] : List V), ValV K (off (upd Lc c2 (.lst [V.ref D, V.ref g2, V.ref g4])) pu) x := fun x h => by
              simp only [List.mem_cons, List.not_mem_nil, or_false] at h
              rcases h with rfl | rfl | rfl
              · refine ValV.lst 1 (by decide) (off_same pu (x13.trans (y13.trans x4)) _ _ ((off_at nD).trans ra)) (by omega) fun y hy => ?_
                obtain ⟨i, hi, rfl⟩ := List.getElem_of_mem hy
                obtain ⟨w, _, T, u, v, e, f, g0, nT, hT, fu, fv⟩ := paired_get2 pa (List.getElem?_eq_getElem hi)
                rw [g0]
                exact ⟨.tuple [e, f], TD.tup (n := 0) (SqT.of (off_same pu (x13.trans (y13.trans x4)) _ _ ((off_at nT).trans (off_le _ _ _ _ hT)))) rfl (Nat.le_of_ble_eq_true rfl) (td_cons (TD.flat fu) (td_cons (TD.flat fv) td_nil))⟩
              · refine ValV.lst 1 (by decide) (off_same pu (y13.trans x4) _ _ ((off_at n_g2).trans r_g2)) (by rw [rep_len]; omega) fun y hy => ?_
                rw [rep_mem hy]
                exact ⟨.list [], TD.lst (n := 0) (off_same pu (y13.trans x4) _ _ ((off_at n_e1).trans r_e1)) rfl (by decide) td_nil⟩
              · refine ValV.lst 2 (by decide) (off_same pu x4 _ _ ((off_at n_g4).trans r_g4)) (by rw [rep_len]; omega) fun y hy => ?_
                rw [rep_mem hy]
                exact ⟨_, TD.dct (n := 0) (ps := []) (m := fun _ => 0) (off_same pu x4 _ _ ((off_at n_e2).trans r_e2)) (by decide) List.nodup_nil⟩
            refine ⟨v1, c2, V1, _, rfl, rfl, sLc _ _ r_v1, r_c2, by rw [lV1]; show 14 + 3 ≤ _; omega, fun v2 hv2 => ?_⟩
            have hVals := ValsAt.cat (n := 17) (fresh_ne (Pc.same x4) hv2) (sLc _ _ r_v1) (by rw [lV1]; show 14 + 3 ≤ _; omega) (fun x h => (hV1 x h).same (off_same pu sLc)) hV2 hv2
            have x5 := Same.updf (o := .lst (V1 ++ [V.ref D, V.ref g2, V.ref g4])) hv2
            have sLd := sLc.trans x5
            obtain ⟨Ld, eG⟩ : ∃ X, X = upd (upd Lc c2 (.lst [V.ref D, V.ref g2, V.ref g4])) v2 (.lst (V1 ++ [V.ref D, V.ref g2, V.ref g4])) := ⟨_, rfl⟩
            rw [← eG] at hVals sLd ⊢
            clear eG hV2 x5 x4 r_c2 sLc hv2 hc2 r_e2 r_g4 Pc Pb Pa r_g2 r_e1 x13 y13 pa ra sL hV1 r_v1 lV1 hD nD n_e1 n_g1 n_g2 n_e2 n_g3 n_g4 lpa
            have x1d := x1L.trans sLd
            have htl := sLd _ _ htl
            have e3 := sLd _ _ e3
            have Pd := Pl.same sLd
            have RoD := RoG.same (off_same pu x1d)
            have WoD := WoG.same (off_same pu x1d)
            have TdD := tabs_same x1d Tc
            have wA := (hA.same sLd).offp n3p Pd
            have eD := (off_same pu x1d) _ _ ((off_at n7p).trans hE)
            have zD := (off_same pu x1d) _ _ ((off_at n6p).trans hzs)
            clear hA sLd x1L Pl
            refine via_nx ?_
            refine norm (σ' := [some (.ref pu), some (.ref a), some (.ref b), some (.int (m : Nat)), none, some (.ref D6), some (.ref D7), some (.ref lh), some (.ref tl), some (.ref v2), none, none, none, none, none, none, none, none, none, none, none, none]) rfl ?_
            refine ⟨_, rfl, a, es, rfl, RoD.same (off_le _ _), by omega, fun qp wp Le sp npq hWp => ?_⟩
            have nqp : qp ≠ pu := fresh_ne Pd npq
            have Pe := Pd.same sp
            have hWpo := hWp.at_.offp nqp Pe
            have hVals := hVals.but (But.of sp)
            obtain ⟨xp, e_p, lxp, kp⟩ := WtAt.prs hWpo
            have lwp := hWp.len
            have e_pe := off_le _ _ _ _ e_p
            have RoE := RoD.same (off_same pu sp)
            have WoE := WoD.same (off_same pu sp)
            have TdE := tabs_same sp TdD
            have htl := sp _ _ htl
            have e3 := sp _ _ e3
            have wA := wA.same (off_same pu sp)
            have eD := (off_same pu sp) _ _ eD
            have zD := (off_same pu sp) _ _ zD
            have x1e := x1d.trans sp
            clear x1d sp RoD WoD TdD Pd npq
            refine via_nx ?_
            refine norm (σ' := [some (.ref pu), some (.ref a), some (.ref b), some (.int (m : Nat)), none, some (.ref D6), some (.ref D7), some (.ref lh), some (.ref tl), some (.ref v2), none, some (.ref qp), none, none, none, none, none, none, none, none, none, none]) rfl ?_
            refine ⟨_, rfl, ?_⟩
            refine ⟨(3 : Int), rfl, by decide, by decide, fun F1 hF1 => ?_⟩
            rw [show (3 : Int).toNat = 3 from rfl]
            have nF1 : F1 ≠ pu := fresh_ne Pe hF1
            refine lc_but (n := 3) (pu := pu) (N := N) (cost := 1000) (walk_range (lo := 0) (n := 3)) (fun _ y G => ValV K G y) (fun _ y G G' s h => h.same s) (by omega) Pe hF1 (fun G _ => trivial) ?_ ?_
            · rintro i x Ga Gb Qy Qn hi ba Pa hacc ⟨rfl, rfl⟩ ky_
              obtain ⟨acc, hacc⟩ := hacc
              refine ⟨rfl, _, rfl, _, rfl, pu, qp, N + 1000 * i, xp, rfl, Pa, by omega, nqp, ba _ _ nqp e_pe, by omega, fun q L' G1 b1 P1 n1 h1 pm => ?_⟩
              refine ⟨_, rfl, _, rfl, q, _, rfl, SqL.of h1, fun c hc => ?_⟩
              have sc := Same.updf (o := .lst (cutV L' none (some (m : Int)))) hc
              have bc := (ba.trans b1).trans (But.of sc)
              have lc := cutV_length L' none (some (m : Int))
              have lp := pm.length_eq
              refine ⟨c, _, rfl, SqL.of upd_same, (fun x h => ((kp x (pm.mem_iff.mp (cutV_mem h))).same (but_off bc)).same (off_le _ _)), fun p ys hp pm2 => ?_⟩
              have sp := Same.updf (o := .lst ys) hp
              have bp := bc.trans (But.of sp)
              have np : p ≠ pu := fresh_ne (P1.same sc) hp
              have npF : p ≠ F1 := fun z => by
                rw [z] at hp
                have := sc _ _ (b1 _ _ nF1 hacc)
                rw [hp] at this
                cases this
              have l2 := pm2.length_eq
              refine ky_ _ _ ((b1.trans (But.of sc)).trans (But.of sp)) (((P1.same sc).same sp).mono (by omega)) (ValV.prs (off2_at npF np upd_same) (by omega) (fun x h => ((kp x (pm.mem_iff.mp (cutV_mem (pm2.mem_iff.mp h)))).same (off_off2 bp hF1))))
            · intro Lf ysF1 bF1 Pf hysF1 pyF1
              have hvF : ∀ x ∈ ysF1, ValV K (off Lf pu) x := fun x h => by
                obtain ⟨i, hi, rfl⟩ := List.getElem_of_mem h
                obtain ⟨_, _, r⟩ := paired_get2 pyF1 (List.getElem?_eq_getElem hi)
                exact r.same off2_le
              have lF1 := paired_len pyF1
              rw [List.length_range] at lF1
              obtain ⟨nv2, xs2, ev2, lv2, kv2⟩ := hVals
              refine ⟨v2, F1, xs2, ysF1, rfl, rfl, bF1 _ _ nv2 ev2, hysF1, by omega, fun v3 hv3 => ?_⟩
              have hVals := ValsAt.cat (n := 20) (fresh_ne Pf hv3) (bF1 _ _ nv2 ev2) (by omega) (fun x h => (kv2 x h).same (but_off bF1)) hvF hv3
              have x5 := Same.updf (o := .lst (xs2 ++ ysF1)) hv3
              have bg := bF1.trans (But.of x5)
              have Pg := Pf.same x5
              obtain ⟨Lg, eG⟩ : ∃ X, X = upd Lf v3 (.lst (xs2 ++ ysF1)) := ⟨_, rfl⟩
              rw [← eG] at hVals bg Pg ⊢
              clear eG x5 hv3 hvF pyF1 hysF1 bF1 Pf ev2 kv2
              have htl := bg _ _ ntp htl
              have e3 := bg _ _ n3p e3
              have e_pe := bg _ _ nqp e_pe
              have RoG := RoE.same (but_off bg)
              have WoG := WoE.same (but_off bg)
              have TdG := tabs_but bg (pul Pe) TdE
              have wA := wA.same (but_off bg)
              have eD := but_off bg _ _ eD
              have zD := but_off bg _ _ zD
              have hWpo := hWpo.same (but_off bg)
              have bG : But pu Gc Lg := (But.of x1e).trans bg
              clear x1e bg RoE WoE TdE Pe
              refine via_nx ?_
              refine norm (σ' := [some (.ref pu), some (.ref a), some (.ref b), some (.int (m : Nat)), none, some (.ref D6), some (.ref D7), some (.ref lh), some (.ref tl), some (.ref v3), none, some (.ref qp), none, none, none, none, none, none, none, none, none, none]) rfl ?_
              refine ⟨_, rfl, _, rfl, qp, rfl, ⟨_, SqL.of e_pe⟩, fun F2 hF2 => ?_⟩
              have nF2 : F2 ≠ pu := fresh_ne Pg hF2
              refine ls_rel (xs := wp) (vv := wv) (fun w => !((ws.map pd).any fun z => PyData.eqv z (pd w))) (fun _ y G => PrAt K G y) (fun _ y G G' s h => h.same s) (by omega) (hWpo.same (off_le _ _)) hF2 ?_ ?_
              · rintro x t Ga Qy Qn hm sa hacc hx hxo ky_ kn
                refine ⟨rfl, _, rfl, _, rfl, pd x, ws.map pd, pd_dp hx, LsT.dp pd_dp ((WoG.same (off_le _ _)).at_.same sa), shaped_pd _, shaped_wts _, _, rfl, ?_⟩
                cases q : !((ws.map pd).any fun z => PyData.eqv z (pd x)) with
                | true => exact iteT ⟨_, rfl, ky_ _ _ q (Same.refl _) ⟨x, t, rfl, hxo⟩⟩
                | false => exact iteF (kn _ q (Same.refl _))
              · intro Lh ysh sh hysh pyh
                have lyh := paired_len pyh
                have lff := List.length_filter_le (fun w => !((ws.map pd).any fun z => PyData.eqv z (pd w))) wp
                refine ⟨pu, F2, N + 1000 * 3, ysh, rfl, Pg.same sh, by omega, nF2, hysh, by omega, fun q L' Li b1 Pi n1 h1 pm => ?_⟩
                refine ⟨_, rfl, q, _, rfl, SqL.of h1, fun c hc => ⟨c, rfl, ⟨_, SqL.of upd_same⟩, ?_⟩⟩
                rw [show cutV L' none (some 3) = L'.take 3 from cut_pre _ 3]
                have sc := Same.updf (o := .lst (L'.take 3)) hc
                have rc := upd_same (H := Li) (a := c) (o := .lst (L'.take 3))
                have bi : But pu Lg (upd Li c (.lst (L'.take 3))) := ((But.of sh).trans b1).trans (But.of sc)
                have lt3 : (L'.take 3).length ≤ 3 := by rw [List.length_take]; omega
                have kt : ∀ x ∈ L'.take 3, PrAt K (off Lh pu) x := fun x h => by
                  obtain ⟨i, hi, rfl⟩ := List.getElem_of_mem (pm.mem_iff.mp (List.mem_of_mem_take h))
                  obtain ⟨_, _, r⟩ := paired_get2 pyh (List.getElem?_eq_getElem hi)
                  obtain ⟨w, t, e, r⟩ := r
                  exact ⟨w, t, e, offT (pul (Pg.same sh)) (SqT_up (off_le _ _) r)⟩
                have kt : ∀ x ∈ L'.take 3, PrAt K (off (upd Li c (.lst (L'.take 3))) pu) x := fun x h => (kt x h).same (but_off (b1.trans (But.of sc)))
                have Pj := (Pi.same sc).mono (show N + 1000 * 3 + ysh.length ≤ N + 4000 by omega)
                obtain ⟨Lj, eG⟩ : ∃ X, X = upd Li c (.lst (L'.take 3)) := ⟨_, rfl⟩
                rw [← eG] at rc bi kt Pj ⊢
                clear eG sc hc h1 n1 Pi b1 pm hysh pyh lyh lff sh hF2 nF2
                obtain ⟨Y, eY⟩ : ∃ X, X = L'.take 3 := ⟨_, rfl⟩
                rw [← eY] at rc kt lt3
                clear eY
                have hVals := hVals.but bi
                have htl := bi _ _ ntp htl
                have e3 := bi _ _ n3p e3
                have RoG := RoG.same (but_off bi)
                have WoG := WoG.same (but_off bi)
                have TdG := tabs_but bi (pul Pg) TdG
                have wA := wA.same (but_off bi)
                have eD := but_off bi _ _ eD
                have zD := but_off bi _ _ zD
                have bG : But pu Gc Lj := bG.trans bi
                clear bi Pg
                have kA : ∀ x ∈ xs3, PrAt K (off Lj pu) x := by
                  obtain ⟨xs, e, _, kk⟩ := WtAt.prs wA
                  have e := off_le _ _ _ _ e
                  rw [e3] at e
                  rw [HO.lst.inj (Option.some.inj e)]
                  exact kk
                refine for_list (xs := Y) (fun i σ G => Same Lj G ∧ ∃ v v10, ValsAt K pu G v (20 + 9 * i) ∧ σ = [some (.ref pu), some (.ref a), some (.ref b), some (.int (m : Nat)), none, some (.ref D6), some (.ref D7), some (.ref lh), some (.ref tl), some (.ref v), v10, some (.ref qp), none, none, none, none, none, none, none, none, none, none])
                  ⟨Same.refl _, v3, none, hVals, rfl⟩ (fun i σ G _ hh => SqL.of (hh.1 _ _ rc)) ?_ ?_
                · rintro i y σ G hy ⟨sG, v, v10, ⟨nv, xsv, ev, lv, kv⟩, rfl⟩
                  have hi := (List.getElem?_eq_some_iff.mp hy).1
                  have PrY := kt y (List.mem_of_getElem? hy)
                  have htl := sG _ _ htl
                  have e3 := sG _ _ e3
                  have PG := Pj.same sG
                  refine ⟨_, rfl, _, rfl, (m : Int), rfl, by omega, by omega, fun D hD => ?_⟩
                  rw [Int.toNat_natCast]
                  have nD : D ≠ pu := fresh_ne PG hD
                  refine lc_rel (walk_range (lo := 0) (n := m)) (fun _ => true) (fun _ z G => ∃ p zs, z = .ref p ∧ p ≠ pu ∧ G p = some (.lst zs) ∧ zs.length ≤ 30 ∧ ∀ u ∈ zs, u ∈ y :: xs3) (fun _ z G G' s ⟨p, zs, e, n, h, r⟩ => ⟨p, zs, e, n, s _ _ h, r⟩) (by omega) hD (fun _ _ => trivial) ?_ ?_
                  · rintro k x Ga Gb Qy Qn hk sa hacc ⟨rfl, rfl⟩ ky_ kn
                    obtain ⟨acc, hacc⟩ := hacc
                    have htl := sa _ _ htl
                    have e3 := sa _ _ e3
                    refine ⟨rfl, _, rfl, tl, _, 2, .ref q3, rfl, rfl, SqL.of htl, atI_nat (j := 2) rfl, _, rfl, _, rfl, q3, _, rfl, SqL.of e3, fun c1 hc1 => ?_⟩
                    have z1 := Same.updf (o := .lst (cutV xs3 none (some (0 + (k : Int))))) hc1
                    refine ⟨_, rfl, (by show 1 ≤ sizeLine; omega), fun c2 hc2 => ?_⟩
                    have z2 := Same.updf (o := .lst [y]) hc2
                    have lc1 := cutV_length xs3 none (some (0 + (k : Int)))
                    refine ⟨c1, c2, _, _, rfl, rfl, z2 _ _ upd_same, upd_same, by show _ + 1 ≤ _; omega, fun c3 hc3 => ?_⟩
                    have z3 := Same.updf (o := .lst (cutV xs3 none (some (0 + (k : Int))) ++ [y])) hc3
                    have z13 := (z1.trans z2).trans z3
                    refine ⟨_, rfl, tl, _, 2, .ref q3, rfl, rfl, SqL.of (z13 _ _ htl), atI_nat (j := 2) rfl, _, rfl, _, _, rfl, rfl, _, rfl, q3, _, rfl, SqL.of (z13 _ _ e3), fun c4 hc4 => ?_⟩
                    have z4 := Same.updf (o := .lst (cutV xs3 (some (0 + (k : Int) + 1)) none)) hc4
                    have lc4 := cutV_length xs3 (some (0 + (k : Int) + 1)) none
                    refine ⟨c3, c4, _, _, rfl, rfl, z4 _ _ upd_same, upd_same, by rw [List.length_append]; show _ + 1 + _ ≤ _; omega, fun p hp => ?_⟩
                    have z14 := z13.trans z4
                    have z5 := z14.trans (Same.updf (o := .lst ((cutV xs3 none (some (0 + (k : Int))) ++ [y]) ++ cutV xs3 (some (0 + (k : Int) + 1)) none)) hp)
                    have npD : p ≠ D := fun z => by
                      rw [z] at hp
                      have := z14 _ _ hacc
                      rw [hp] at this
                      cases this
                    refine ky_ _ _ rfl z5 ⟨p, _, rfl, fresh_ne ((PG.same sa).same z14) hp, by rw [off_at npD, upd_same], by rw [List.length_append, List.length_append]; show _ + 1 + _ ≤ _; omega, fun u hu => ?_⟩
                    rcases List.mem_append.mp hu with hu | hu
                    · rcases List.mem_append.mp hu with hu | hu
                      · exact List.mem_cons_of_mem _ (cutV_mem hu)
                      · rw [List.mem_singleton.mp hu]
                        exact List.mem_cons_self
                    · exact List.mem_cons_of_mem _ (cutV_mem hu)
                  · intro Gd yd sd hyd pyd
                    rw [List.filter_eq_self.mpr (fun _ _ => rfl)] at pyd
                    have lyd := paired_len pyd
                    rw [List.length_range] at lyd
                    have hvD : ∀ x ∈ yd, ValV K (off Gd pu) x := fun x h => by
                      obtain ⟨k, hk, rfl⟩ := List.getElem_of_mem h
                      obtain ⟨_, _, p, zs, e, n, h, l30, mm⟩ := paired_get2 pyd (List.getElem?_eq_getElem hk)
                      rw [e]
                      refine ValV.prs ((off_at n).trans (off_le _ _ _ _ h)) (by omega) fun u hu => ?_
                      have sj := off_same pu (sG.trans sd)
                      rcases List.mem_cons.mp (mm u hu) with q | q
                      · rw [q]
                        exact PrY.same sj
                      · exact (kA u q).same sj
                    refine ⟨v, D, xsv, yd, rfl, rfl, sd _ _ ev, hyd, by omega, fun v4 hv4 => ?_⟩
                    have hVals := ValsAt.cat (n := 20 + 9 * (i + 1)) (fresh_ne (PG.same sd) hv4) (sd _ _ ev) (by omega) (fun x h => (kv x h).same (off_same pu sd)) hvD hv4
                    exact ⟨(sG.trans sd).trans (Same.updf hv4), _, _, hVals, rfl⟩
                · rintro σ Lk ⟨sk, v4, v10, hVals, rfl⟩
                  refine via_nx ?_
                  refine norm (σ' := [some (.ref pu), some (.ref a), some (.ref b), some (.int (m : Nat)), none, some (.ref D6), some (.ref D7), some (.ref lh), some (.ref tl), some (.ref v4), v10, some (.ref qp), none, none, none, none, none, none, none, none, none, none]) rfl ?_
                  have Pk := Pj.same sk
                  have hVals : ValsAt K pu Lk v4 50 := by
                    obtain ⟨c1, xs, c2, c3, c4⟩ := hVals
                    exact ⟨c1, xs, c2, by omega, c4⟩
                  have htl := sk _ _ htl
                  have e3 := sk _ _ e3
                  have kA : ∀ x ∈ xs3, PrAt K (off Lk pu) x := fun x h => (kA x h).same (off_same pu sk)
                  have RoG := RoG.same (off_same pu sk)
                  have WoG := WoG.same (off_same pu sk)
                  have TdG := tabs_same sk TdG
                  have wA := wA.same (off_same pu sk)
                  have eD := off_same pu sk _ _ eD
                  have zD := off_same pu sk _ _ zD
                  have bG := bG.trans (But.of sk)
                  clear sk Pj kt rc
                  obtain ⟨xw, e_w, lxw, kw⟩ := WtAt.prs WoG.at_
                  have e_we := off_le _ _ _ _ e_w
                  have lwG := WoG.len
                  refine ⟨_, rfl, ?_⟩
                  refine ⟨(6 : Int), rfl, by decide, by decide, fun F3 hF3 => ?_⟩
                  rw [show (6 : Int).toNat = 6 from rfl]
                  have nF3 : F3 ≠ pu := fresh_ne Pk hF3
                  refine lc_but (n := 6) (pu := pu) (N := (N + 4000)) (cost := 1000) (walk_range (lo := 0) (n := 6)) (fun _ y G => ValV K G y) (fun _ y G G' s h => h.same s) (by omega) Pk hF3 (fun G _ => trivial) ?_ ?_
                  · rintro i x Ga Gb Qy Qn hi ba Pa hacc ⟨rfl, rfl⟩ ky_
                    obtain ⟨acc, hacc⟩ := hacc
                    refine ⟨rfl, _, rfl, _, rfl, pu, b, (N + 4000) + 1000 * i, xw, rfl, Pa, by omega, nb, ba _ _ nb e_we, by omega, fun q L' G1 b1 P1 n1 h1 pm => ?_⟩
                    refine ⟨_, rfl, _, rfl, q, _, rfl, SqL.of h1, fun c hc => ?_⟩
                    have sc := Same.updf (o := .lst (cutV L' none (some (m : Int)))) hc
                    have bc := (ba.trans b1).trans (But.of sc)
                    have lc := cutV_length L' none (some (m : Int))
                    have lp := pm.length_eq
                    refine ⟨c, _, rfl, SqL.of upd_same, (fun x h => ((kw x (pm.mem_iff.mp (cutV_mem h))).same (but_off bc)).same (off_le _ _)), fun p ys hp pm2 => ?_⟩
                    have sp := Same.updf (o := .lst ys) hp
                    have bp := bc.trans (But.of sp)
                    have np : p ≠ pu := fresh_ne (P1.same sc) hp
                    have npF : p ≠ F3 := fun z => by
                      rw [z] at hp
                      have := sc _ _ (b1 _ _ nF3 hacc)
                      rw [hp] at this
                      cases this
                    have l2 := pm2.length_eq
                    refine ky_ _ _ ((b1.trans (But.of sc)).trans (But.of sp)) (((P1.same sc).same sp).mono (by omega)) (ValV.prs (off2_at npF np upd_same) (by omega) (fun x h => ((kw x (pm.mem_iff.mp (cutV_mem (pm2.mem_iff.mp h)))).same (off_off2 bp hF3))))
                  · intro Lm ysF3 bF3 Pm hysF3 pyF3
                    have hvF : ∀ x ∈ ysF3, ValV K (off Lm pu) x := fun x h => by
                      obtain ⟨i, hi, rfl⟩ := List.getElem_of_mem h
                      obtain ⟨_, _, r⟩ := paired_get2 pyF3 (List.getElem?_eq_getElem hi)
                      exact r.same off2_le
                    have lF3 := paired_len pyF3
                    rw [List.length_range] at lF3
                    obtain ⟨nv2, xs2, ev2, lv2, kv2⟩ := hVals
                    refine ⟨v4, F3, xs2, ysF3, rfl, rfl, bF3 _ _ nv2 ev2, hysF3, by omega, fun v5 hv5 => ?_⟩
                    have nv5 := fresh_ne Pm hv5
                    have x5 := Same.updf (o := .lst (xs2 ++ ysF3)) hv5
                    have r5 := upd_same (H := Lm) (a := v5) (o := .lst (xs2 ++ ysF3))
                    have b5 := bF3.trans (But.of x5)
                    refine ⟨_, rfl, tl, _, 2, .ref q3, rfl, rfl, SqL.of (b5 _ _ ntp htl), atI_nat (j := 2) rfl, (by show 1 ≤ sizeLine; omega), fun c6 hc6 => ?_⟩
                    have x6 := Same.updf (o := .lst [V.ref q3]) hc6
                    refine ⟨v5, c6, _, _, rfl, rfl, x6 _ _ r5, upd_same, by rw [List.length_append]; show _ + 1 ≤ _; omega, fun v6 hv6 => ?_⟩
                    have b6 := b5.trans (But.of x6)
                    have hVals := ValsAt.cat (n := 60) (ys := [V.ref q3]) (fresh_ne ((Pm.same x5).same x6) hv6) (x6 _ _ r5) (by rw [List.length_append]; show _ + 1 ≤ _; omega) (fun x h => (List.mem_append.mp h).elim (fun h => (kv2 x h).same (but_off b6)) (fun h => (hvF x h).same (off_same pu (x5.trans x6)))) (fun x h => by
                      rw [List.mem_singleton.mp h]
                      exact ⟨_, td_up (wts_td 1 (wA.same (but_off b6)) (by omega)) (by decide)⟩) hv6
                    have x7 := Same.updf (o := .lst ((xs2 ++ ysF3) ++ [V.ref q3])) hv6
                    have b7 := b6.trans (But.of x7)
                    have Pn := ((Pm.same x5).same x6).same x7
                    obtain ⟨Ln, eG⟩ : ∃ X, X = upd (upd (upd Lm v5 (.lst (xs2 ++ ysF3))) c6 (.lst [V.ref q3])) v6 (.lst ((xs2 ++ ysF3) ++ [V.ref q3])) := ⟨_, rfl⟩
                    rw [← eG] at hVals b7 Pn ⊢
                    have htl := b7 _ _ ntp htl
                    have e3 := b7 _ _ n3p e3
                    have RoG := RoG.same (but_off b7)
                    have WoG := WoG.same (but_off b7)
                    have TdG := tabs_but b7 (pul Pk) TdG
                    have eD := but_off b7 _ _ eD
                    have zD := but_off b7 _ _ zD
                    have bG := bG.trans b7
                    clear eG x5 x6 x7 b5 b6 b7 r5 hv5 hv6 hc6 hvF pyF3 hysF3 bF3 Pm ev2 kv2 Pk wA kA kw e_w e_we hF3 nF3
                    refine via_nx ?_
                    refine norm (σ' := [some (.ref pu), some (.ref a), some (.ref b), some (.int (m : Nat)), none, some (.ref D6), some (.ref D7), some (.ref lh), some (.ref tl), some (.ref v6), v10, some (.ref qp), none, none, none, none, none, none, none, none, none, none]) rfl ?_
                    obtain ⟨nv6, xs6, ev6, lv6, kv6⟩ := hVals
                    refine ⟨_, rfl, v6, rfl, ⟨_, SqL.of ev6⟩, ?_⟩
                    refine for_list (xs := xs6) (fun i σ G => ExtN Ln G ∧ Tabs (TbK K) G ∧ ∃ v12 v13, σ = [some (.ref pu), some (.ref a), some (.ref b), some (.int (m : Nat)), none, some (.ref D6), some (.ref D7), some (.ref lh), some (.ref tl), some (.ref v6), v10, some (.ref qp), v12, v13, none, none, none, none, none, none, none, none])
                      ⟨ExtN.of (Same.refl _), TdG, none, none, rfl⟩ (fun i σ G _ hh => SqL.of (hh.1 _ _ ev6 nt)) ?_ ?_
                    · rintro i y σ G hy ⟨eG, TG, v12, v13, rfl⟩
                      obtain ⟨d, hd⟩ := (kv6 y (List.mem_of_getElem? hy)).same (off_le _ _)
                      have hd := td_up (TD.ext eG hd) (show 5 ≤ 8 by decide)
                      refine ⟨_, rfl, y, d, rfl, hd, fun kpt G1 s1 hk => ?_⟩
                      have hk := hk.same (nw_le _ _)
                      have eG1 := eG.trans (ExtN.of s1)
                      have hd := hd.same s1
                      refine ⟨_, rfl, _, rfl, _, rfl, a, b, y, es, ws, d, 8, rfl, (RoG.same (off_le _ _)).ext eG1, (WoG.same (off_le _ _)).ext eG1, tabs_same s1 TG, hd, fun G2 e2 T2 => ?_⟩
                      have eG2 := eG1.trans e2
                      have hd := TD.ext e2 hd
                      have hk := TD.ext e2 hk
                      refine ⟨_, rfl, (by show 2 ≤ sizeLine; omega), fun z1 hz1 => ?_⟩
                      have w1 := Same.updf (o := .lst [V.bl (apartB es ws d), y]) hz1
                      have eG3 := eG2.trans (ExtN.of w1)
                      refine ⟨_, rfl, _, rfl, _, rfl, _, rfl, a, b, y, es, ws, d, 8, (by rw [em]; rfl), (RoG.same (off_le _ _)).ext eG3, (WoG.same (off_le _ _)).ext eG3, hd.same w1, fun G4 s4 => ?_⟩
                      refine ⟨_, rfl, (by show 2 ≤ sizeLine; omega), fun z2 hz2 => ?_⟩
                      have w2 := Same.updf (o := .lst [V.bl (apartB es ws d), kpt]) hz2
                      have w14 := w1.trans (s4.trans w2)
                      refine ⟨.ref z1, .ref z2, .list [.bool (apartB es ws d), d], rfl, TD.lst ((s4.trans w2) _ _ upd_same) rfl (Nat.le_of_ble_eq_true rfl) (td_cons (TD.flat (.bl _)) (td_cons (hd.same w14) td_nil)), TD.lst upd_same rfl (Nat.le_of_ble_eq_true rfl) (td_cons (TD.flat (.bl _)) (td_cons (hk.same w14) td_nil)), fun G5 s5 => ⟨_, rfl, iteF ?_⟩⟩
                      exact ⟨eG2.trans (ExtN.of (w14.trans s5)), tabs_same (w14.trans s5) T2, _, _, rfl⟩
                    · rintro σ Lo ⟨eo, To, v12, v13, rfl⟩
                      refine via_nx ?_
                      have Po := purse_ext eo Pn
                      have RoG := RoG.ext (butN_off (ButN.ofN eo))
                      have WoG := WoG.ext (butN_off (ButN.ofN eo))
                      have eD := eo _ _ (off_le _ _ _ _ eD) nt
                      have zD := eo _ _ (off_le _ _ _ _ zD) nt
                      have e9 := eo _ _ (bG _ _ n1p h9q) nt
                      have htl := eo _ _ htl nt
                      have e3 := eo _ _ e3 nt
                      have kz : ∀ y ∈ zs, PlV pu es.length Lo y := fun y h => ((kz y h).but bG).ext eo
                      have kB : ButN pu H Lo := (ButN.ofN eH).trans ((ButN.of bG).trans (ButN.ofN eo))
                      clear eo bG TdG Pn ev6 kv6 nv6
                      refine norm (σ' := [some (.ref pu), some (.ref a), some (.ref b), some (.int (m : Nat)), none, some (.ref D6), some (.ref D7), some (.ref lh), some (.ref tl), some (.ref v6), v10, some (.ref qp), v12, v13, none, none, none, none, none, none, none, none]) rfl ?_
                      obtain ⟨to, ho, lto, _⟩ := id RoG.at_
                      have hO : Lo a = some (.lst (to.map V.ref)) := off_le _ _ _ _ ho
                      refine ⟨(by show 0 ≤ sizeLine; omega), fun p1 hp1 => ?_⟩
                      have y1 := Same.updf (o := .lst []) hp1
                      have np1 := fresh_ne Po hp1
                      refine ⟨_, rfl, _, rfl, a, _, rfl, .inl (SqL.of (y1 _ _ hO)), _, rfl, by rw [List.length_map, lto]; exact RgOk.of_le (by omega) (by omega) (by omega) (by omega), fun p2 hp2 => ?_⟩
                      rw [List.length_map, lto, rgV_nat]
                      have y2 := Same.updf (o := .lst (numsV (List.range es.length))) hp2
                      have np2 := fresh_ne (Po.same y1) hp2
                      refine ⟨(by show 3 ≤ sizeLine; omega), fun p3 hp3 => ?_⟩
                      have y3 := Same.updf (o := .lst [V.ref p1, V.ref D7, V.ref p2]) hp3
                      have np3 := fresh_ne ((Po.same y1).same y2) hp3
                      have y13 := (y1.trans y2).trans y3
                      have r1 := (y2.trans y3) _ _ (upd_same (H := Lo) (a := p1) (o := .lst []))
                      have r2 := y3 _ _ (upd_same (H := upd Lo p1 (.lst [])) (a := p2) (o := .lst (numsV (List.range es.length))))
                      have r3 := upd_same (H := upd (upd Lo p1 (.lst [])) p2 (.lst (numsV (List.range es.length)))) (a := p3) (o := .lst [V.ref p1, V.ref D7, V.ref p2])
                      obtain ⟨Lp, eG⟩ : ∃ X, X = upd (upd (upd Lo p1 (.lst [])) p2 (.lst (numsV (List.range es.length)))) p3 (.lst [V.ref p1, V.ref D7, V.ref p2]) := ⟨_, rfl⟩
                      rw [← eG] at r1 r2 r3 y13 ⊢
                      clear eG y1 y2 y3 hp1 hp2 hp3
                      have Pp := Po.same y13
                      have hO := y13 _ _ hO
                      have eD := y13 _ _ eD
                      have zD := y13 _ _ zD
                      have e9 := y13 _ _ e9
                      have htl := y13 _ _ htl
                      have e3 := y13 _ _ e3
                      have kB := kB.trans (ButN.of (But.of y13))
                      have RoG := RoG.same (off_same pu y13)
                      have WoG := WoG.same (off_same pu y13)
                      have To := tabs_same y13 To
                      have kz : ∀ y ∈ zs, PlV pu es.length Lp y := fun y h => (kz y h).same y13
                      have kp : ∀ y ∈ ([V.ref p1, V.ref D7, V.ref p2] : List V), PlV pu es.length Lp y := fun y h => by
                        simp only [List.mem_cons, List.not_mem_nil, or_false] at h
                        rcases h with rfl | rfl | rfl
                        · exact ⟨p1, [], rfl, np1, r1, ⟨.nil, fun p h => nomatch h⟩⟩
                        · exact ⟨D7, _, rfl, n7p, eD, ends_ok WoG.ok⟩
                        · exact ⟨p2, _, rfl, np2, r2, range_plok (Nat.le_refl _)⟩
                      clear y13 Po r1 r2
                      refine ⟨(6 : Int), rfl, by decide, by decide, fun F4 hF4 => ?_⟩
                      rw [show (6 : Int).toNat = 6 from rfl]
                      have nF4 : F4 ≠ pu := fresh_ne Pp hF4
                      have m4 : mixes 4 = 1 := mixes_one (by decide) (by decide)
                      refine lc_but (n := 6) (pu := pu) (N := N + 4000 + 1000 * 6) (cost := 20) (walk_range (lo := 0) (n := 6)) (fun _ y G => PlV pu es.length G y) (fun _ y G G' s h => h.same s) (by omega) Pp hF4 (fun G _ => trivial) ?_ ?_
                      · rintro i x Ga Gb Qy Qn hi ba Pa hacc ⟨rfl, rfl⟩ ky_
                        obtain ⟨acc, hacc⟩ := hacc
                        refine ⟨rfl, _, rfl, _, rfl, a, _, rfl, .inl (SqL.of (ba _ _ na hO)), _, rfl, by rw [List.length_map, lto]; exact RgOk.of_le (by omega) (by omega) (by omega) (by omega), fun R hR => ?_⟩
                        rw [List.length_map, lto, rgV_nat]
                        have sR := Same.updf (o := .lst (numsV (List.range es.length))) hR
                        have nR : R ≠ pu := fresh_ne Pa hR
                        have lr : (numsV (List.range es.length)).length = es.length := by unfold numsV; rw [List.length_map, List.length_range]
                        refine ⟨pu, R, _, numsV (List.range es.length), rfl, Pa.same sR, by omega, nR, upd_same, by omega, fun q L' G1 b1 P1 n1 h1 pm => ?_⟩
                        obtain ⟨l, rfl, pl'⟩ := numsV_perm pm
                        refine ⟨_, rfl, pu, 4, _, rfl, by decide, log_small (by decide) (by decide), P1, by rw [m4]; omega, by rw [m4]; omega, fun r G2 r0 r1 b2 P2 => ?_⟩
                        rw [m4] at P2
                        obtain ⟨r, rfl⟩ : ∃ z : Nat, r = (z : Int) := ⟨r.toNat, by omega⟩
                        have nq : q ≠ pu := fresh_ne (Pa.same sR) n1
                        refine ⟨(r : Int), rfl, q, _, rfl, SqL.of (b2 _ _ nq h1), fun c hc => ?_⟩
                        rw [cut_pre]
                        have et : (numsV l).take r = (((l.take r).map fun x : Nat => (x : Int)).map V.int) := by
                          rw [← numsV_ints]
                          unfold numsV
                          rw [List.map_take]
                        rw [et]
                        have ll := pl'.length_eq
                        rw [List.length_range] at ll
                        have lt3 : (l.take r).length ≤ 9 := by
                          rw [List.length_take]
                          omega
                        have sc := Same.updf (o := .lst (((l.take r).map fun x : Nat => (x : Int)).map V.int)) hc
                        refine ⟨c, (l.take r).map fun x : Nat => (x : Int), rfl, SqL.of upd_same, by rw [List.length_map]; omega, fun ns' c4 pm2 srt hc4 => ?_⟩
                        obtain ⟨M, rfl, pp⟩ := nums_of_perm pm2
                        have hPl : PlOk es.length M := plok_of pl' (List.take_sublist r l) pp srt
                        have s4 := Same.updf (o := .lst ((M.map fun x : Nat => (x : Int)).map V.int)) hc4
                        have bb := (((But.of sR).trans b1).trans b2).trans ((But.of sc).trans (But.of s4))
                        have nc4 : c4 ≠ pu := fresh_ne (P2.same sc) hc4
                        have ncF : c4 ≠ F4 := fun z => by
                          rw [z] at hc4
                          have := sc _ _ (b2 _ _ nF4 (b1 _ _ nF4 (sR _ _ hacc)))
                          rw [hc4] at this
                          cases this
                        exact ky_ _ _ bb (((P2.same sc).same s4).mono (by omega)) ⟨c4, M, rfl, nc4, (off2_at ncF nc4 upd_same).trans (congrArg (fun l => some (HO.lst l)) (numsV_ints M).symm), hPl⟩
                      · intro Lq ys4 b4 Pq hys4 py4
                        have l4 := paired_len py4
                        rw [List.length_range] at l4
                        have k4 : ∀ y ∈ ys4, PlV pu es.length Lq y := fun y h => by
                          obtain ⟨i, hi, rfl⟩ := List.getElem_of_mem h
                          obtain ⟨_, _, r⟩ := paired_get2 py4 (List.getElem?_eq_getElem hi)
                          exact r.same (fun c o e => off_le _ _ _ _ (off2_le c o e))
                        refine ⟨p3, F4, _, ys4, rfl, rfl, b4 _ _ np3 r3, hys4, by show 3 + _ ≤ _; omega, fun s1 hs1 => ?_⟩
                        have x1 := Same.updf (o := .lst ([V.ref p1, V.ref D7, V.ref p2] ++ ys4)) hs1
                        have g1 := upd_same (H := Lq) (a := s1) (o := .lst ([V.ref p1, V.ref D7, V.ref p2] ++ ys4))
                        refine ⟨_, rfl, _, rfl, D6, zs, rfl, SqL.of (x1 _ _ (b4 _ _ n6p zD)), fun c5 hc5 => ?_⟩
                        have x2 := Same.updf (o := .lst (cutV zs none (some 3))) hc5
                        have lc5 : (cutV zs none (some 3)).length ≤ 3 := by
                          rw [show cutV zs none (some 3) = zs.take 3 from cut_pre _ 3, List.length_take]
                          omega
                        refine ⟨s1, c5, _, _, rfl, rfl, x2 _ _ g1, upd_same, by rw [List.length_append]; show 3 + _ + _ ≤ _; omega, fun s2 hs2 => ?_⟩
                        have x3 := Same.updf (o := .lst (([V.ref p1, V.ref D7, V.ref p2] ++ ys4) ++ cutV zs none (some 3))) hs2
                        have g3 := upd_same (H := upd (upd Lq s1 (.lst ([V.ref p1, V.ref D7, V.ref p2] ++ ys4))) c5 (.lst (cutV zs none (some 3)))) (a := s2) (o := .lst (([V.ref p1, V.ref D7, V.ref p2] ++ ys4) ++ cutV zs none (some 3)))
                        have x13 := (x1.trans x2).trans x3
                        have b5 := b4.trans (But.of x13)
                        have kS : ∀ y ∈ ([V.ref p1, V.ref D7, V.ref p2] ++ ys4) ++ cutV zs none (some 3), PlV pu es.length (upd (upd (upd Lq s1 (.lst ([V.ref p1, V.ref D7, V.ref p2] ++ ys4))) c5 (.lst (cutV zs none (some 3)))) s2 (.lst (([V.ref p1, V.ref D7, V.ref p2] ++ ys4) ++ cutV zs none (some 3)))) y := fun y h => by
                          rcases List.mem_append.mp h with h | h
                          · rcases List.mem_append.mp h with h | h
                            · exact (kp y h).but b5
                            · exact (k4 y h).same x13
                          · exact (kz y (cutV_mem h)).but b5
                        have Pr := Pq.same x13
                        have lSM : (([V.ref p1, V.ref D7, V.ref p2] ++ ys4) ++ cutV zs none (some 3)).length ≤ 20 := by
                          rw [List.length_append, List.length_append]
                          show 3 + _ + _ ≤ _
                          omega
                        obtain ⟨Lr, eG⟩ : ∃ X, X = upd (upd (upd Lq s1 (.lst ([V.ref p1, V.ref D7, V.ref p2] ++ ys4))) c5 (.lst (cutV zs none (some 3)))) s2 (.lst (([V.ref p1, V.ref D7, V.ref p2] ++ ys4) ++ cutV zs none (some 3))) := ⟨_, rfl⟩
                        rw [← eG] at b5 g3 kS Pr ⊢
                        obtain ⟨SM, eSM⟩ : ∃ X, X = ([V.ref p1, V.ref D7, V.ref p2] ++ ys4) ++ cutV zs none (some 3) := ⟨_, rfl⟩
                        rw [← eSM] at g3 kS lSM
                        clear eG eSM x1 x2 x3 x13 g1 hs1 hs2 hc5 k4 py4 hys4 b4 hF4 lc5
                        have hO := b5 _ _ na hO
                        have eD := b5 _ _ n7p eD
                        have e9 := b5 _ _ n1p e9
                        have htl := b5 _ _ ntp htl
                        have e3 := b5 _ _ n3p e3
                        have kB := kB.trans (ButN.of b5)
                        have RR := (RoG.same (but_off b5)).same (off_le _ _)
                        have WW := (WoG.same (but_off b5)).same (off_le _ _)
                        have To := tabs_but b5 (pul Pp) To
                        clear Pp Pq RoG WoG b5 kp kz zD
                        refine via_nx ?_
                        refine norm (σ' := [some (.ref pu), some (.ref a), some (.ref b), some (.int (m : Nat)), some (.ref s2), some (.ref D6), some (.ref D7), some (.ref lh), some (.ref tl), some (.ref v6), v10, some (.ref qp), v12, v13, none, none, none, none, none, none, none, none]) rfl ?_
                        refine ⟨(by show 0 ≤ sizeLine; omega), fun ln hln => ?_⟩
                        have y1 := Same.updf (o := .lst []) hln
                        have nln := fresh_ne Pr hln
                        have rl := upd_same (H := Lr) (a := ln) (o := .lst [])
                        have al : a ≠ ln := ne_of_none hO hln
                        have bl : b ≠ ln := by
                          obtain ⟨tt, e, _⟩ := WW.at_
                          exact ne_of_none e hln
                        have dl : D7 ≠ ln := ne_of_none eD hln
                        have l1n : q1 ≠ ln := ne_of_none e9 hln
                        have l3n : q3 ≠ ln := ne_of_none e3 hln
                        have ltn : tl ≠ ln := ne_of_none htl hln
                        have lsn : s2 ≠ ln := ne_of_none g3 hln
                        have kS : ∀ y ∈ SM, ∃ T P, y = .ref T ∧ T ≠ ln ∧ (upd Lr ln (.lst [])) T = some (.lst (numsV P)) ∧ PlOk es.length P := fun y h => by
                          obtain ⟨T, P0, e, n, hT, o⟩ := kS y h
                          exact ⟨T, P0, e, ne_of_none hT hln, y1 _ _ hT, o⟩
                        have kB : ∀ c o, c ≠ pu → H c = some o → (∀ ps, o ≠ .tbl ps) → c ≠ ln ∧ (upd Lr ln (.lst [])) c = some o := fun c o n e tt => ⟨ne_of_none (kB c o n e tt) hln, y1 _ _ (kB c o n e tt)⟩
                        have hO := y1 _ _ hO
                        have eD := y1 _ _ eD
                        have e9 := y1 _ _ e9
                        have htl := y1 _ _ htl
                        have e3 := y1 _ _ e3
                        have g3 := y1 _ _ g3
                        have Ps := Pr.same y1
                        have RR := RR.same y1
                        have WW := WW.same y1
                        have To := tabs_same y1 To
                        obtain ⟨Ls, eG⟩ : ∃ X, X = upd Lr ln (.lst []) := ⟨_, rfl⟩
                        rw [← eG] at kS kB hO eD e9 htl e3 g3 Ps RR WW To rl ⊢
                        clear eG y1 hln Pr
                        refine via_nx ?_
                        refine norm (σ' := [some (.ref pu), some (.ref a), some (.ref b), some (.int (m : Nat)), some (.ref s2), some (.ref D6), some (.ref D7), some (.ref lh), some (.ref tl), some (.ref v6), v10, some (.ref qp), v12, v13, some (.ref ln), none, none, none, none, none, none, none]) rfl ?_
                        refine ⟨_, rfl, a, _, rfl, .inl (SqL.of hO), (es.length : Int), (by rw [List.length_map, lto]), by omega, by omega, ?_⟩
                        rw [Int.toNat_natCast]
                        refine for_range (lo := 0) (n := es.length) (fun i σ G => But ln Ls G ∧ G ln = some (.lst (numsV (List.range i))) ∧ ∃ v15, σ = [some (.ref pu), some (.ref a), some (.ref b), some (.int (m : Nat)), some (.ref s2), some (.ref D6), some (.ref D7), some (.ref lh), some (.ref tl), some (.ref v6), v10, some (.ref qp), v12, v13, some (.ref ln), v15, none, none, none, none, none, none]) ⟨But.of (Same.refl _), rl, none, rfl⟩ ?_ ?_
                        · rintro i σ G hi ⟨bL, hl, v15, rfl⟩
                          have hi : i < es.length := hi
                          have R2 : RunOk K G a es := ⟨RR.at_.but bL al ⟨_, rl⟩, RR.ne, RR.len⟩
                          have W2 : WtOk K G b es ws := ⟨WW.at_.but bL bl ⟨_, rl⟩, WW.ok, WW.len⟩
                          refine ⟨_, rfl, _, rfl, _, rfl, a, b, ln, es, ws, List.range i, rfl, R2, by omega, W2, hl, range_plok (by omega), fun G1 z1 => ?_⟩
                          refine ⟨_, rfl, _, rfl, _, rfl, a, b, ln, es, ws, List.range i, rfl, R2.same z1, W2.same z1, z1 _ _ hl, by rw [List.length_range]; omega, fun G2 z2 => ?_⟩
                          refine ⟨.bl (enoughB es ws (List.range i)), .bl (enoughB es ws (List.range i)), .bool (enoughB es ws (List.range i)), rfl, TD.flat (.bl _), TD.flat (.bl _), fun G3 z3 => ⟨_, rfl, iteF ?_⟩⟩
                          have z13 := (z1.trans z2).trans z3
                          refine via_nx ?_
                          have hl3 := z13 _ _ hl
                          have lr : (numsV (List.range i)).length = i := by unfold numsV; rw [List.length_map, List.length_range]
                          refine ⟨_, rfl, Or.inl ⟨rfl, _, SqL.of hl3⟩, _, rfl, ln, _, _, rfl, rfl, hl3, by omega, ?_⟩
                          refine ⟨(bL.trans (But.of z13)).trans But.upd', ?_, _, rfl⟩
                          rw [upd_same, List.range_succ, Int.zero_add]
                          unfold numsV
                          rw [List.map_append]
                          rfl
                        · rintro σ Lt ⟨bL, hl, v15, rfl⟩
                          have RR : RunOk K Lt a es := ⟨RR.at_.but bL al ⟨_, rl⟩, RR.ne, RR.len⟩
                          have WW : WtOk K Lt b es ws := ⟨WW.at_.but bL bl ⟨_, rl⟩, WW.ok, WW.len⟩
                          have To := tabs_but bL ⟨_, rl⟩ To
                          have eD := bL _ _ dl eD
                          have e9 := bL _ _ l1n e9
                          have htl := bL _ _ ltn htl
                          have e3 := bL _ _ l3n e3
                          have g3 := bL _ _ lsn g3
                          have Ps := Ps.same' (H' := Lt) (by
                            obtain ⟨A0, B0, c0, i0, eP, _⟩ := Ps.at_
                            rw [bL _ _ nln.symm eP, eP])
                          have kB : ∀ c o, c ≠ pu → H c = some o → (∀ ps, o ≠ .tbl ps) → Lt c = some o := fun c o n e tt => bL _ _ (kB c o n e tt).1 (kB c o n e tt).2
                          have kS : ∀ y ∈ SM, ∃ T P, y = .ref T ∧ Lt T = some (.lst (numsV P)) ∧ PlOk es.length P := fun y h => by
                            obtain ⟨T, P0, e, n, hT, o⟩ := kS y h
                            exact ⟨T, P0, e, bL _ _ n hT, o⟩
                          clear bL hl
                          refine via_nx ?_
                          refine norm (σ' := [some (.ref pu), some (.ref a), some (.ref b), some (.int (m : Nat)), some (.ref s2), some (.ref D6), some (.ref D7), some (.ref lh), some (.ref tl), some (.ref v6), v10, some (.ref qp), v12, v13, some (.ref ln), v15, none, none, none, none, none, none]) rfl ?_
                          refine ⟨_, rfl, s2, rfl, ⟨_, SqL.of g3⟩, ?_⟩
                          refine for_list (xs := SM) (fun i σ G => Same Lt G ∧ ∃ v16, σ = [some (.ref pu), some (.ref a), some (.ref b), some (.int (m : Nat)), some (.ref s2), some (.ref D6), some (.ref D7), some (.ref lh), some (.ref tl), some (.ref v6), v10, some (.ref qp), v12, v13, some (.ref ln), v15, v16, none, none, none, none, none]) ⟨Same.refl _, none, rfl⟩ (fun i σ G _ hh => SqL.of (hh.1 _ _ g3)) ?_ ?_
                          · rintro i y σ G hy ⟨sG, v16, rfl⟩
                            obtain ⟨T, P0, rfl, hT, oP⟩ := kS y (List.mem_of_getElem? hy)
                            have hT := sG _ _ hT
                            have lP := oP.len
                            have R2 := RR.same sG
                            have W2 := WW.same sG
                            refine ⟨_, rfl, _, rfl, _, rfl, a, b, T, es, ws, P0, rfl, R2, by omega, W2, hT, oP, fun G1 z1 => ?_⟩
                            refine ⟨_, rfl, _, rfl, _, rfl, a, b, T, es, ws, P0, rfl, R2.same z1, W2.same z1, z1 _ _ hT, by omega, fun G2 z2 => ?_⟩
                            refine ⟨.bl (enoughB es ws P0), .bl (enoughB es ws P0), .bool (enoughB es ws P0), rfl, TD.flat (.bl _), TD.flat (.bl _), fun G3 z3 => ⟨_, rfl, iteF ?_⟩⟩
                            exact ⟨sG.trans ((z1.trans z2).trans z3), _, rfl⟩
                          · rintro σ Lu ⟨su, v16, rfl⟩
                            have e9 := su _ _ e9
                            have e3 := su _ _ e3
                            have htl := su _ _ htl
                            have eD := su _ _ eD
                            have RR := RR.same su
                            have WW := WW.same su
                            have To := tabs_same su To
                            have Ps := Ps.same su
                            have kB : ∀ c o, c ≠ pu → H c = some o → (∀ ps, o ≠ .tbl ps) → Lu c = some o := fun c o n e tt => su _ _ (kB c o n e tt)
                            clear su kS g3
                            refine via_nx ?_
                            have lE : (numsV (ends (brokenL es ws))).length = m := by unfold numsV; rw [List.length_map, em]
                            refine ⟨_, rfl, tl, _, 0, .ref q1, rfl, rfl, SqL.of htl, atI_nat (j := 0) rfl, Or.inl ⟨rfl, _, SqL.of e9⟩, q1, _, _, rfl, rfl, e9, by omega, ?_⟩
                            have b1 : But q1 Lu (upd Lu q1 (.lst (numsV (ends (brokenL es ws)) ++ [V.non]))) := But.upd'
                            have aq1 : a ≠ q1 := nq1.ne ha
                            have bq1 : b ≠ q1 := nq1.ne hb
                            have aq3 : a ≠ q3 := nq3.ne ha
                            have bq3 : b ≠ q3 := nq3.ne hb
                            have tq1 : tl ≠ q1 := fun z => by
                              rw [z, e9] at htl
                              have htl := HO.lst.inj (Option.some.inj htl)
                              rw [htl] at lE
                              have := congrArg (fun l => l[2]?) htl
                              unfold numsV at this
                              rw [List.getElem?_map] at this
                              cases q : (ends (brokenL es ws))[2]? with
                              | none => rw [q] at this; cases this
                              | some _ => rw [q] at this; cases this
                            have hl9 : ∃ ys, Lu q1 = some (.lst ys) := ⟨_, e9⟩
                            have e3 := b1 _ _ dq13.symm e3
                            have htl := b1 _ _ tq1 htl
                            have eD := b1 _ _ d17 eD
                            have RR : RunOk K _ a es := ⟨RR.at_.but b1 aq1 hl9, RR.ne, RR.len⟩
                            have WW : WtOk K _ b es ws := ⟨WW.at_.but b1 bq1 hl9, WW.ok, WW.len⟩
                            have To := tabs_but b1 hl9 To
                            obtain ⟨Lv, eG⟩ : ∃ X, X = upd Lu q1 (.lst (numsV (ends (brokenL es ws)) ++ [V.non])) := ⟨_, rfl⟩
                            rw [← eG] at b1 e3 htl eD RR WW To ⊢
                            clear eG hl9 e9
                            refine via_nx ?_
                            refine ⟨_, rfl, tl, _, 2, .ref q3, rfl, rfl, SqL.of htl, atI_nat (j := 2) rfl, Or.inl ⟨rfl, _, SqL.of e3⟩, q3, _, _, rfl, rfl, e3, by omega, ?_⟩
                            have b3 : But q3 Lv (upd Lv q3 (.lst (xs3 ++ [V.non]))) := But.upd'
                            have hl3 : ∃ ys, Lv q3 = some (.lst ys) := ⟨_, e3⟩
                            have eD := b3 _ _ d37 eD
                            have RR : RunOk K _ a es := ⟨RR.at_.but b3 aq3 hl3, RR.ne, RR.len⟩
                            have WW : WtOk K _ b es ws := ⟨WW.at_.but b3 bq3 hl3, WW.ok, WW.len⟩
                            have To := tabs_but b3 hl3 To
                            have Ps := Ps.same' (H' := upd Lv q3 (.lst (xs3 ++ [V.non]))) (by
                              obtain ⟨A0, B0, c0, i0, eP, _⟩ := Ps.at_
                              rw [b3 _ _ n3p.symm (b1 _ _ n1p.symm eP), eP])
                            have kB : ∀ c o, c ≠ pu → H c = some o → (∀ ps, o ≠ .tbl ps) → (upd Lv q3 (.lst (xs3 ++ [V.non]))) c = some o := fun c o n e tt => b3 _ _ (fun z => by
                              rw [z] at e
                              obtain ⟨ps, q⟩ := nq3 _ e
                              exact tt ps q) (b1 _ _ (fun z => by
                              rw [z] at e
                              obtain ⟨ps, q⟩ := nq1 _ e
                              exact tt ps q) (kB c o n e tt))
                            obtain ⟨Lw, eG⟩ : ∃ X, X = upd Lv q3 (.lst (xs3 ++ [V.non])) := ⟨_, rfl⟩
                            rw [← eG] at eD RR WW To Ps kB ⊢
                            clear eG hl3 e3 b1 b3 htl
                            refine via_nx ?_
                            refine ⟨_, rfl, _, rfl, a, b, es, ws, rfl, RR, WW, To, fun q5 G1 e1 T1 n5 h5 => ?_⟩
                            refine ⟨_, rfl, .ref q5, .ref D7, .list ((ends (brokenL es ws)).map fun x : Nat => PyData.int (x : Int)), rfl, nums_td 8 h5 (by omega), nums_td 8 (e1 _ _ eD nt) (by omega), fun G2 z2 => ?_⟩
                            have e2 := e1.trans (ExtN.of z2)
                            have T2 := tabs_same z2 T1
                            refine ⟨true, rfl, iteT ?_⟩
                            refine ⟨_, rfl, _, rfl, _, rfl, _, rfl, a, b, es, ws, rfl, RR.ext e2, WW.ext e2, T2, fun q6 G3 e3 T3 n6 h6 => ?_⟩
                            have e23 := e2.trans e3
                            refine ⟨_, rfl, a, b, .ref q6, es, ws, .list ((apart (brokenL es ws)).map pd), 3, (by rw [em]; rfl), RR.ext e23, WW.ext e23, wts_td 1 h6 (by omega), fun G4 s4 => ?_⟩
                            rw [apart_good WW.ok]
                            have e24 := e23.trans (ExtN.of s4)
                            exact k _ (fun c o n e tt => e24 _ _ (kB c o n e tt) tt) ((purse_ext e24 Ps).mono (by omega)) (tabs_same s4 T3)
end
end K17
set_option Elab.async false
set_option linter.all false
set_option maxRecDepth 100000
set_option maxHeartbeats 8000000
/-! The law. -/
namespace K17
open PySem PySem.Spec PyProof.Rows L2 KB LamX
theorem mergeS {J R : Hp → Addr → Prop} {goal : Prop} (a : (∀ G q, J G q → R G q) → goal) (b : ∀ G q, J G q → R G q) : goal := a b
theorem LsT.off1 {K : PySem.W.Frag} {α : Type} {vv : α → List V} {H : Hp} {a p : Addr} {xs : List α} (h : LsT K vv H a xs) (n : a ≠ p) (hp : ∃ ys, H p = some (.lst ys)) : LsT K vv (off H p) a xs := by
  obtain ⟨ts, h1, h2, h3⟩ := h
  exact ⟨ts, (off_at n).trans h1, h2, fun i t e e1 e2 => offT hp (h3 i t e e1 e2)⟩
theorem extN_off {p : Addr} {A B : Hp} (k : ExtN A B) : ExtN (off A p) (off B p) := fun c o e tt => by
  obtain ⟨n, e⟩ := off_some e
  exact (off_at n).trans (k _ _ e tt)
/-- what is noted of a run: its barriers, the run, its waits -/
def NotV (K : PySem.W.Frag) (H : Hp) (y : V) : Prop := ∃ T q a b es ws, y = .ref T ∧ H T = some (.lst [.ref q, .ref a, .ref b]) ∧ H q = some (.lst (numsV (ends (brokenL es ws)))) ∧ RunOk K H a es ∧ es.length ≤ 9 ∧ WtOk K H b es ws
theorem NotV.ext {K : PySem.W.Frag} {A B : Hp} {y : V} (k : ExtN A B) : NotV K A y → NotV K B y := fun ⟨T, q, a, b, es, ws, e, h1, h2, h3, h4, h5⟩ => ⟨T, q, a, b, es, ws, e, k _ _ h1 (fun ps z => by cases z), k _ _ h2 (fun ps z => by cases z), h3.ext k, h4, h5.ext k⟩
theorem paired_mono' {α β : Type} {F G : α → β → Prop} : ∀ {xs : List α} {ys : List β}, (∀ x y, F x y → G x y) → Paired F xs ys → Paired G xs ys
  | _, _, _, .nil => .nil
  | _, _, k, .cons r t => .cons (k _ _ r) (paired_mono' k t)
theorem LsT.pd {K : PySem.W.Frag} {α : Type} {vv : α → List V} {H : Hp} {a : Addr} {es : List α} (h : LsT K vv H a es) : ∃ ts : List Addr, H a = some (.lst (ts.map V.ref)) ∧ Paired (fun (e : α) t => SqT K H t (vv e)) es ts := by
  obtain ⟨ts, h1, h2, h3⟩ := h
  refine ⟨ts, h1, ?_⟩
  clear h1
  induction ts generalizing es with
  | nil =>
    cases es with
    | nil => exact .nil
    | cons e es => cases h2
  | cons t ts ih =>
    cases es with
    | nil => cases h2
    | cons e es => exact .cons (h3 0 t e rfl rfl) (ih (Nat.succ.inj h2) fun i u f e1 e2 => h3 (i + 1) u f e1 e2)
theorem LsT.of_pd {K : PySem.W.Frag} {α : Type} {vv : α → List V} {H : Hp} {a : Addr} {es : List α} {ts : List Addr} (h : H a = some (.lst (ts.map V.ref))) (p : Paired (fun (e : α) t => SqT K H t (vv e)) es ts) : LsT K vv H a es := by
  have g : ∀ {es : List α} {ts : List Addr}, Paired (fun (e : α) t => SqT K H t (vv e)) es ts → ts.length = es.length ∧ ∀ (i : Nat) (t : Addr) (e : α), ts[i]? = some t → es[i]? = some e → SqT K H t (vv e) := by
    intro es ts p
    induction p with
    | nil => exact ⟨rfl, fun i t e h => by simp at h⟩
    | cons r _ ih =>
      refine ⟨congrArg (· + 1) ih.1, fun i t e h1 h2 => ?_⟩
      cases i with
      | zero =>
        cases h1
        cases h2
        exact r
      | succ i => exact ih.2 i t e h1 h2
  obtain ⟨g1, g2⟩ := g p
  exact ⟨ts, h, g1, g2⟩
theorem paired_app' {α β : Type} {R : α → β → Prop} : ∀ {xs xs' : List α} {ys ys' : List β}, Paired R xs ys → Paired R xs' ys' → Paired R (xs ++ xs') (ys ++ ys')
  | _, _, _, _, .nil, h => h
  | _, _, _, _, .cons r t, h => .cons r (paired_app' t h)
theorem off_upd2 {pu qn : Addr} {A : Hp} {o : HO} : ExtN (off (off A pu) qn) (off (off (upd A qn o) pu) qn) := fun c o' e _ => by
  obtain ⟨n1, e⟩ := off_some e
  obtain ⟨n2, e⟩ := off_some e
  rw [off_at n1, off_at n2, upd_ne n1]
  exact e
theorem wt_take {K : PySem.W.Frag} {H : Hp} {q c : Addr} {es : List Ev} {ws : List (Nat × Nat)} {ts : List Addr} (n : Nat) (h : WtOk K H q es ws) (e : H q = some (.lst (ts.map V.ref))) (hc : H c = some (.lst ((ts.map V.ref).take n))) : WtOk K H c es (ws.take n) := by
  obtain ⟨ts', h1, h2, h3⟩ := h.at_
  rw [e] at h1
  have h1 := HO.lst.inj (Option.some.inj h1)
  have ee : ts = ts' := (List.map_inj_right (fun _ _ z => V.ref.inj z)).mp h1
  subst ee
  refine ⟨⟨ts.take n, by rw [hc, List.map_take], by rw [List.length_take, List.length_take, h2], fun i t x e1 e2 => ?_⟩, ⟨fun w hw => h.ok.ok w (List.mem_of_mem_take hw), h.ok.asc.sublist (List.take_sublist n ws)⟩, Nat.le_trans (by rw [List.length_take]; exact Nat.min_le_right _ _) h.len⟩
  rw [List.getElem?_take] at e1 e2
  by_cases z : i < n
  · rw [if_pos z] at e1 e2
    exact h3 i t x e1 e2
  · rw [if_neg z] at e1
    cases e1
def es40 : List Ev := (List.range 40).map Ev.wr ++ [.tell]
def ws40 : List (Nat × Nat) := (List.range 40).map fun i => (i, i + 1)
def ps40 : List Nat := (List.range 40).map fun i => i + 1
theorem broken40 : brokenL es40 ws40 = ws40 := by decide +kernel
theorem byEnd40 : byEnd ws40 = ws40 := List.mergeSort_of_pairwise (by decide +kernel)
theorem apart40 : apart ws40 = ws40 := by
  unfold apart
  rw [byEnd40]
  decide +kernel
theorem ends40 : ends ws40 = ps40 := by
  unfold ends
  rw [apart40]
  decide +kernel
theorem enough40 : enoughB es40 ws40 ps40 = true := by decide +kernel
theorem pl40 : PlOk es40.length ps40 := ⟨by decide +kernel, by decide +kernel⟩
theorem ok40 : WaitsOk es40 ws40 := by
  refine ⟨fun w hw => ?_, by
    unfold ws40
    rw [List.pairwise_map]
    exact List.pairwise_lt_range.imp fun {a b} h => .inl h⟩
  obtain ⟨i, hi, rfl⟩ := List.mem_map.mp hw
  have hi := List.mem_range.mp hi
  have get : ∀ j, j < 40 → es40[j]? = some (.wr j) := fun j hj => by
    unfold es40
    rw [List.getElem?_append_left (by rw [List.length_map, List.length_range]; exact hj), List.getElem?_map, List.getElem?_range hj]
    rfl
  refine ⟨Nat.lt_succ_self i, by show i + 1 < 41; omega, i, get i hi, ?_⟩
  by_cases c : i + 1 < 40
  · exact .inr ⟨i + 1, get _ c, by omega⟩
  · obtain rfl : i = 39 := by omega
    exact .inl (by decide +kernel)
theorem ends0 : ends (brokenL [.tell] []) = [] := by
  show ((greedy 0 (([] : List (Nat × Nat)).mergeSort fun u v => decide (u.2 ≤ v.2))).map (·.2)) = []
  rw [List.mergeSort_nil]
  rfl
theorem cnt0 : cnt (brokenL [.tell] []) 1 (ends (brokenL [.tell] [])).length 0 = 1 := by
  rw [ends0]
  decide +kernel
def spLaw (K : PySem.W.Frag) : Sp := fun vs H Q _ => ∃ (a : Addr) (ns : List Int), vs = [.ref a] ∧ SqL K H a (ns.map V.int) ∧ Tabs (TbK K) H ∧ ∀ H', Q (.bl true) H'
section
variable {P : Program} {w : World} {K : PySem.W.Frag} {mg : Str → Option Value} {base : Heap}
abbrev s_law : Stmt := top 50
abbrev N_law : List Str := ["_law_script", "_law_purse_here", "_law_noted", "_law_most", "_law_run_here", "_law_waits", "_law_told", "_law_long", "_law_at", "_law_event_here"]
theorem sc_law : FnScope N_law ["_law_script"] (defScope s_law) := ⟨rfl, rfl, rfl, by decide +kernel, rfl, by decide +kernel, by decide +kernel⟩
theorem ok_law {f : Addr} {fd : FuncData} (F : FnP K "law" s_law f fd) (Z : FreeS mg)
    {f_purse : Addr} {d_purse : FuncData} (g_purse : mg "_law_purse" = some (.ref f_purse)) (F_purse : FnP K "_law_purse" s_purse f_purse d_purse) (G_purse : FnOk P w K mg base CX0 1 f_purse d_purse ["_law_script", "_law_at"] (spPurse K))
    {f_run : Addr} {d_run : FuncData} (g_run : mg "_law_run" = some (.ref f_run)) (F_run : FnP K "_law_run" s_run f_run d_run) (G_run : FnOk P w K mg base CX0 4 f_run d_run ["_law_purse_here", "_law_most"] (spRun K))
    {f_some_waits : Addr} {d_some_waits : FuncData} (g_some_waits : mg "_law_some_waits" = some (.ref f_some_waits)) (F_some_waits : FnP K "_law_some_waits" s_some_waits f_some_waits d_some_waits) (G_some_waits : FnOk P w K mg base CX0 3 f_some_waits d_some_waits ["_law_purse_here", "_law_run_here", "_law_few"] (spSomeW K))
    {f_exact : Addr} {d_exact : FuncData} (g_exact : mg "_law_exact" = some (.ref f_exact)) (F_exact : FnP K "_law_exact" s_exact f_exact d_exact) (GA_exact : ∀ n : Nat, FnOk P w K mg base CX0 (n + 1) f_exact d_exact ["_law_mine", "_law_theirs"] (spExactD K n))
    {f_barriers_for : Addr} {d_barriers_for : FuncData} (g_barriers_for : mg "barriers_for" = some (.ref f_barriers_for)) (F_barriers_for : FnP K "barriers_for" s_barriers_for f_barriers_for d_barriers_for) (G_barriers_for : FnOk P w K mg base CX0 7 f_barriers_for d_barriers_for ["run", "waits"] (spFor K))
    {f_many_least : Addr} {d_many_least : FuncData} (g_many_least : mg "many_least" = some (.ref f_many_least)) (F_many_least : FnP K "many_least" s_many_least f_many_least d_many_least) (G_many_least : FnOk P w K mg base CX0 7 f_many_least d_many_least ["run", "waits"] (spManyL K))
    {f_draw : Addr} {d_draw : FuncData} (g_draw : mg "_law_draw" = some (.ref f_draw)) (F_draw : FnP K "_law_draw" s_draw f_draw d_draw) (G_draw : FnOk P w K mg base CX0 2 f_draw d_draw ["_law_purse_here", "_law_many"] spDraw)
    {f_lists_right : Addr} {d_lists_right : FuncData} (g_lists_right : mg "_law_lists_right" = some (.ref f_lists_right)) (F_lists_right : FnP K "_law_lists_right" s_lists_right f_lists_right d_lists_right) (G_lists_right : FnOk P w K mg base CX0 11 f_lists_right d_lists_right ["_law_purse_here", "_law_run_here", "_law_waits"] (spListsR K))
    {f_enough : Addr} {d_enough : FuncData} (g_enough : mg "_law_enough" = some (.ref f_enough)) (F_enough : FnP K "_law_enough" s_enough f_enough d_enough) (G_enough : FnOk P w K mg base CX0 2 f_enough d_enough ["_law_run_here", "_law_waits", "_law_places"] (spEnough K))
    {f_fewest : Addr} {d_fewest : FuncData} (g_fewest : mg "_law_fewest" = some (.ref f_fewest)) (F_fewest : FnP K "_law_fewest" s_fewest f_fewest d_fewest) (G_fewest : FnOk P w K mg base CX0 3 f_fewest d_fewest ["_law_run_here", "_law_waits"] (spFewest K))
    {f_apart_waits : Addr} {d_apart_waits : FuncData} (g_apart_waits : mg "apart_waits" = some (.ref f_apart_waits)) (F_apart_waits : FnP K "apart_waits" s_apart_waits f_apart_waits d_apart_waits) (G_apart_waits : FnOk P w K mg base CX0 7 f_apart_waits d_apart_waits ["run", "waits"] (spApartW K))
    {f_is_enough : Addr} {d_is_enough : FuncData} (g_is_enough : mg "is_enough" = some (.ref f_is_enough)) (F_is_enough : FnP K "is_enough" s_is_enough f_is_enough d_is_enough) (G_is_enough : FnOk P w K mg base CX0 7 f_is_enough d_is_enough ["run", "waits", "places"] (spIsEnough K))
    {f_pairs_of : Addr} {d_pairs_of : FuncData} (g_pairs_of : mg "_law_pairs_of" = some (.ref f_pairs_of)) (F_pairs_of : FnP K "_law_pairs_of" s_pairs_of f_pairs_of d_pairs_of) (G_pairs_of : FnOk P w K mg base CX0 1 f_pairs_of d_pairs_of ["_law_run_here"] (spPairs K)) :
    FnOk P w K mg base CX0 12 f fd ["_law_script"] (spLaw K) := by
  have b_purse : Binds K d_purse ["_law_script", "_law_at"] [] := F_purse.bindsN fun _ _ _ _ _ _ us hl => match us, hl with | [_, _], _ => rfl
  have b_run : Binds K d_run ["_law_purse_here", "_law_most"] [] := F_run.bindsN fun _ _ _ _ _ _ us hl => match us, hl with | [_, _], _ => rfl
  have b_some_waits : Binds K d_some_waits ["_law_purse_here", "_law_run_here", "_law_few"] [] := F_some_waits.bindsN fun _ _ _ _ _ _ us hl => match us, hl with | [_, _, _], _ => rfl
  have b_exact : Binds K d_exact ["_law_mine", "_law_theirs"] [] := F_exact.bindsN fun _ _ _ _ _ _ us hl => match us, hl with | [_, _], _ => rfl
  have b_barriers_for : Binds K d_barriers_for ["run", "waits"] [] := F_barriers_for.bindsN fun _ _ _ _ _ _ us hl => match us, hl with | [_, _], _ => rfl
  have b_many_least : Binds K d_many_least ["run", "waits"] [] := F_many_least.bindsN fun _ _ _ _ _ _ us hl => match us, hl with | [_, _], _ => rfl
  have b_draw : Binds K d_draw ["_law_purse_here", "_law_many"] [] := F_draw.bindsN fun _ _ _ _ _ _ us hl => match us, hl with | [_, _], _ => rfl
  have b_lists_right : Binds K d_lists_right ["_law_purse_here", "_law_run_here", "_law_waits"] [] := F_lists_right.bindsN fun _ _ _ _ _ _ us hl => match us, hl with | [_, _, _], _ => rfl
  have b_enough : Binds K d_enough ["_law_run_here", "_law_waits", "_law_places"] [] := F_enough.bindsN fun _ _ _ _ _ _ us hl => match us, hl with | [_, _, _], _ => rfl
  have b_fewest : Binds K d_fewest ["_law_run_here", "_law_waits"] [] := F_fewest.bindsN fun _ _ _ _ _ _ us hl => match us, hl with | [_, _], _ => rfl
  have b_apart_waits : Binds K d_apart_waits ["run", "waits"] [] := F_apart_waits.bindsN fun _ _ _ _ _ _ us hl => match us, hl with | [_, _], _ => rfl
  have b_is_enough : Binds K d_is_enough ["run", "waits", "places"] [] := F_is_enough.bindsN fun _ _ _ _ _ _ us hl => match us, hl with | [_, _, _], _ => rfl
  have b_pairs_of : Binds K d_pairs_of ["_law_run_here"] [] := F_pairs_of.bindsN fun _ _ _ _ _ _ us hl => match us, hl with | [_], _ => rfl
  refine F.ok sc_law (fun vs H Q E h => ?_) (fun cdv A outer s H vs Q E hr h => ?_)
  · obtain ⟨a, ns, rfl, _⟩ := h
    rfl
  · obtain ⟨a, ns, rfl, hS, hT, k⟩ := h
    have sl : (10000 : Nat) ≤ sizeLine := by decide
    have nd := sc_law.nd
    refine ⟨_, PSs.nox (pss_cons (ps_set (i := 1) nd rfl (Or.inl rfl) (pe_call G_purse (hr.mono (by decide)) rfl g_purse F_purse.kp b_purse .nil pass0 (pa_cons (pv 0) (pa_cons (pe_int) (pa_nil)))))
      (pss_cons (ps_set (i := 2) nd rfl (Or.inl rfl) (pe_lst (pa_nil)))
      (pss_cons (ps_for PassesOwn.never rfl (pi_tup (pe_tup (pa_cons (pe_int) (pa_cons (pe_int) (pa_cons (pe_int) (pa_nil)))))) (pg_name (i := 3) nd rfl (Or.inl rfl))
        (pss_cons (ps_set (i := 4) nd rfl (Or.inl rfl) (pe_call G_run (hr.mono (by decide)) rfl g_run F_run.kp b_run .nil pass0 (pa_cons (pv 1) (pa_cons (pv 3) (pa_nil)))))
      (pss_cons (ps_set (i := 4) nd rfl (Or.inl rfl) (pe_ifExp (pt_cmpR op_eq (pe_call G_draw (hr.mono (by decide)) rfl g_draw F_draw.kp b_draw .nil pass0 (pa_cons (pv 1) (pa_cons (pe_int) (pa_nil)))) (pe_int) (nomark _)) (pe_op op_cat (pe_lc (own := [("_law_event_here", 9)]) (g := gName 9) (tt := tTest (tOp rNe (tOp (rIxT K) (tVar 9) (tC (.int 0))) (tC (.str "barrier")))) (te := tVar 9) (by rfl) nd (pi_list (pv 4))
          (blkOk_by (own := [("_law_event_here", 9)]) (N := N_law) (sc := defScope s_law) (by decide +kernel)) (fun _ _ _ _ _ => pg_name (i := 9) nd rfl (Or.inl rfl)) (fun _ _ _ _ _ => pts_one (pt_cmpR op_ne (pe_ix ix_tup (pv 9) (pe_int) (fun _ _ => rfl)) (pe_str) (nomark _)))
          (fun _ _ _ _ _ => pv 9)) (pe_lst (pa_cons (pe_tup (pa_cons (pe_str) (pa_nil))) (pa_nil)))) (pv 4)))
      (pss_cons (ps_set (i := 5) nd rfl (Or.inl rfl) (pe_call G_some_waits (hr.mono (by decide)) rfl g_some_waits F_some_waits.kp b_some_waits .nil pass0 (pa_cons (pv 1) (pa_cons (pv 4) (pa_cons (pe_op op_add (pe_int) (pe_call G_draw (hr.mono (by decide)) rfl g_draw F_draw.kp b_draw .nil pass0 (pa_cons (pv 1) (pa_cons (pe_int) (pa_nil))))) (pa_nil))))))
      (pss_cons (ps_if (PW.pt (pw_or (pt_not (pt_val (pe_call G_lists_right (hr.mono (by decide)) rfl g_lists_right F_lists_right.kp b_lists_right .nil pass0 (pa_cons (pv 1) (pa_cons (pv 4) (pa_cons (pv 5) (pa_nil))))))) (pw_or1 (pt_not (pt_val (pe_call G_lists_right (hr.mono (by decide)) rfl g_lists_right F_lists_right.kp b_lists_right .nil pass0 (pa_cons (pv 1) (pa_cons (pv 4) (pa_cons (pe_slice sl_list (pe_call G_pairs_of (hr.mono (by decide)) rfl g_pairs_of F_pairs_of.kp b_pairs_of .nil pass0 (pa_cons (pv 4) (pa_nil))) (po_none) (po_some (pe_op op_add (pe_int) (pe_call G_draw (hr.mono (by decide)) rfl g_draw F_draw.kp b_draw .nil pass0 (pa_cons (pv 1) (pa_cons (pe_int) (pa_nil))))))) (pa_nil)))))))))) (pss_one (ps_ret (pe_bl))) (pss_nil))
      (pss_one (ps_expr (pe_bm PySem.F.plainAttrs_list PySem.F.slot_list_append PySem.F.type_list_append mt_append (pv 2) (pa_cons (pe_lst (pa_cons (pe_call G_barriers_for (hr.mono (by decide)) rfl g_barriers_for F_barriers_for.kp b_barriers_for .nil pass0 (pa_cons (pv 4) (pa_cons (pv 5) (pa_nil)))) (pa_cons (pv 4) (pa_cons (pv 5) (pa_nil))))) (pa_nil))))))))))
      (pss_cons (ps_for PassesOwn.never rfl (pi_list (pv 2)) (pg_unl rfl (pgs_cons (pg_name (i := 6) nd rfl (Or.inl rfl)) (pgs_cons (pg_name (i := 4) nd rfl (Or.inl rfl)) (pgs_cons (pg_name (i := 5) nd rfl (Or.inl rfl)) (pgs_nil)))))
        (pss_one (ps_if (PW.pt (pw_or (pt_not (pt_val (pe_call G_enough (hr.mono (by decide)) rfl g_enough F_enough.kp b_enough .nil pass0 (pa_cons (pv 4) (pa_cons (pv 5) (pa_cons (pv 6) (pa_nil))))))) (pw_or1 (pt_cmpR op_ne (pe_callB call_len_seq (by rfl) Z.len (by decide +kernel) (pa_cons (pv 6) (pa_nil))) (pe_call G_fewest (hr.mono (by decide)) rfl g_fewest F_fewest.kp b_fewest .nil pass0 (pa_cons (pv 4) (pa_cons (pv 5) (pa_nil)))) (nomark _))))) (pss_one (ps_ret (pe_bl))) (pss_nil))))
      (pss_cons (ps_par (i := 7) (j := 5) rfl nd rfl rfl (by decide) rfl rfl (pa_cons (pe_op op_cat (pe_lc (own := [("_law_at", 8)]) (g := gName 8) (tt := tYes) (te := tTup (tCons (tC (.str "write")) (tCons (tVar 8) (tNil)))) (by rfl) nd (pi_range1 (by rfl) Z.range (pa_cons (pe_int) (pa_nil)))
          (blkOk_by (own := [("_law_at", 8)]) (N := N_law) (sc := defScope s_law) (by decide +kernel)) (fun _ _ _ _ _ => pg_name (i := 8) nd rfl (Or.inl rfl)) (fun _ _ _ _ _ => pts_nil)
          (fun _ _ _ _ _ => pe_tup (pa_cons (pe_str) (pa_cons (pv 8) (pa_nil))))) (pe_lst (pa_cons (pe_tup (pa_cons (pe_str) (pa_nil))) (pa_nil)))) (pa_cons (pe_lc (own := [("_law_at", 8)]) (g := gName 8) (tt := tYes) (te := tTup (tCons (tVar 8) (tCons (tOp (rI0 fun i j => .int (i + j)) (tVar 8) (tC (.int 1))) (tNil)))) (by rfl) nd (pi_range1 (by rfl) Z.range (pa_cons (pe_int) (pa_nil)))
          (blkOk_by (own := [("_law_at", 8)]) (N := N_law) (sc := defScope s_law) (by decide +kernel)) (fun _ _ _ _ _ => pg_name (i := 8) nd rfl (Or.inl rfl)) (fun _ _ _ _ _ => pts_nil)
          (fun _ _ _ _ _ => pe_tup (pa_cons (pv 8) (pa_cons (pe_op op_add (pv 8) (pe_int)) (pa_nil))))) (pa_nil))) rfl)
      (pss_cons (ps_if (pt_not (pt_val (pe_call (GA_exact 9) (hr.mono (by decide)) rfl g_exact F_exact.kp b_exact .nil pass0 (pa_cons (pe_lst (pa_cons (pe_call G_barriers_for (hr.mono (by decide)) rfl g_barriers_for F_barriers_for.kp b_barriers_for .nil pass0 (pa_cons (pv 7) (pa_cons (pv 5) (pa_nil)))) (pa_cons (pe_call G_apart_waits (hr.mono (by decide)) rfl g_apart_waits F_apart_waits.kp b_apart_waits .nil pass0 (pa_cons (pv 7) (pa_cons (pv 5) (pa_nil)))) (pa_cons (pe_call G_is_enough (hr.mono (by decide)) rfl g_is_enough F_is_enough.kp b_is_enough .nil pass0 (pa_cons (pv 7) (pa_cons (pv 5) (pa_cons (pe_listRg rfl (by rfl) Z.tlist (prg_2 (by rfl) Z.range (pe_int) (pe_int))) (pa_nil))))) (pa_nil))))) (pa_cons (pe_lst (pa_cons (pe_listRg rfl (by rfl) Z.tlist (prg_2 (by rfl) Z.range (pe_int) (pe_int))) (pa_cons (pv 5) (pa_cons (pe_bl) (pa_nil))))) (pa_nil)))))) (pss_one (ps_ret (pe_bl))) (pss_nil))
      (pss_one (ps_ret (pe_and (pe_call (GA_exact 9) (hr.mono (by decide)) rfl g_exact F_exact.kp b_exact .nil pass0 (pa_cons (pe_call G_barriers_for (hr.mono (by decide)) rfl g_barriers_for F_barriers_for.kp b_barriers_for .nil pass0 (pa_cons (pe_lst (pa_cons (pe_tup (pa_cons (pe_str) (pa_nil))) (pa_nil))) (pa_cons (pe_lst (pa_nil)) (pa_nil)))) (pa_cons (pe_lst (pa_nil)) (pa_nil)))) (pe_one (pe_cmpR op_eq (pe_call G_many_least (hr.mono (by decide)) rfl g_many_least F_many_least.kp b_many_least .nil pass0 (pa_cons (pe_lst (pa_cons (pe_tup (pa_cons (pe_str) (pa_nil))) (pa_nil))) (pa_cons (pe_lst (pa_nil)) (pa_nil)))) (pe_int) (nomark _)))))))))))), ?_⟩
    have pul : ∀ {G : Hp} {M : Nat} {pu : Addr}, Purse G pu M → ∃ xs, G pu = some (.lst xs) := fun h => by
      obtain ⟨A0, B0, c0, i0, eP, _⟩ := h
      exact ⟨_, eP⟩
    have nt : ∀ {xs : List V} (ps), HO.lst xs ≠ .tbl ps := fun ps z => by cases z
    refine ⟨_, rfl, a, ns, 0, rfl, hS, fun pu H1 s1 hpu P1 => ?_⟩
    have T1 := tabs_same s1 hT
    refine ⟨(by show 0 ≤ sizeLine; omega), fun qn hqn => ?_⟩
    have nqn : qn ≠ pu := fresh_ne P1 hqn
    have sqn := Same.updf (o := .lst []) hqn
    refine via_nx ?_
    refine ⟨(by show 3 ≤ sizeLine; omega), fun Tm hTm => ⟨Tm, rfl, ⟨_, SqT.of upd_same⟩, ?_⟩⟩
    have sTm := Same.updf (o := .tup [V.int 7, V.int 8, V.int 5]) hTm
    have P2 := (P1.same sqn).same sTm
    have nTm : Tm ≠ pu := fresh_ne (P1.same sqn) hTm
    have nTq : Tm ≠ qn := fun z => by rw [z, upd_same] at hTm; cases hTm
    have hN0 : (upd (upd H1 qn (.lst [])) Tm (.tup [V.int 7, V.int 8, V.int 5])) qn = some (.lst []) := sTm _ _ upd_same
    have TT := tabs_same sTm (tabs_same sqn T1)
    have hTm0 := upd_same (H := upd H1 qn (.lst [])) (a := Tm) (o := .tup [V.int 7, V.int 8, V.int 5])
    obtain ⟨G0, eG⟩ : ∃ X, X = upd (upd H1 qn (.lst [])) Tm (.tup [V.int 7, V.int 8, V.int 5]) := ⟨_, rfl⟩
    rw [← eG] at P2 hN0 TT hTm0 ⊢
    clear eG sTm sqn hTm hqn P1 T1 s1 hS hT
    have m2 : mixes 2 = 1 := mixes_one (by decide) (by decide)
    have m4 : mixes 4 = 1 := mixes_one (by decide) (by decide)
    refine for_it (n := 3) (walk_tup (K := K) (a := Tm) (xs := [V.int 7, V.int 8, V.int 5])) (fun i σ G => (∃ M, Purse G pu M ∧ M ≤ 100000 * i) ∧ Tabs (TbK K) G ∧ G Tm = some (.tup [V.int 7, V.int 8, V.int 5]) ∧ (∃ xs, G qn = some (.lst xs) ∧ xs.length = i ∧ ∀ y ∈ xs, NotV K (off (off G pu) qn) y) ∧ ∃ v3 v4 v5, σ = [some (.ref a), some (.ref pu), some (.ref qn), v3, v4, v5, none, none, none, none])
      ⟨⟨_, P2, Nat.zero_le _⟩, TT, hTm0, ⟨[], hN0, rfl, fun y h => nomatch h⟩, none, none, none, rfl⟩ (fun i σ G _ hh => SqT.of hh.2.2.1) ?_ ?_
    · rintro i x σ G' G hi ⟨⟨M, PG, lM⟩, TG, hTm, ⟨xn, hN, lxn, kn⟩, v3, v4, v5, rfl⟩ ⟨rfl, hx⟩
      obtain ⟨mo, rfl, hmo⟩ : ∃ mo : Nat, x = .int (mo : Int) ∧ 1 ≤ mo ∧ mo ≤ 8 := by
        match i with
        | 0 => cases hx; exact ⟨7, rfl, by decide⟩
        | 1 => cases hx; exact ⟨8, rfl, by decide⟩
        | 2 => cases hx; exact ⟨5, rfl, by decide⟩
        | i + 3 => simp at hx
      have hi : i < 3 := hi
      refine ⟨_, rfl, _, rfl, pu, mo, M, rfl, PG, by omega, by omega, by omega, fun q es G1 b1 P1 nq0 hR le => ?_⟩
      have nq : q ≠ pu := fresh_ne PG nq0
      have nqq : q ≠ qn := fun z => by rw [z, hN] at nq0; cases nq0
      have T1 := tabs_but b1 (pul PG) TG
      have h1 := b1 _ _ nTm hTm
      have hN1 := b1 _ _ nqn hN
      refine via_nx ?_
      refine ⟨_, rfl, pu, 2, _, rfl, by decide, log_small (by decide) (by decide), P1, by rw [m2]; omega, by rw [m2]; omega, fun r G2 r0 r1 b2 P2 => ?_⟩
      rw [m2] at P2
      have hR2 := hR.same (but_off b2)
      have T2 := tabs_but b2 (pul P1) T1
      have h2 := b2 _ _ nTm h1
      have hN2 := b2 _ _ nqn hN1
      have b12 := b1.trans b2
      clear b1 b2 h1 hN1 T1 hR P1
      apply mergeS (J := fun G3 q3 => ∃ es3, But pu G2 G3 ∧ Purse G3 pu (M + 100 + 1) ∧ RunOk K (off G3 pu) q3 es3 ∧ es3.length ≤ 9 ∧ q3 ≠ pu ∧ q3 ≠ qn)
      · intro rest
        refine ⟨rfl, _, rfl, ?_⟩
        by_cases c : r = 0
        rotate_left
        · refine iteQ (fun z => c (V.int.inj z)) ⟨_, rfl, ?_⟩
          obtain ⟨Ga, e⟩ : ∃ G', G' = G2 := ⟨_, rfl⟩
          obtain ⟨qa, e2⟩ : ∃ q', q' = q := ⟨_, rfl⟩
          rw [← e, ← e2]
          exact rest Ga qa ⟨es, by rw [e]; exact But.of (Same.refl _), by rw [e]; exact P2, by rw [e, e2]; exact hR2, by omega, by rw [e2]; exact nq, by rw [e2]; exact nqq⟩
        · refine iteP (by rw [c]) ?_
          have hR2' := hR2.same (off_le _ _)
          obtain ⟨tq, hq, ltq, htq⟩ := hR2'.at_.got
          refine ⟨_, rfl, q, rfl, ⟨_, SqL.of hq⟩, fun D hD => ?_⟩
          refine ls_rel (xs := es) (vv := Ev.v) (fun e => decide (e ≠ Ev.bar)) (fun e y G => ∃ t, y = .ref t ∧ SqT K G t e.v) (fun e y G G' s ⟨t, h1, h2⟩ => ⟨t, h1, SqT_up s h2⟩) (by omega) hR2'.at_ hD ?_ ?_
          · rintro e t Ga Qy Qn hm sa hacc he heo ky_ kn
            cases e with
            | wr c => exact ⟨rfl, _, rfl, t, _, 0, _, rfl, rfl, he, rfl, rfl, _, rfl, iteT ⟨_, rfl, ky_ _ _ rfl (Same.refl _) ⟨t, rfl, heo⟩⟩⟩
            | bar => exact ⟨rfl, _, rfl, t, _, 0, _, rfl, rfl, he, rfl, rfl, _, rfl, iteF (kn _ rfl (Same.refl _))⟩
            | tell => exact ⟨rfl, _, rfl, t, _, 0, _, rfl, rfl, he, rfl, rfl, _, rfl, iteT ⟨_, rfl, ky_ _ _ rfl (Same.refl _) ⟨t, rfl, heo⟩⟩⟩
          · intro G8 ys s8 hys py
            obtain ⟨es1, ees⟩ : ∃ x, x = es.filter fun e => decide (e ≠ Ev.bar) := ⟨_, rfl⟩
            have les := List.length_filter_le (fun e => decide (e ≠ Ev.bar)) es
            rw [← ees] at les py
            have hB : RunAt K G8 D es1 := LsT.of_paired hys (paired_mono (fun x y ⟨t, e, h⟩ => ⟨t, e, SqT_up (off_le _ _) h⟩) py)
            obtain ⟨tb, hb, pb⟩ := hB.pd
            have ltb := paired_len pb
            refine ⟨(by show 1 ≤ sizeLine; omega), fun t3 ht3 => ⟨(by show 1 ≤ sizeLine; omega), fun b3 hb3 => ?_⟩⟩
            have x3 := Same.updf (o := .tup [V.str "tell"]) ht3
            have x4 := Same.updf (o := .lst [V.ref t3]) hb3
            have f3 := x4 _ _ (upd_same (H := G8) (a := t3) (o := .tup [V.str "tell"]))
            have f4 := upd_same (H := upd G8 t3 (.tup [V.str "tell"])) (a := b3) (o := .lst [V.ref t3])
            have x14 := x3.trans x4
            have ey : ys = tb.map V.ref := by
              rw [hys] at hb
              exact HO.lst.inj (Option.some.inj hb)
            refine ⟨D, b3, _, _, rfl, rfl, x14 _ _ hys, f4, ?_, fun q5 hq5 => ?_⟩
            · rw [ey, List.length_map]
              show _ + 1 ≤ _
              omega
            have x5 := Same.updf (o := .lst (ys ++ [V.ref t3])) hq5
            have x15 := x14.trans x5
            have hBars : RunAt K (upd (upd (upd G8 t3 (.tup [V.str "tell"])) b3 (.lst [V.ref t3])) q5 (.lst (ys ++ [V.ref t3]))) q5 (es1 ++ [.tell]) := by
              refine LsT.of_pd (ts := tb ++ [t3]) (by rw [upd_same, ey, List.map_append]; rfl) (paired_app' (paired_mono' (fun _ _ h => SqT_up x15 h) pb) ?_)
              exact .cons (SqT.of (x5 _ _ f3)) .nil
            have s6 := s8.trans x15
            have n5 : q5 ≠ pu := fresh_ne (P2.same (s8.trans x14)) hq5
            have n5q : q5 ≠ qn := fun z => by
              rw [z] at hq5
              have := (s8.trans x14) _ _ hN2
              rw [hq5] at this
              cases this
            exact rest _ q5 ⟨es1 ++ [.tell], But.of s6, P2.same s6, ⟨hBars.offp n5 (P2.same s6), by simp, by rw [List.length_append]; show _ + 1 ≤ _; omega⟩, by rw [List.length_append]; show _ + 1 ≤ _; omega, n5, n5q⟩
      · rintro G3 q3 ⟨es3, b3, P3, hR3, l9, n3, n3q⟩
        have T3 := tabs_but b3 (pul P2) T2
        have h3 := b3 _ _ nTm h2
        have hN3 := b3 _ _ nqn hN2
        have b13 := b12.trans b3
        clear b12 b3 T2 h2 hN2 hR2 P2
        refine via_nx ?_
        refine norm (σ' := [some (.ref a), some (.ref pu), some (.ref qn), some (.int (mo : Nat)), some (.ref q3), v5, none, none, none, none]) rfl ?_
        refine ⟨_, rfl, _, rfl, _, rfl, pu, 2, _, rfl, by decide, log_small (by decide) (by decide), P3, by rw [m2]; omega, by rw [m2]; omega, fun r2 Ga r0' r1' b4 P4 => ?_⟩
        rw [m2] at P4
        obtain ⟨r2, rfl⟩ : ∃ z : Nat, r2 = (z : Int) := ⟨r2.toNat, by omega⟩
        have hR4 := hR3.same (but_off b4)
        have T4 := tabs_but b4 (pul P3) T3
        refine ⟨_, _, rfl, rfl, pu, q3, es3, 2 + r2, _, rfl, P4, by omega, by omega, by omega, hR4.same (off_le _ _), by omega, fun q2 ws Gb b5 P5 nq2 hW => ?_⟩
        have n2 : q2 ≠ pu := fresh_ne P4 nq2
        have b45 := b4.trans b5
        have hN5 := b45 _ _ nqn hN3
        have n2q : q2 ≠ qn := fun z => by
          have := b4 _ _ nqn hN3
          rw [z, this] at nq2
          cases nq2
        have hR5 := hR4.same (but_off b5)
        have T5 := tabs_but b5 (pul P4) T4
        have h5 := b45 _ _ nTm h3
        have b15 := b13.trans b45
        clear b13 b45 b4 b5 T3 T4 hR3 hR4 h3 hN3 P3 P4
        refine via_nx ?_
        refine norm (σ' := [some (.ref a), some (.ref pu), some (.ref qn), some (.int (mo : Nat)), some (.ref q3), some (.ref q2), none, none, none, none]) rfl ?_
        refine ⟨_, rfl, _, rfl, _, rfl, pu, q3, q2, es3, ws, _, rfl, P5, by omega, n3, n2, hR5, l9, hW, T5, fun Gc b6 P6 T6 => ⟨_, rfl, iteF ?_⟩⟩
        have hR6 := hR5.ext (butN_off b6)
        have hW6 := hW.ext (butN_off b6)
        refine ⟨_, rfl, _, rfl, _, rfl, q3, es3, rfl, hR6.same (off_le _ _), by omega, fun qp wp Gd sp npq hWp => ?_⟩
        have P7 := P6.same sp
        have nqp : qp ≠ pu := fresh_ne P6 npq
        refine ⟨_, rfl, pu, 4, _, rfl, by decide, log_small (by decide) (by decide), P7, by rw [m4]; omega, by rw [m4]; omega, fun r3 Ge r0'' r1'' b8 P8 => ?_⟩
        rw [m4] at P8
        obtain ⟨r3, rfl⟩ : ∃ z : Nat, r3 = (z : Int) := ⟨r3.toNat, by omega⟩
        have hWp8 : WtOk K (off Ge pu) qp es3 wp := ⟨(hWp.at_.offp nqp P7).same (but_off b8), hWp.ok, hWp.len⟩
        obtain ⟨tp, hp, ltp, _⟩ := id hWp8.at_
        refine ⟨_, _, rfl, rfl, _, rfl, qp, _, rfl, SqL.of (off_le _ _ _ _ hp), fun c hc => ?_⟩
        rw [show (1 : Int) + (r3 : Int) = ((1 + r3 : Nat) : Int) by omega, cut_pre]
        have nc : c ≠ pu := fresh_ne P8 hc
        have sc := Same.updf (o := .lst ((tp.map V.ref).take (1 + r3))) hc
        have hWc : WtOk K (off (upd Ge c (.lst ((tp.map V.ref).take (1 + r3)))) pu) c es3 (wp.take (1 + r3)) := wt_take (1 + r3) (hWp8.same (off_same pu sc)) (off_same pu sc _ _ hp) ((off_at nc).trans upd_same)
        have b68 : ButN pu Gc (upd Ge c (.lst ((tp.map V.ref).take (1 + r3)))) := ButN.of ((But.of sp).trans (b8.trans (But.of sc)))
        have b58 := b6.trans b68
        have T8 := tabs_same sc (tabs_but b8 (pul P7) (tabs_same sp T6))
        refine ⟨pu, q3, c, es3, wp.take (1 + r3), _, rfl, P8.same sc, by omega, n3, nc, hR5.ext (butN_off b58), l9, hWc, T8, fun Gf b9 P9 T9 => ⟨_, rfl, iteF ?_⟩⟩
        have b59 := b58.trans b9
        have hR9 := hR5.ext (butN_off b59)
        have hW9 := hW.ext (butN_off b59)
        have hN9 := b59 _ _ nqn hN5 nt
        have h9 := b59 _ _ nTm h5 (fun ps z => by cases z)
        have b19 := (ButN.of b15).trans b59
        clear b58 b68 b59 b9 b6 T5 T6 T8 hR5 hR6 hW hW6 hWc hWp8 hp sc hc b8 P5 P6 P7 P8 b15 sp
        refine via_nx ?_
        refine ⟨_, rfl, Or.inl ⟨rfl, _, SqL.of hN9⟩, _, rfl, _, rfl, q3, q2, es3, ws, rfl, hR9.same (off_le _ _), hW9.same (off_le _ _), T9, fun qf Gg eg Tg nf hf => ?_⟩
        have Pg := purse_ext eg P9
        have nfp : qf ≠ pu := by
          obtain ⟨xs, e⟩ := pul P9
          exact (nf.ne e).symm
        have nfq : qf ≠ qn := (nf.ne hN9).symm
        refine ⟨_, rfl, _, rfl, (by show 3 ≤ sizeLine; omega), fun tn htn => ?_⟩
        have stn := Same.updf (o := .lst [V.ref qf, V.ref q3, V.ref q2]) htn
        have ntp : tn ≠ pu := fresh_ne Pg htn
        have ee := eg.trans (ExtN.of stn)
        have hNz := ee _ _ hN9 nt
        have ntq : tn ≠ qn := fun z => by
          rw [z] at htn
          have := eg _ _ hN9 nt
          rw [htn] at this
          cases this
        have rtn := upd_same (H := Gg) (a := tn) (o := .lst [V.ref qf, V.ref q3, V.ref q2])
        have hf := stn _ _ hf
        have hRz := hR9.ext (butN_off (ButN.ofN ee))
        have hWz := hW9.ext (butN_off (ButN.ofN ee))
        have Pz := Pg.same stn
        have Tz := tabs_same stn Tg
        have hTz := ee _ _ h9 (fun ps z => by cases z)
        have bz := b19.trans (ButN.ofN ee)
        obtain ⟨Gz, eG⟩ : ∃ X, X = upd Gg tn (.lst [V.ref qf, V.ref q3, V.ref q2]) := ⟨_, rfl⟩
        rw [← eG] at hNz rtn hf hRz hWz Pz Tz hTz bz ⊢
        have hl : ∃ ys, off Gz pu qn = some (.lst ys) := ⟨_, (off_at nqn).trans hNz⟩
        refine ⟨qn, _, _, rfl, rfl, hNz, by omega, ?_⟩
        refine ⟨⟨_, Pz.same' (upd_ne nqn.symm), by omega⟩, tabs_but But.upd' ⟨_, hNz⟩ Tz, by rw [upd_ne nTq]; exact hTz, ⟨_, upd_same, by rw [List.length_append, lxn]; rfl, fun y hy => ?_⟩, _, _, _, rfl⟩
        rcases List.mem_append.mp hy with hy | hy
        · exact ((kn y hy).ext (extN_off (butN_off bz))).ext off_upd2
        · rw [List.mem_singleton.mp hy]
          have o2 : ∀ {c : Addr} {o : HO}, c ≠ pu → c ≠ qn → Gz c = some o → off (off Gz pu) qn c = some o := fun n1 n2 e => (off_at n2).trans ((off_at n1).trans e)
          exact NotV.ext off_upd2 ⟨tn, qf, q3, q2, es3, ws, rfl, o2 ntp ntq rtn, o2 nfp nfq hf, ⟨hRz.at_.off1 n3q hl, hRz.ne, hRz.len⟩, l9, ⟨hWz.at_.off1 n2q hl, hWz.ok, hWz.len⟩⟩
    · rintro σ G ⟨⟨M, PG, lM⟩, TG, _, ⟨xn, hN, lxn, kn⟩, v3, v4, v5, rfl⟩
      obtain ⟨G0, eG⟩ : ∃ X, X = G := ⟨_, rfl⟩
      refine via_nx ?_
      refine ⟨_, rfl, qn, rfl, ⟨_, SqL.of hN⟩, ?_⟩
      refine for_list (xs := xn) (fun i σ G' => Same G G' ∧ ∃ v4 v5 v6, σ = [some (.ref a), some (.ref pu), some (.ref qn), v3, v4, v5, v6, none, none, none])
        ⟨Same.refl _, v4, v5, none, rfl⟩ (fun i σ G' _ hh => SqL.of (hh.1 _ _ hN)) ?_ ?_
      · rintro i y σ G' hy ⟨sG, v4, v5, v6, rfl⟩
        obtain ⟨T, q, ra, rb, es, ws, rfl, hT', hq, hR, l9, hW⟩ := kn y (List.mem_of_getElem? hy)
        have sO : Same (off (off G pu) qn) G' := fun c o e => sG _ _ (off_le _ _ _ _ (off_le _ _ _ _ e))
        have hT' := sO _ _ hT'
        have hq := sO _ _ hq
        have hR := hR.same sO
        have hW := hW.same sO
        have lE := ends_short hR.ne hW.ok
        refine ⟨T, [_, _, _], rfl, SqL.of hT', rfl, _, [_, _], rfl, _, [_], rfl, _, [], rfl, rfl, ?_⟩
        refine ⟨_, rfl, _, rfl, _, rfl, ra, rb, q, es, ws, _, rfl, hR, hW, hq, by omega, fun G1 z1 => ?_⟩
        rw [enough_served hW.ok, ends_serve (broken_lt hW.ok)]
        refine ⟨_, rfl, iteF ?_⟩
        refine ⟨_, rfl, q, _, rfl, .inl (SqL.of (z1 _ _ hq)), _, rfl, _, rfl, ra, rb, es, ws, rfl, hR.same z1, by omega, hW.same z1, fun G2 z2 => ?_⟩
        have le : (numsV (ends (brokenL es ws))).length = (ends (brokenL es ws)).length := List.length_map _
        refine ⟨rfl, _, rfl, ?_⟩
        rw [le]
        exact iteNeg (c := !decide (V.int ((ends (brokenL es ws)).length : Int) = V.int ((ends (brokenL es ws)).length : Int))) (by rw [decide_eq_true rfl]; exact Bool.false_ne_true) ⟨sG.trans (z1.trans z2), _, _, _, rfl⟩
      · rintro σ Gx ⟨sx, v4, v5, v6, rfl⟩
        have Tx := tabs_same sx TG
        refine via_nx ?_
        refine ⟨(40 : Int), rfl, by decide, by decide, fun D1 hD1 => ?_⟩
        rw [show (40 : Int).toNat = 40 from rfl]
        refine lc_rel (walk_range (lo := 0) (n := 40)) (fun _ => true) (fun i y G => ∃ t, y = .ref t ∧ SqT K G t (Ev.wr i).v) (fun i y G G' s ⟨t, e, h⟩ => ⟨t, e, SqT_up s h⟩) (by decide) hD1 (fun _ _ => trivial) ?_ ?_
        · rintro i v Ga Gb Qy Qn hi sa hacc ⟨rfl, rfl⟩ ky_ kn
          dsimp only
          rw [Int.zero_add]
          obtain ⟨acc, hacc⟩ := hacc
          refine ⟨rfl, _, rfl, (by show 2 ≤ sizeLine; omega), fun T hT => ky_ _ _ rfl (Same.updf hT) ⟨T, rfl, SqT.of ((off_at (fun z => by rw [z, hacc] at hT; cases hT)).trans upd_same)⟩⟩
        · intro G1 ys sG1 hys py
          rw [List.filter_eq_self.mpr (fun _ _ => rfl)] at py
          have hB : RunAt K G1 D1 ((List.range 40).map Ev.wr) := LsT.of_paired hys (paired_mapG (paired_mono (fun x y ⟨t, e, h⟩ => ⟨t, e, SqT_up (off_le _ _) h⟩) py))
          obtain ⟨tb, hb, pb⟩ := hB.pd
          have ltb := paired_len pb
          rw [List.length_map, List.length_range] at ltb
          refine ⟨(by show 1 ≤ sizeLine; omega), fun t3 ht3 => ⟨(by show 1 ≤ sizeLine; omega), fun b3 hb3 => ?_⟩⟩
          have x3 := Same.updf (o := .tup [V.str "tell"]) ht3
          have x4 := Same.updf (o := .lst [V.ref t3]) hb3
          have f3 := x4 _ _ (upd_same (H := G1) (a := t3) (o := .tup [V.str "tell"]))
          have f4 := upd_same (H := upd G1 t3 (.tup [V.str "tell"])) (a := b3) (o := .lst [V.ref t3])
          have x14 := x3.trans x4
          have ey : ys = tb.map V.ref := by
            rw [hys] at hb
            exact HO.lst.inj (Option.some.inj hb)
          refine ⟨D1, b3, _, _, rfl, rfl, x14 _ _ hys, f4, ?_, fun ql hql => ?_⟩
          · rw [ey, List.length_map]
            show _ + 1 ≤ _
            omega
          have x5 := Same.updf (o := .lst (ys ++ [V.ref t3])) hql
          have x15 := x14.trans x5
          have hBars : RunAt K (upd (upd (upd G1 t3 (.tup [V.str "tell"])) b3 (.lst [V.ref t3])) ql (.lst (ys ++ [V.ref t3]))) ql es40 := by
            refine LsT.of_pd (ts := tb ++ [t3]) (by rw [upd_same, ey, List.map_append]; rfl) (paired_app' (paired_mono' (fun _ _ h => SqT_up x15 h) pb) ?_)
            exact .cons (SqT.of (x5 _ _ f3)) .nil
          have sH := sG1.trans x15
          obtain ⟨G2, eG2⟩ : ∃ X, X = upd (upd (upd G1 t3 (.tup [V.str "tell"])) b3 (.lst [V.ref t3])) ql (.lst (ys ++ [V.ref t3])) := ⟨_, rfl⟩
          rw [← eG2] at hBars sH ⊢
          have T2 := tabs_same sH Tx
          clear eG2 x5 x15 x14 x4 x3 f3 f4 hql hb3 ht3 hb pb hys py hB ey sH sG1
          refine ⟨(40 : Int), rfl, by decide, by decide, fun D2 hD2 => ?_⟩
          rw [show (40 : Int).toNat = 40 from rfl]
          refine lc_rel (walk_range (lo := 0) (n := 40)) (fun _ => true) (fun i y G => ∃ t, y = .ref t ∧ SqT K G t (wv (i, i + 1))) (fun i y G G' s ⟨t, e, h⟩ => ⟨t, e, SqT_up s h⟩) (by decide) hD2 (fun _ _ => trivial) ?_ ?_
          · rintro i v Ga Gb Qy Qn hi sa hacc ⟨rfl, rfl⟩ ky_ kn
            dsimp only
            rw [Int.zero_add]
            obtain ⟨acc, hacc⟩ := hacc
            exact ⟨rfl, _, rfl, _, rfl, _, _, rfl, rfl, (by show 2 ≤ sizeLine; omega), fun T hT => ky_ _ _ rfl (Same.updf hT) ⟨T, rfl, SqT.of ((off_at (fun z => by rw [z, hacc] at hT; cases hT)).trans upd_same)⟩⟩
          · intro G3 yw s3 hyw pw
            rw [List.filter_eq_self.mpr (fun _ _ => rfl)] at pw
            have hW : WtAt K G3 D2 ws40 := LsT.of_paired hyw (paired_mapG (f := fun i => (i, i + 1)) (paired_mono (fun x y ⟨t, e, h⟩ => ⟨t, e, SqT_up (off_le _ _) h⟩) pw))
            have R4 : RunOk K G3 ql es40 := ⟨hBars.same s3, by decide, by decide⟩
            have W4 : WtOk K G3 D2 es40 ws40 := ⟨hW, ok40, by decide⟩
            have T4 := tabs_same s3 T2
            clear hBars hW T2 hyw pw
            refine ⟨_, _, rfl, ?_⟩
            refine via_nx ?_
            refine norm (σ' := [some (.ref a), some (.ref pu), some (.ref qn), v3, v4, some (.ref D2), v6, some (.ref ql), none, none]) rfl ?_
            have nt : ∀ {xs : List V} (ps), HO.lst xs ≠ .tbl ps := fun ps z => by cases z
            have rg : rgV 1 41 = numsV ps40 := by
              unfold rgV numsV ps40
              rw [show ((41 : Int) - 1).toNat = 40 from rfl, List.map_map]
              refine List.map_congr_left fun i _ => ?_
              show V.int (1 + (i : Int)) = V.int (((i + 1 : Nat) : Int))
              congr 1
              omega
            refine ⟨_, rfl, _, rfl, ql, D2, es40, ws40, rfl, R4, W4, T4, fun q1 G5 e5 T5 n5 h5 => ?_⟩
            rw [broken40, ends40] at h5
            refine ⟨_, rfl, _, rfl, ql, D2, es40, ws40, rfl, R4.ext e5, W4.ext e5, T5, fun q2 G6 e6 T6 n6 h6 => ?_⟩
            rw [broken40, apart40] at h6
            have e56 := e5.trans e6
            refine ⟨_, rfl, _, rfl, 1, 41, rfl, rfl, RgOk.of_le (by decide) (by decide) (by decide) (by decide), fun r1 hr1 => ?_⟩
            rw [rg]
            have x1 := Same.updf (o := .lst (numsV ps40)) hr1
            have e57 := e56.trans (ExtN.of x1)
            refine ⟨ql, D2, r1, es40, ws40, ps40, rfl, R4.ext e57, by decide, W4.ext e57, upd_same, pl40, fun G8 s8 => ?_⟩
            rw [enough40]
            refine ⟨(by show 3 ≤ sizeLine; omega), fun a1 ha1 => ?_⟩
            have x2 := Same.updf (o := .lst [V.ref q1, V.ref q2, V.bl true]) ha1
            refine ⟨1, 41, rfl, rfl, RgOk.of_le (by decide) (by decide) (by decide) (by decide), fun r2 hr2 => ?_⟩
            rw [rg]
            have x3 := Same.updf (o := .lst (numsV ps40)) hr2
            refine ⟨_, rfl, (by show 3 ≤ sizeLine; omega), fun a2 ha2 => ?_⟩
            have x4 := Same.updf (o := .lst [V.ref r2, V.ref D2, V.bl true]) ha2
            have x24 := x2.trans (x3.trans x4)
            have x14 := (x1.trans s8).trans x24
            have e58 := e57.trans (ExtN.of (s8.trans x24))
            have h5' := (e6.trans (ExtN.of x14)) _ _ h5 nt
            have g1 := (x3.trans x4) _ _ (upd_same (a := a1) (o := .lst [V.ref q1, V.ref q2, V.bl true]))
            have g2 := x4 _ _ (upd_same (a := r2) (o := .lst (numsV ps40)))
            refine ⟨.ref a1, .ref a2, .list [.list (ps40.map fun x : Nat => PyData.int (x : Int)), .list (ws40.map pd), .bool true], rfl,
              TD.lst g1 rfl (Nat.le_of_ble_eq_true rfl) (td_cons (nums_td 7 h5' (by decide)) (td_cons (wts_td 6 (h6.same x14) (by decide)) (td_cons (TD.flat (.bl _)) td_nil))),
              TD.lst upd_same rfl (Nat.le_of_ble_eq_true rfl) (td_cons (nums_td 7 g2 (by decide)) (td_cons (wts_td 6 (W4.ext e58).at_ (by decide)) (td_cons (TD.flat (.bl _)) td_nil))), fun G9 s9 => ⟨_, rfl, iteF ?_⟩⟩
            have T9 := tabs_same (x14.trans s9) T6
            clear g1 g2 h5' x24 x14 x4 x3 x2 x1 e58 e57 e56 h6 h5 e6 e5 T6 T5 T4 R4 W4 hr1 hr2 ha1 ha2 s8
            refine via_nx ?_
            refine ⟨(by show 1 ≤ sizeLine; omega), fun t1 ht1 => ⟨(by show 1 ≤ sizeLine; omega), fun l1 hl1 => ⟨(by show 0 ≤ sizeLine; omega), fun e1 he1 => ?_⟩⟩⟩
            have x1 := Same.updf (o := .tup [V.str "tell"]) ht1
            have x2 := Same.updf (o := .lst [V.ref t1]) hl1
            have x3 := Same.updf (o := .lst []) he1
            have R1 : RunOk K (upd (upd (upd G9 t1 (.tup [V.str "tell"])) l1 (.lst [V.ref t1])) e1 (.lst [])) l1 [.tell] := ⟨LsT.of_pd (ts := [t1]) (x3 _ _ upd_same) (.cons (SqT.of ((x2.trans x3) _ _ upd_same)) .nil), by decide, by decide⟩
            have W0 : ∀ {G : Hp} {e : Addr}, G e = some (.lst []) → WtOk K G e [.tell] [] := fun h => ⟨LsT.nil h, ⟨(fun w h => nomatch h), .nil⟩, by decide⟩
            refine ⟨l1, e1, [.tell], [], rfl, R1, W0 upd_same, tabs_same ((x1.trans x2).trans x3) T9, fun q3 Ga ea Ta na ha => ?_⟩
            rw [ends0] at ha
            refine ⟨(by show 0 ≤ sizeLine; omega), fun e2 he2 => ?_⟩
            have x4 := Same.updf (o := .lst []) he2
            refine ⟨.ref q3, .ref e2, .list [], rfl, nums_td (l := []) 8 (x4 _ _ ha) (by decide), nums_td (l := []) 8 upd_same (by decide), fun Gb sb => ?_⟩
            refine ⟨true, rfl, iteT ?_⟩
            refine ⟨(by show 1 ≤ sizeLine; omega), fun t2 ht2 => ⟨(by show 1 ≤ sizeLine; omega), fun l2 hl2 => ⟨(by show 0 ≤ sizeLine; omega), fun e3 he3 => ?_⟩⟩⟩
            have y1 := Same.updf (o := .tup [V.str "tell"]) ht2
            have y2 := Same.updf (o := .lst [V.ref t2]) hl2
            have y3 := Same.updf (o := .lst []) he3
            have R2 : RunOk K (upd (upd (upd Gb t2 (.tup [V.str "tell"])) l2 (.lst [V.ref t2])) e3 (.lst [])) l2 [.tell] := ⟨LsT.of_pd (ts := [t2]) (y3 _ _ upd_same) (.cons (SqT.of ((y2.trans y3) _ _ upd_same)) .nil), by decide, by decide⟩
            refine ⟨l2, e3, [.tell], [], rfl, R2, W0 upd_same, fun Gc sc => ?_⟩
            rw [show cnt (brokenL [.tell] []) ([Ev.tell] : List Ev).length (ends (brokenL [.tell] [])).length 0 = 1 from cnt0]
            exact ⟨rfl, k _⟩
end
end K17
set_option Elab.async false
set_option linter.all false
set_option maxRecDepth 100000
set_option maxHeartbeats 16000000
/-! The end. -/
namespace K17
open PySem PySem.Spec PyProof.Rows L2 KB
section
variable {P : Program} {w : World} {K : PySem.W.Frag} {h : Heap} {mg : Str → Option Value} {base : Heap}
theorem facM (c : He.SaysD fa fn K) {f : He.Fa} (hf : f ∈ fa) : f.ok K = true := by
  have c1 := (He.ba (show ((fa.all fun f => f.ok K) && fn.all fun d => d.ok K) = true from congrArg (fun z : He.AlD => z.1) c)).1
  exact List.all_eq_true.mp c1 f hf
theorem facts {f : Addr} (X : K.In h) (G : h.Ns mainGlobals mg) (hfa : mg ("law" : Str) = some (.ref f)) (c : He.SaysD fa fn K) (ex : exB K = true) :
    ∃ fd : FuncData, (∀ (s : Shared) (v : Value), BindsTo s fd ⟨[v], []⟩ [("_law_script", v)]) ∧ ∀ base : Heap, K.In base → base.Ns mainGlobals mg → LamX.TabB base mg (cA K) (tA K) → FnOk P w K mg base CX0 12 f fd ["_law_script"] (spLaw K) := by
  obtain ⟨d_is_whole_number, F_is_whole_number⟩ := c.def_ 0 (d := dT 5 "is_whole_number") rfl
  obtain ⟨d_is_count, F_is_count⟩ := c.def_ 1 (d := dT 6 "is_count") rfl
  obtain ⟨d_is_count_below, F_is_count_below⟩ := c.def_ 2 (d := dT 7 "is_count_below") rfl
  obtain ⟨d_is_tuple_of, F_is_tuple_of⟩ := c.def_ 3 (d := dT 8 "is_tuple_of") rfl
  obtain ⟨d_ascends, F_ascends⟩ := c.def_ 4 (d := dT 9 "ascends") rfl
  obtain ⟨d_are_ascending_counts, F_are_ascending_counts⟩ := c.def_ 5 (d := dT 10 "are_ascending_counts") rfl
  obtain ⟨d_are_ascending_below, F_are_ascending_below⟩ := c.def_ 6 (d := dT 11 "are_ascending_below") rfl
  obtain ⟨d_is_event, F_is_event⟩ := c.def_ 7 (d := dT 13 "is_event") rfl
  obtain ⟨d_are_events, F_are_events⟩ := c.def_ 8 (d := dT 14 "are_events") rfl
  obtain ⟨d_need_run, F_need_run⟩ := c.def_ 9 (d := dT 15 "need_run") rfl
  obtain ⟨d_is_wait_of, F_is_wait_of⟩ := c.def_ 10 (d := dT 16 "is_wait_of") rfl
  obtain ⟨d_are_waits_of, F_are_waits_of⟩ := c.def_ 11 (d := dT 17 "are_waits_of") rfl
  obtain ⟨d_need_waits, F_need_waits⟩ := c.def_ 12 (d := dT 18 "need_waits") rfl
  obtain ⟨d_barriers_ahead, F_barriers_ahead⟩ := c.def_ 13 (d := dT 19 "barriers_ahead") rfl
  obtain ⟨d_broken_waits, F_broken_waits⟩ := c.def_ 14 (d := dT 20 "broken_waits") rfl
  obtain ⟨d_apart_of, F_apart_of⟩ := c.def_ 15 (d := dT 21 "apart_of") rfl
  obtain ⟨d_ends_of, F_ends_of⟩ := c.def_ 16 (d := dT 22 "ends_of") rfl
  obtain ⟨d_many_fewest, F_many_fewest⟩ := c.def_ 17 (d := dT 23 "many_fewest") rfl
  obtain ⟨d_reach_from, F_reach_from⟩ := c.def_ 18 (d := dT 24 "reach_from") rfl
  obtain ⟨d_need_places, F_need_places⟩ := c.def_ 19 (d := dT 26 "need_places") rfl
  obtain ⟨d_is_enough, F_is_enough⟩ := c.def_ 20 (d := dT 27 "is_enough") rfl
  obtain ⟨d_with_these, F_with_these⟩ := c.def_ 21 (d := dT 28 "with_these") rfl
  obtain ⟨d_barriers_for, F_barriers_for⟩ := c.def_ 22 (d := dT 29 "barriers_for") rfl
  obtain ⟨d_many_least, F_many_least⟩ := c.def_ 23 (d := dT 30 "many_least") rfl
  obtain ⟨d_apart_waits, F_apart_waits⟩ := c.def_ 24 (d := dT 31 "apart_waits") rfl
  obtain ⟨d_are_apart, F_are_apart⟩ := c.def_ 25 (d := dT 32 "are_apart") rfl
  obtain ⟨d_purse, F_purse⟩ := c.def_ 26 (d := dT 34 "_law_purse") rfl
  obtain ⟨d_mixed, F_mixed⟩ := c.def_ 27 (d := dT 35 "_law_mixed") rfl
  obtain ⟨d_draw, F_draw⟩ := c.def_ 28 (d := dT 36 "_law_draw") rfl
  obtain ⟨d_shuffled, F_shuffled⟩ := c.def_ 29 (d := dT 37 "_law_shuffled") rfl
  obtain ⟨d_same, F_same⟩ := c.def_ 30 (d := dT 38 "_law_same") rfl
  obtain ⟨d_exact, F_exact⟩ := c.def_ 31 (d := dT 39 "_law_exact") rfl
  obtain ⟨d_event, F_event⟩ := c.def_ 32 (d := dT 40 "_law_event") rfl
  obtain ⟨d_run, F_run⟩ := c.def_ 33 (d := dT 41 "_law_run") rfl
  obtain ⟨d_pairs_of, F_pairs_of⟩ := c.def_ 34 (d := dT 42 "_law_pairs_of") rfl
  obtain ⟨d_some_waits, F_some_waits⟩ := c.def_ 35 (d := dT 43 "_law_some_waits") rfl
  obtain ⟨d_is_between, F_is_between⟩ := c.def_ 36 (d := dT 44 "_law_is_between") rfl
  obtain ⟨d_enough, F_enough⟩ := c.def_ 37 (d := dT 45 "_law_enough") rfl
  obtain ⟨d_place_lists, F_place_lists⟩ := c.def_ 38 (d := dT 46 "_law_place_lists") rfl
  obtain ⟨d_fewest, F_fewest⟩ := c.def_ 39 (d := dT 47 "_law_fewest") rfl
  obtain ⟨d_are_own_apart, F_are_own_apart⟩ := c.def_ 40 (d := dT 48 "_law_are_own_apart") rfl
  obtain ⟨d_lists_right, F_lists_right⟩ := c.def_ 41 (d := dT 49 "_law_lists_right") rfl
  obtain ⟨d_law, F_law⟩ := c.def_ 42 (d := dT 50 "law") rfl
  have el : ∀ {α : Type} {l : List α} {i : Nat} {a : α}, l[i]? = some a → a ∈ l := fun h => List.mem_of_getElem? h
  have gl : ∀ {x : Str}, He.Fa.glo x ∈ fa0 → mg x = some (.ref (He.ga K x)) := fun {x} hx => He.glo_ok X G (facM c (List.mem_append_left _ hx))
  have fr : ∀ {x : Str}, He.Fa.free x ∈ fa1 → mg x = none := fun {x} hx => He.free_ok X G (facM c (List.mem_append_right _ (List.mem_append_left _ hx)))
  have f2 : ∀ {y : He.Fa}, y ∈ fa2 → y.ok K = true := fun {y} hx => facM c (List.mem_append_right _ (List.mem_append_right _ hx))
  have Z : FreeS mg := ⟨⟨fr (el (i := 0) rfl), fr (el (i := 1) rfl), fr (el (i := 2) rfl), fr (el (i := 3) rfl), fr (el (i := 4) rfl), fr (el (i := 5) rfl), fr (el (i := 6) rfl), fr (el (i := 7) rfl), fr (el (i := 8) rfl), fr (el (i := 9) rfl), fr (el (i := 10) rfl), fr (el (i := 11) rfl), fr (el (i := 12) rfl), fr (el (i := 13) rfl), fr (el (i := 14) rfl), fr (el (i := 15) rfl), fr (el (i := 16) rfl), fr (el (i := 17) rfl)⟩, fr (el (i := 18) rfl), fr (el (i := 19) rfl)⟩
  have g_is_whole_number := gl (x := "is_whole_number") (el (i := 0) rfl)
  have g_is_count := gl (x := "is_count") (el (i := 1) rfl)
  have g_is_count_below := gl (x := "is_count_below") (el (i := 2) rfl)
  have g_is_tuple_of := gl (x := "is_tuple_of") (el (i := 3) rfl)
  have g_ascends := gl (x := "ascends") (el (i := 4) rfl)
  have g_are_ascending_counts := gl (x := "are_ascending_counts") (el (i := 5) rfl)
  have g_are_ascending_below := gl (x := "are_ascending_below") (el (i := 6) rfl)
  have g_is_event := gl (x := "is_event") (el (i := 7) rfl)
  have g_are_events := gl (x := "are_events") (el (i := 8) rfl)
  have g_need_run := gl (x := "need_run") (el (i := 9) rfl)
  have g_is_wait_of := gl (x := "is_wait_of") (el (i := 10) rfl)
  have g_are_waits_of := gl (x := "are_waits_of") (el (i := 11) rfl)
  have g_need_waits := gl (x := "need_waits") (el (i := 12) rfl)
  have g_barriers_ahead := gl (x := "barriers_ahead") (el (i := 13) rfl)
  have g_broken_waits := gl (x := "broken_waits") (el (i := 14) rfl)
  have g_apart_of := gl (x := "apart_of") (el (i := 15) rfl)
  have g_ends_of := gl (x := "ends_of") (el (i := 16) rfl)
  have g_many_fewest := gl (x := "many_fewest") (el (i := 17) rfl)
  have g_reach_from := gl (x := "reach_from") (el (i := 18) rfl)
  have g_need_places := gl (x := "need_places") (el (i := 19) rfl)
  have g_is_enough := gl (x := "is_enough") (el (i := 20) rfl)
  have g_with_these := gl (x := "with_these") (el (i := 21) rfl)
  have g_barriers_for := gl (x := "barriers_for") (el (i := 22) rfl)
  have g_many_least := gl (x := "many_least") (el (i := 23) rfl)
  have g_apart_waits := gl (x := "apart_waits") (el (i := 24) rfl)
  have g_are_apart := gl (x := "are_apart") (el (i := 25) rfl)
  have g_purse := gl (x := "_law_purse") (el (i := 26) rfl)
  have g_mixed := gl (x := "_law_mixed") (el (i := 27) rfl)
  have g_draw := gl (x := "_law_draw") (el (i := 28) rfl)
  have g_shuffled := gl (x := "_law_shuffled") (el (i := 29) rfl)
  have g_same := gl (x := "_law_same") (el (i := 30) rfl)
  have g_exact := gl (x := "_law_exact") (el (i := 31) rfl)
  have g_event := gl (x := "_law_event") (el (i := 32) rfl)
  have g_run := gl (x := "_law_run") (el (i := 33) rfl)
  have g_pairs_of := gl (x := "_law_pairs_of") (el (i := 34) rfl)
  have g_some_waits := gl (x := "_law_some_waits") (el (i := 35) rfl)
  have g_is_between := gl (x := "_law_is_between") (el (i := 36) rfl)
  have g_enough := gl (x := "_law_enough") (el (i := 37) rfl)
  have g_place_lists := gl (x := "_law_place_lists") (el (i := 38) rfl)
  have g_fewest := gl (x := "_law_fewest") (el (i := 39) rfl)
  have g_are_own_apart := gl (x := "_law_are_own_apart") (el (i := 40) rfl)
  have g_lists_right := gl (x := "_law_lists_right") (el (i := 41) rfl)
  have g_law := gl (x := "law") (el (i := 42) rfl)
  have e12 := hfa.symm.trans g_law
  cases e12
  have bL := FunD.bindsA (ps := ["_law_script"]) F_law fun _ _ _ _ _ _ us hl => match us, hl with | [_], _ => rfl
  refine ⟨d_law, fun s v => bL s [v] rfl, fun base _ _ TB => ?_⟩
  have O_is_whole_number := ok_is_whole_number (P := P) (w := w) (base := base) F_is_whole_number Z  
  have O_is_count := ok_is_count (P := P) (w := w) (base := base) F_is_count Z g_is_whole_number F_is_whole_number O_is_whole_number 
  have O_is_count_below := ok_is_count_below (P := P) (w := w) (base := base) F_is_count_below Z g_is_count F_is_count O_is_count 
  have O_is_tuple_of := ok_is_tuple_of (P := P) (w := w) (base := base) F_is_tuple_of Z  
  have O_ascends := ok_ascends (P := P) (w := w) (base := base) F_ascends Z  
  have O_are_ascending_counts := ok_are_ascending_counts (P := P) (w := w) (base := base) F_are_ascending_counts Z g_ascends F_ascends O_ascends g_is_count F_is_count O_is_count 
  have O_are_ascending_below := ok_are_ascending_below (P := P) (w := w) (base := base) F_are_ascending_below Z g_are_ascending_counts F_are_ascending_counts O_are_ascending_counts 
  have O_is_event := ok_is_event (P := P) (w := w) (base := base) F_is_event Z g_is_tuple_of F_is_tuple_of O_is_tuple_of g_is_count F_is_count O_is_count 
  have O_are_events := ok_are_events (P := P) (w := w) (base := base) F_are_events Z g_is_event F_is_event O_is_event 
  have O_need_run := ok_need_run (P := P) (w := w) (base := base) F_need_run Z g_are_events F_are_events O_are_events 
  have O_is_wait_of := ok_is_wait_of (P := P) (w := w) (base := base) F_is_wait_of Z g_is_tuple_of F_is_tuple_of O_is_tuple_of g_is_count_below F_is_count_below O_is_count_below 
  have O_are_waits_of := ok_are_waits_of (P := P) (w := w) (base := base) F_are_waits_of Z g_ascends F_ascends O_ascends g_is_wait_of F_is_wait_of O_is_wait_of 
  have O_need_waits := ok_need_waits (P := P) (w := w) (base := base) F_need_waits Z g_are_waits_of F_are_waits_of O_are_waits_of 
  have O_barriers_ahead := ok_barriers_ahead (P := P) (w := w) (base := base) F_barriers_ahead Z  
  have O_broken_waits := ok_broken_waits (P := P) (w := w) (base := base) F_broken_waits Z g_barriers_ahead F_barriers_ahead O_barriers_ahead 
  have O_apart_of := ok_apart_of (P := P) (w := w) (base := base) F_apart_of Z TB
  have O_ends_of := ok_ends_of (P := P) (w := w) (base := base) F_ends_of Z g_apart_of F_apart_of O_apart_of 
  have O_reach_from := ok_reach_from (P := P) (w := w) (base := base) F_reach_from Z  
  have O_many_fewest := ok_many_fewest (P := P) (w := w) (base := base) F_many_fewest Z g_reach_from F_reach_from O_reach_from 
  have O_need_places := ok_need_places (P := P) (w := w) (base := base) F_need_places Z g_are_ascending_below F_are_ascending_below O_are_ascending_below 
  have O_with_these := ok_with_these (P := P) (w := w) (base := base) F_with_these Z  
  have O_is_enough := ok_is_enough (P := P) (w := w) (base := base) F_is_enough Z g_need_run F_need_run O_need_run g_need_waits F_need_waits O_need_waits g_need_places F_need_places O_need_places g_with_these F_with_these O_with_these g_broken_waits F_broken_waits O_broken_waits 
  have O_barriers_for := ok_barriers_for (P := P) (w := w) (base := base) F_barriers_for Z g_need_run F_need_run O_need_run g_need_waits F_need_waits O_need_waits g_ends_of F_ends_of O_ends_of g_broken_waits F_broken_waits O_broken_waits 
  have O_many_least := ok_many_least (P := P) (w := w) (base := base) F_many_least Z g_need_run F_need_run O_need_run g_need_waits F_need_waits O_need_waits g_many_fewest F_many_fewest O_many_fewest g_broken_waits F_broken_waits O_broken_waits 
  have O_apart_waits := ok_apart_waits (P := P) (w := w) (base := base) F_apart_waits Z g_need_run F_need_run O_need_run g_need_waits F_need_waits O_need_waits g_apart_of F_apart_of O_apart_of g_broken_waits F_broken_waits O_broken_waits 
  have O_are_apart := ok_are_apart (P := P) (w := w) (base := base) F_are_apart Z g_broken_waits F_broken_waits O_broken_waits g_barriers_for F_barriers_for O_barriers_for g_are_waits_of F_are_waits_of O_are_waits_of 
  have O_purse := ok_purse (P := P) (w := w) (base := base) F_purse Z.toFree
  have O_draw := ok_draw (P := P) (w := w) (base := base) F_draw Z.toFree F_mixed g_mixed
  have O_shuffled := ok_shuffled (P := P) (w := w) (base := base) F_shuffled Z g_draw F_draw O_draw 
  have O_same := ok_same (P := P) (w := w) (base := base) F_same Z g_same
  have O_exact := ok_exact (P := P) (w := w) (base := base) F_exact Z g_exact
  have O_exT := ok_exT (P := P) (w := w) (base := base) F_exact Z g_exact (ok_exI F_exact Z)
  have O_event := ok_event (P := P) (w := w) (base := base) F_event Z g_draw F_draw O_draw 
  have O_run := ok_run (P := P) (w := w) (base := base) F_run Z g_draw F_draw O_draw g_event F_event O_event 
  have O_pairs_of := ok_pairs_of (P := P) (w := w) (base := base) F_pairs_of Z  
  have O_some_waits := ok_some_waits (P := P) (w := w) (base := base) F_some_waits Z g_pairs_of F_pairs_of O_pairs_of g_draw F_draw O_draw 
  have O_is_between := ok_is_between (P := P) (w := w) (base := base) F_is_between Z  
  have O_enough := ok_enough (P := P) (w := w) (base := base) F_enough Z g_is_between F_is_between O_is_between 
  have O_place_lists := ok_place_lists (P := P) (w := w) (base := base) F_place_lists Z  
  have O_fewest := ok_fewest (P := P) (w := w) (base := base) F_fewest Z g_enough F_enough O_enough g_place_lists F_place_lists O_place_lists 
  have O_are_own_apart := ok_are_own_apart (P := P) (w := w) (base := base) F_are_own_apart Z g_is_between F_is_between O_is_between g_exact F_exact O_exT 
  have O_lists_right := ok_lists_right (P := P) (w := w) (base := base) F_lists_right Z g_fewest F_fewest O_fewest g_pairs_of F_pairs_of O_pairs_of g_barriers_for F_barriers_for O_barriers_for g_many_least F_many_least O_many_least g_apart_waits F_apart_waits O_apart_waits g_shuffled F_shuffled O_shuffled g_same F_same O_same g_exact F_exact O_exact g_are_own_apart F_are_own_apart O_are_own_apart g_place_lists F_place_lists O_place_lists g_enough F_enough O_enough g_is_enough F_is_enough O_is_enough g_are_apart F_are_apart O_are_apart g_draw F_draw O_draw 
  exact ok_law F_law Z g_purse F_purse O_purse g_run F_run O_run g_some_waits F_some_waits O_some_waits g_exact F_exact O_exact g_barriers_for F_barriers_for O_barriers_for g_many_least F_many_least O_many_least g_draw F_draw O_draw g_lists_right F_lists_right O_lists_right g_enough F_enough O_enough g_fewest F_fewest O_fewest g_apart_waits F_apart_waits O_apart_waits g_is_enough F_is_enough O_is_enough g_pairs_of F_pairs_of O_pairs_of 
end
end K17
open PySem PySem.W PySem.Calls PyProof.Rows
theorem PySem.Challenge.cw_weavestore_k17_whole_fewest_barriers_holds : PySem.Challenge.rw_weavestore_k17_whole_fewest_barriers.Holds := by
  w_on; o_law
  refine HandSHeadRun.head_any (r := OpenLaw.row PySem.Challenge.rw_weavestore_k17_whole_fewest_barriers) (q := view (OpenLaw.row PySem.Challenge.rw_weavestore_k17_whole_fewest_barriers).prog [50]) (H := K17.hk) (ob := K17.ob) (M := 20000) (loose := K17.names) (d := HandSHeadRun.topDef (OpenLaw.row PySem.Challenge.rw_weavestore_k17_whole_fewest_barriers).prog 50) (kwd := []) K17.ob_eq
    (by kernel_rfl) (fun s => by kernel_rfl) K17.run (by kernel_rfl) (by kernel_rfl) (by kernel_rfl) (by rfl) (by first | assumption | decide +kernel) (by decide +kernel) ⟨rfl, rfl, rfl, rfl, rfl, by decide +kernel⟩ ?hw ?hc
  case hw => w_witness2
  case hc =>
    refine LamX.walk_ofTsE (l := PySem.Challenge.rw_weavestore_k17_whole_fewest_barriers) (n := 63) (k := 12) (x := "_law_script") (CX := fun _ => L2.CX0) rfl (by decide) (by kernel_rfl) ⟨rfl, by decide, by decide⟩ ?F (fun _ _ _ _ _ h => h)
    intro w mg fa h Y G hmg0
    obtain ⟨K, KX, cx⟩ := Y
    have c := cx.t.d
    have ex := cx.more
    have hmg : mg ("law" : PySem.Str) = some (.ref fa) := by
      have e : (HandSHeadRun.topDef (OpenLaw.row PySem.Challenge.rw_weavestore_k17_whole_fewest_barriers).prog 50).name = ("law" : PySem.Str) := by kernel_rfl
      rw [← e]
      exact hmg0
    obtain ⟨fd, hb, hF⟩ := K17.facts (P := (PySem.Challenge.rw_weavestore_k17_whole_fewest_barriers).prog) (w := w) KX G hmg c ex
    have mem : (("apart_of", none) : He.Defn) ∈ K17.tf := List.mem_singleton.mpr rfl
    refine ⟨K, KX, fd, [(K17.cA K, K17.tA K)], K17.spLaw K, fun p hp => ?_, fun p hp => ?_, fun p hp => ?_, hb, fun H a ns hl _ hH hS => ⟨a, ns, rfl, hS, fun p hp => ?_, fun _ => rfl⟩, fun base hK hN hT => hF base hK hN (hT _ (List.mem_singleton.mpr rfl))⟩
    · rw [List.mem_singleton.mp hp]
      exact cx.empty _ mem
    · rw [List.mem_singleton.mp hp]
      exact cx.out _ mem
    · rw [List.mem_singleton.mp hp]
      exact PySem.W.codeHd_of_K KX (cx.hd _ mem)
    · rw [List.mem_singleton.mp hp]
      exact LamX.TabS.nil (hH (K17.cA K, K17.tA K) (List.mem_singleton.mpr rfl))
